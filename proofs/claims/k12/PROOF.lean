import PyProof.Rows.All
import Wide.All
import OpenK.AllK
import Wide.FinOn
import HandS.ForMost
import HandS.ForExc
import HandS.Wide
import HandS.DictTup
import HandS.SetKeys
import HandS.TryOnly
import HandS.ExcOwn
import HandS.IsInst
import HandS.Defaults
import HandS.Flow
import KE.KStateDown
import Lean
import HandS.Head0
import HandS.Head1
import HandS.Head2
import HandS.HeadEnd
import HandS.HeadHook1
import HandS.HeadHook2
import HandS.HeadHook4
import HandS.ExcIs
import PyProof.Rows.MatchSeqLen
import PyProof.DictMoreH
import HandS.Lambda
import HandS.SetFor
import HandS.TupMul
import HandS.TupAny
import HandS.Walk
import HandS.Iter
import HandS.Conv
import HandS.HeadWalk
import PySem.Challenge.RW_drawchain_k12_whole_rows_at_their_bound
set_option Elab.async false
set_option linter.all false
set_option maxRecDepth 100000
set_option maxHeartbeats 2000000
namespace Dc
open PySem PySem.Spec PyProof.Rows L2
/-! ### frames -/
/-- what nothing writes: a tuple, a locked thing -/
def fixd : HO → Bool
  | .tup _ => true
  | .frz _ _ => true
  | _ => false
/-- all that was tracked stands, but what lies in S (and may be written) -/
def Fr (S : List Addr) (H H' : Hp) : Prop := ∀ b o, H b = some o → (b ∉ S ∨ fixd o = true) → H' b = some o
theorem Fr.refl (S : List Addr) (H : Hp) : Fr S H H := fun _ _ h _ => h
theorem Fr.at {S : List Addr} {H H' : Hp} {b : Addr} {o : HO} (f : Fr S H H') (h : H b = some o) (n : b ∉ S) : H' b = some o := f b o h (.inl n)
theorem Fr.tp {S : List Addr} {H H' : Hp} {b : Addr} {xs : List V} (f : Fr S H H') (h : H b = some (.tup xs)) : H' b = some (.tup xs) := f b _ h (.inr rfl)
theorem Fr.fz {S : List Addr} {H H' : Hp} {b : Addr} {o : Obj} {u : HO} (f : Fr S H H') (h : H b = some (.frz o u)) : H' b = some (.frz o u) := f b _ h (.inr rfl)
theorem Fr.free {S : List Addr} {H H' : Hp} {b : Addr} (f : Fr S H H') (n : b ∉ S) (h : H' b = none) : H b = none := by
  cases q : H b with
  | none => rfl
  | some o => rw [f.at q n] at h; cases h
theorem Fr.mono {S S' : List Addr} {H H' : Hp} (f : Fr S H H') (h : ∀ b, b ∈ S → b ∈ S') : Fr S' H H' := fun b o e c =>
  f b o e (c.imp (fun n z => n (h b z)) id)
theorem Fr.trans {S S1 : List Addr} {H H1 H2 : Hp} (f : Fr S H H1) (g : Fr S1 H1 H2) (h : ∀ b, b ∈ S1 → b ∈ S ∨ H b = none) : Fr S H H2 := fun b o e c => by
  refine g b o (f b o e c) (c.imp (fun n z => ?_) id)
  rcases h b z with q | q
  · exact n q
  · rw [e] at q; cases q
theorem Fr.tr {S : List Addr} {H H1 H2 : Hp} (f : Fr S H H1) (g : Fr S H1 H2) : Fr S H H2 := f.trans g fun _ h => .inl h
theorem Fr.of_same {S : List Addr} {H H' : Hp} (s : ∀ b o, H b = some o → H' b = some o) : Fr S H H' := fun b o e _ => s b o e
/-- p holds nothing that must stand -/
def Loose (H : Hp) (p : Addr) : Prop := ∀ o, H p = some o → fixd o = false
theorem nt {H : Hp} {p : Addr} {u : HO} (h : H p = some u) (e : fixd u = false := by rfl) : Loose H p := fun o q => by
  rw [h] at q; cases q; exact e
theorem nt_none {H : Hp} {p : Addr} (h : H p = none) : Loose H p := fun o q => by rw [h] at q; cases q
/-- a new object -/
theorem Fr.new {S : List Addr} {H : Hp} {p : Addr} {o : HO} (h : H p = none) : Fr S H (upd H p o) := fun b u e _ => by
  rw [upd_ne (ne_of_none e h)]; exact e
/-- a thing of S is changed -/
theorem Fr.put {S : List Addr} {H : Hp} {p : Addr} {o : HO} (h : p ∈ S) (hp : Loose H p) : Fr S H (upd H p o) := fun b u e c => by
  have n : b ≠ p := fun z => by
    rcases c with q | q
    · rw [z] at q; exact q h
    · rw [z] at e; rw [hp _ e] at q; cases q
  rw [upd_ne n]; exact e
theorem Fr.putN {S : List Addr} {H H1 : Hp} {p : Addr} {o : HO} (f : Fr S H H1) (h : p ∈ S ∨ H p = none) (hp : Loose H1 p) : Fr S H (upd H1 p o) :=
  f.trans (Fr.put (S := [p]) List.mem_cons_self hp) fun b hb => by
    rw [List.mem_singleton] at hb; rw [hb]; exact h
theorem Fr.newN {S : List Addr} {H H1 : Hp} {p : Addr} {o : HO} (f : Fr S H H1) (h : H1 p = none) : Fr S H (upd H1 p o) := f.trans (Fr.new (S := []) h) fun b hb => by cases hb
theorem Fr.seqL {S : List Addr} {K : PySem.W.Frag} {H H' : Hp} {a : Addr} {xs : List V} (f : Fr S H H') (n : a ∉ S) (h : SqL K H a xs) : SqL K H' a xs := by
  rcases h with (h | ⟨o, h⟩) | h
  · exact .inl (.inl (f.at h n))
  · exact .inl (.inr ⟨o, f.fz h⟩)
  · exact .inr h
theorem Fr.seqT {S : List Addr} {K : PySem.W.Frag} {H H' : Hp} {a : Addr} {xs : List V} (f : Fr S H H') (h : SqT K H a xs) : SqT K H' a xs := by
  rcases h with (h | ⟨o, h⟩) | h
  · exact .inl (.inl (f.tp h))
  · exact .inl (.inr ⟨o, f.fz h⟩)
  · exact .inr h
theorem upd_keep {H : Hp} {a p : Addr} {o u : HO} (h : H a = some o) (n : H p = none) : upd H p u a = some o := by
  rw [upd_ne (ne_of_none h n)]; exact h
/-! ### callables by name -/
section
variable (P : Program) (w : World) (K : PySem.W.Frag) (mg : Str → Option Value) (base : Heap)
/-- the def that the module's name x stands for keeps the promise sp -/
def Cal (CX : CXT) (k : Nat) (x : Str) (ps : List Str) (sp : Sp) : Prop := ∃ f fd, FnOk P w K mg base CX k f fd ps sp ∧ Binds K fd ps [] ∧ PySem.W.keepIn K (.ref f) = true ∧ mg x = some (.ref f)
/-- the method m of the class at C -/
def CalM (CX : CXT) (k : Nat) (C : Addr) (m : Str) (ps : List Str) (sp : Sp) : Prop := ∃ f fd, FnOk P w K mg base CX k f fd ps sp ∧ Binds K fd ps [] ∧ Meth K C m f ∧ Cls K C
/-- the class x, at C, made by its __init__ -/
def CalI (CX : CXT) (k : Nat) (x : Str) (C : Addr) (ps : List Str) (sp : Sp) : Prop := ∃ f fd, FnOk P w K mg base CX k f fd ps sp ∧ Binds K fd ps [] ∧ Mk K C f ∧ mg x = some (.ref C)
end
section
variable {P : Program} {w : World} {K : PySem.W.Frag} {mg : Str → Option Value} {base : Heap} {CX : CXT} {k j : Nat} {x m : Str} {C : Addr} {ps : List Str} {sp sp' : Sp}
theorem Cal.mono (G : Cal P w K mg base CX j x ps sp) (h : j ≤ k) : Cal P w K mg base CX k x ps sp := let ⟨f, fd, F, r⟩ := G; ⟨f, fd, F.mono h, r⟩
theorem CalM.mono (G : CalM P w K mg base CX j C m ps sp) (h : j ≤ k) : CalM P w K mg base CX k C m ps sp := let ⟨f, fd, F, r⟩ := G; ⟨f, fd, F.mono h, r⟩
theorem CalI.mono (G : CalI P w K mg base CX j x C ps sp) (h : j ≤ k) : CalI P w K mg base CX k x C ps sp := let ⟨f, fd, F, r⟩ := G; ⟨f, fd, F.mono h, r⟩
theorem Cal.imp (G : Cal P w K mg base CX k x ps sp) (h : ∀ vs H Q E, sp' vs H Q E → sp vs H Q E) : Cal P w K mg base CX k x ps sp' := let ⟨f, fd, F, r⟩ := G; ⟨f, fd, F.imp h, r⟩
theorem CalM.imp (G : CalM P w K mg base CX k C m ps sp) (h : ∀ vs H Q E, sp' vs H Q E → sp vs H Q E) : CalM P w K mg base CX k C m ps sp' := let ⟨f, fd, F, r⟩ := G; ⟨f, fd, F.imp h, r⟩
end
section
variable {X : Cx} {CX : CXT} {k : Nat} {x m : Str} {C : Addr} {ps : List Str} {sp : Sp} {E : XK} {e o : Expr} {es : List Expr} {t : TA} {ta : TE} {p pos apos : Pos}
theorem pe_cal (G : Cal X.prog X.w X.K X.mg X.base CX k x ps sp) (hr : Room k X.A) (hx : Passes CX X E) (ha : PA X (e :: es) t) (hg : Gl X x := by rfl) (hdb : (x == ("__debug__" : Str)) = false := by decide)
    (he : starEach (e :: es) X.env = (false, eval e X.env) :: starEach es X.env := by rfl) (hpl : (backTo pos (starEach es X.env)).any (·.1) = false := by rfl) : PE X (.Call (.Name x p) (e :: es) [] pos) (tCall sp [] E t) := by
  obtain ⟨f, fd, F, b, kp, g⟩ := G
  exact pe_call F hr hg g kp b .nil hx ha hdb he hpl
end
/-! ### readings, a step at a time -/
section
variable {K : PySem.W.Frag} {σ : L2.St} {H : Hp} {i : Nat} {v x y : V} {ta tb te : TE} {t u : TT} {r : R2} {D : Ends} {s1 s2 : TS} {g : TG} {Q : VK} {a : Addr}
theorem rd_var (h : σ[i]? = some (some v)) (q : Q v H) : tVar i σ H Q := ⟨v, h, q⟩
theorem rd_c (q : Q v H) : tC v σ H Q := q
theorem rd_op (h : ta σ H fun x H1 => tb σ H1 fun y H2 => r x y H2 Q) : tOp r ta tb σ H Q := h
theorem rd_un {r : V → Hp → VK → Prop} (h : ta σ H fun x H1 => r x H1 Q) : tUn r ta σ H Q := h
theorem rd_test {Q : Bool → Hp → Prop} (h : te σ H fun x H' => ∃ k, x = .bl k ∧ Q k H') : tTest te σ H Q := h
theorem rd_B {Q : Bool → Hp → Prop} (h : te σ H fun x H' => ∃ k, x = .bl k ∧ Q k H') : tB te σ H Q := h
theorem rd_bl {b : Bool} {Q : Bool → Prop} (h : Q b) : ∃ k, V.bl b = .bl k ∧ Q k := ⟨b, rfl, h⟩
theorem rd_seq (h : s1 { D with nx := s2 D } σ H) : tSeq s1 s2 D σ H := h
theorem rd_next (h : D.nx σ H) : tNext D σ H := h
theorem rd_ifs (h : t σ H fun b H1 => if b = true then s1 D σ H1 else s2 D σ H1) : tIfS t s1 s2 D σ H := h
theorem rd_asg (h : te σ H fun x H1 => g x σ H1 D.nx) : tAsg te g D σ H := h
theorem rd_name {Q : L2.St → Hp → Prop} (h : Q (σ.set i (some v)) H) : gName i v σ H Q := h
theorem rd_ret (h : te σ H D.rt) : tRet te D σ H := h
theorem rd_drop (h : te σ H fun _ H1 => D.nx σ H1) : tDrop te D σ H := h
theorem rd_call {sp : Sp} {dvs : List V} {E : XK} {tl : TA} (h : tl σ H fun vs H1 => sp (vs ++ dvs) H1 Q E) : tCall sp dvs E tl σ H Q := h
theorem rd_cons {tl : TA} {Q : List V → Hp → Prop} (h : ta σ H fun x H1 => tl σ H1 fun xs H2 => Q (x :: xs) H2) : tCons ta tl σ H Q := h
theorem rd_nil {Q : List V → Hp → Prop} (h : Q [] H) : tNil σ H Q := h
theorem rd_cb {r : List V → Hp → VK → Prop} {tl : TA} (h : tl σ H fun vs H1 => r vs H1 Q) : tCB r tl σ H Q := h
theorem rd_I {C : Int → Int → Prop} {f : Int → Int → V} {i j : Int} (c : C i j) (q : Q (f i j) H) : rI C f (.int i) (.int j) H Q := ⟨i, j, rfl, rfl, c, q⟩
theorem rd_I0 {f : Int → Int → V} {i j : Int} (q : Q (f i j) H) : rI0 f (.int i) (.int j) H Q := ⟨i, j, rfl, rfl, q⟩
theorem rd_U {f : Int → V} {i : Int} (q : Q (f i) H) : rU f (.int i) H Q := ⟨i, rfl, q⟩
theorem rd_eq (s : scal x y = true) (q : Q (.bl (decide (x = y))) H) : rEq x y H Q := ⟨s, q⟩
theorem rd_ne (s : scal x y = true) (q : Q (.bl (!decide (x = y))) H) : rNe x y H Q := ⟨s, q⟩
theorem rd_ixL {p : Addr} {xs : List V} {i : Int} (h : SqL K H p xs) (e : atI xs i = some v) (q : Q v H) : rIxL K (.ref p) (.int i) H Q := ⟨p, xs, i, v, rfl, rfl, h, e, q⟩
theorem rd_ixT {p : Addr} {xs : List V} {i : Int} (h : SqT K H p xs) (e : atI xs i = some v) (q : Q v H) : rIxT K (.ref p) (.int i) H Q := ⟨p, xs, i, v, rfl, rfl, h, e, q⟩
theorem rd_gsub {to ti : TE} {ts : TSet} {Q : L2.St → Hp → Prop} (h : to σ H fun o H1 => ti σ H1 fun i H2 => ts o i v H2 fun H3 => Q σ H3) : gSub to ti ts v σ H Q := h
theorem rd_setL {p : Addr} {xs : List V} {k : Int} {j : Nat} {Q : Hp → Prop} (h : H p = some (.lst xs)) (e : ixN xs.length k = some j) (q : Q (upd H p (.lst (xs.set j v)))) : rSetL (.ref p) (.int k) v H Q := ⟨p, xs, k, j, rfl, rfl, h, e, q⟩
theorem rd_lst {tl : TA} (h : tl σ H fun xs H1 => xs.length ≤ sizeLine ∧ ∀ p, H1 p = none → Q (.ref p) (upd H1 p (.lst xs))) : tLst tl σ H Q := h
theorem rd_tup {tl : TA} (h : tl σ H fun xs H1 => xs.length ≤ sizeLine ∧ ∀ p, H1 p = none → Q (.ref p) (upd H1 p (.tup xs))) : tTup tl σ H Q := h
theorem rd_if (h : t σ H fun c H1 => if c = true then ta σ H1 Q else tb σ H1 Q) : tIf t ta tb σ H Q := h
theorem rd_and {Q : Bool → Hp → Prop} (h : t σ H fun c H1 => if c = true then u σ H1 Q else Q false H1) : tAnd t u σ H Q := h
theorem rd_or {Q : Bool → Hp → Prop} (h : t σ H fun c H1 => if c = true then Q true H1 else u σ H1 Q) : tOr t u σ H Q := h
theorem rd_not {Q : Bool → Hp → Prop} (h : t σ H fun c H1 => Q (!c) H1) : tNot t σ H Q := h
theorem rd_andV (h : ta σ H fun x H1 => ∃ c, x = .bl c ∧ if c = true then tb σ H1 Q else Q (.bl false) H1) : tAndV ta tb σ H Q := h
theorem rd_orV (h : ta σ H fun x H1 => ∃ c, x = .bl c ∧ if c = true then Q (.bl true) H1 else tb σ H1 Q) : tOrV ta tb σ H Q := h
theorem rd_notV (h : ta σ H fun x H1 => ∃ c, x = .bl c ∧ Q (.bl (!c)) H1) : tNotV ta σ H Q := h
theorem rd_blV {b : Bool} {Q : Bool → Hp → Prop} {A : Prop} (h : A) : ∃ k, V.bl b = .bl k ∧ A := ⟨b, rfl, h⟩
theorem rd_dec {c A B : Prop} [Decidable c] (h1 : c → A) (h2 : ¬ c → B) : if decide c = true then A else B := by
  by_cases h : c
  · rw [if_pos (decide_eq_true h)]; exact h1 h
  · rw [if_neg (by rw [decide_eq_false h]; decide)]; exact h2 h
theorem rd_ndec {c A B : Prop} [Decidable c] (h1 : ¬ c → A) (h2 : c → B) : if (!decide c) = true then A else B := by
  by_cases h : c
  · rw [if_neg (by rw [decide_eq_true h]; decide)]; exact h2 h
  · rw [if_pos (by rw [decide_eq_false h]; decide)]; exact h1 h
theorem rd_T {c A B : Prop} [Decidable c] (h : c) (h1 : A) : if decide c = true then A else B := by rw [if_pos (decide_eq_true h)]; exact h1
theorem rd_F {c A B : Prop} [Decidable c] (h : ¬ c) (h1 : B) : if decide c = true then A else B := by rw [if_neg (by rw [decide_eq_false h]; decide)]; exact h1
theorem rd_b {b : Bool} {A B : Prop} (h1 : b = true → A) (h2 : b = false → B) : if b = true then A else B := by
  cases b with
  | true => rw [if_pos rfl]; exact h1 rfl
  | false => rw [if_neg Bool.false_ne_true]; exact h2 rfl
theorem at_in {α : Type} {xs : List α} {i : Int} (h0 : 0 ≤ i) (h1 : i < xs.length) : ∃ v, v ∈ xs ∧ atI xs i = some v := by
  obtain ⟨j, rfl⟩ : ∃ j : Nat, i = (j : Int) := ⟨i.toNat, by omega⟩
  have hj : j < xs.length := by omega
  exact ⟨xs[j], List.getElem_mem hj, atI_nat (List.getElem?_eq_getElem hj)⟩
theorem rd_yes {Q : Bool → Hp → Prop} (h : Q true H) : tYes σ H Q := h
theorem rd_nF {A B : Prop} (h : A) : if (!false) = true then A else B := iteT h
theorem rd_nT {A B : Prop} (h : B) : if (!true) = true then A else B := iteF h
theorem rd_and_pure {b1 b2 : Bool} {Q : Bool → Hp → Prop} (h1 : ∀ Q : Bool → Hp → Prop, Q b1 H → t σ H Q) (h2 : ∀ Q : Bool → Hp → Prop, Q b2 H → u σ H Q) (h : Q (b1 && b2) H) : tAnd t u σ H Q := by
  refine h1 _ ?_
  cases b1 with
  | true => exact iteT (h2 _ (by simpa using h))
  | false => exact iteF (by simpa using h)
theorem rd_or_pure {b1 b2 : Bool} {Q : Bool → Hp → Prop} (h1 : ∀ Q : Bool → Hp → Prop, Q b1 H → t σ H Q) (h2 : ∀ Q : Bool → Hp → Prop, Q b2 H → u σ H Q) (h : Q (b1 || b2) H) : tOr t u σ H Q := by
  refine h1 _ ?_
  cases b1 with
  | false => exact iteF (h2 _ (by simpa using h))
  | true => exact iteT (by simpa using h)
theorem rd_b2 {b1 b2 : Bool} {A B : Prop} (h1 : b1 = true → b2 = true → A) (h2 : ¬ (b1 = true ∧ b2 = true) → B) : if (b1 && b2) = true then A else B := by
  cases b1 with
  | true => cases b2 with
    | true => exact iteT (h1 rfl rfl)
    | false => exact iteF (h2 (by simp))
  | false => exact iteF (h2 (by simp))
theorem rd_cat {l b : Addr} {xs zs : List V} (h : H l = some (.lst xs)) (h' : H b = some (.lst zs)) (hz : xs.length + zs.length ≤ sizeLine) (q : ∀ p, H p = none → Q (.ref p) (upd H p (.lst (xs ++ zs)))) : rCat (.ref l) (.ref b) H Q := ⟨l, b, xs, zs, rfl, rfl, h, h', hz, q⟩
theorem rd_bm {T : String} {r : V → List V → Hp → VK → Prop} {to : TE} {tl : TA} (h : to σ H fun x H1 => tyV K T x H1 ∧ tl σ H1 fun xs H2 => r x xs H2 Q) : tBM K T r to tl σ H Q := h
theorem rd_bm0 {T : String} {r : V → List V → Hp → VK → Prop} {to : TE} (h : to σ H fun x H1 => tyV K T x H1 ∧ r x [] H1 Q) : tBM0 K T r to σ H Q := h
theorem rd_append {l : Addr} {xs : List V} (h : H l = some (.lst xs)) (hz : xs.length < sizeLine) (q : Q .non (upd H l (.lst (xs ++ [y])))) : rAppend (.ref l) [y] H Q := ⟨l, xs, y, rfl, rfl, h, hz, q⟩
theorem tyl {K : PySem.W.Frag} {l : Addr} {xs : List V} (h : H l = some (.lst xs)) : tyV K "list" (.ref l) H := Or.inl ⟨rfl, _, SqL.of h⟩
/-- what is walked first, then the loop -/
theorem rd_for {wi : TI} {tb : TS} (h : wi σ H fun J H1 => tFor (fun _ _ R => R J H1) g tb D σ H1) : tFor wi g tb D σ H := h
theorem rd_rng1 {tl : TA} {R : It → Hp → Prop} (h : tl σ H fun vs H1 => ∃ j : Int, vs = [.int j] ∧ -(2 ^ 62) ≤ j ∧ j < 2 ^ 62 ∧ R (Itr 0 j.toNat) H1) : iRng1 tl σ H R := h
theorem rd_itup {R : It → Hp → Prop} (h : te σ H fun x H1 => ∃ a, x = .ref a ∧ (∃ xs, SqT K H1 a xs) ∧ R (Itt K a) H1) : iTup K te σ H R := h
theorem rd_ilst {R : It → Hp → Prop} (h : te σ H fun x H1 => ∃ a, x = .ref a ∧ (∃ xs, SqL K H1 a xs) ∧ R (Itl K a) H1) : iList K te σ H R := h
theorem rd_at {t : TS} {σ' : L2.St} (e : σ = σ') (h : t D σ' H) : t D σ H := e ▸ h
theorem upd_other {H : Hp} {a b : Addr} {o u : HO} (n : b ≠ a) (h : H b = some o) : upd H a u b = some o := by rw [upd_ne n]; exact h
theorem upd_none {H : Hp} {a b : Addr} {u : HO} (n : b ≠ a) (h : H b = none) : upd H a u b = none := by rw [upd_ne n]; exact h
end
/-- the rule for a def that lets nothing out -/
theorem ok0 {P : Program} {w : World} {K : PySem.W.Frag} {mg : Str → Option Value} {base : Heap} {x qual : Str} {params : Arguments} {body : List Stmt} {scope : Scope} {f : Addr} {fd : FuncData}
    {N ps : List Str} {k : Nat} {sp : Sp} (F : FunD K x qual params body scope [] [] f fd) (S : FnScope N ps scope) (len : ∀ vs H Q E, sp vs H Q E → vs.length = ps.length)
    (hbody : ∀ (cdv : Value) (A : Around) (outer : List Env) (s : Shared) (H : Hp) (vs : List V) (Q : VK) (E : XK), Room k (A.deeper (envOfC qual scope s.heap.objs.size f cdv)) → sp vs H Q E →
      ∃ t, PSs (cxOf CX0 P w K mg base N qual scope f cdv A outer s H E).nox body t ∧ t { nx := fun _ H' => Q .non H', rt := Q } (start N vs) H) : FnOk P w K mg base CX0 (k + 1) f fd ps sp := by
  refine F.ok S len fun cdv A outer s H vs Q E hr h => ?_
  obtain ⟨t, ht, q⟩ := hbody cdv A outer s H vs Q E hr h
  exact ⟨t, PSs.nox ht, q⟩
theorem cal_of {P : Program} {w : World} {K : PySem.W.Frag} {mg : Str → Option Value} {base : Heap} {CX : CXT} {k : Nat} {x qual y : Str} {params : Arguments} {body : List Stmt} {scope : Scope} {f : Addr} {fd : FuncData} {ps : List Str} {sp : Sp}
    (F : FunD K x qual params body scope [] [] f fd) (g : mg y = some (.ref f)) (ok : FnOk P w K mg base CX k f fd ps sp)
    (h : ∀ (kV doc pm : Value) (an : Option Addr) (cdv ct : Value) (us : List Value), us.length = ps.length → bindArgs (PySem.W.fnOf x qual params body scope .none kV doc pm an cdv ct) ⟨us, []⟩ = pure (ps.zip us)) :
    Cal P w K mg base CX k y ps sp := ⟨f, fd, ok, F.bindsN h, F.kp, g⟩
/-! ### built-ins, by named readings -/
def rLen1 (K : PySem.W.Frag) : List V → Hp → VK → Prop := fun xs H Q => ∃ p ys, xs = [.ref p] ∧ (SqL K H p ys ∨ SqT K H p ys) ∧ Q (.int ys.length) H
def rTupOf (K : PySem.W.Frag) : List V → Hp → VK → Prop := fun xs H Q => ∃ p ys, xs = [.ref p] ∧ ((SqL K H p ys ∧ ∀ l, H l = none → Q (.ref l) (upd H l (.tup ys))) ∨ (SqT K H p ys ∧ Q (.ref p) H))
def rListOf (K : PySem.W.Frag) : List V → Hp → VK → Prop := fun xs H Q => ∃ p ys, xs = [.ref p] ∧ (SqL K H p ys ∨ SqT K H p ys) ∧ ∀ l, H l = none → Q (.ref l) (upd H l (.lst ys))
def rMin2 : List V → Hp → VK → Prop := fun xs H Q => ∃ i j, xs = [.int i, .int j] ∧ Q (.int (if j < i then j else i)) H
section
variable {X : Cx}
theorem call_len1 : CallR X (.builtin "len") (rLen1 X.K) := call_len_seq
theorem call_tupOf : CallR X (.type "tuple") (rTupOf X.K) := call_tuple_of
theorem call_listOf : CallR X (.type "list") (rListOf X.K) := call_list_of
theorem call_min2n (hc : X.calm = true) : CallR X (.builtin "min") rMin2 := call_min2 hc
theorem ix_listK (K : PySem.W.Frag) (e : X.K = K := by rfl) : IxR X (rIxL K) := e ▸ ix_list
theorem ix_tupK (K : PySem.W.Frag) (e : X.K = K := by rfl) : IxR X (rIxT K) := e ▸ ix_tup
theorem ix_seqK (K : PySem.W.Frag) (e : X.K = K := by rfl) : IxR X (rIx K) := e ▸ ix_seq
theorem call_len1K (K : PySem.W.Frag) (e : X.K = K := by rfl) : CallR X (.builtin "len") (rLen1 K) := e ▸ call_len1
theorem call_tupOfK (K : PySem.W.Frag) (e : X.K = K := by rfl) : CallR X (.type "tuple") (rTupOf K) := e ▸ call_tupOf
theorem call_listOfK (K : PySem.W.Frag) (e : X.K = K := by rfl) : CallR X (.type "list") (rListOf K) := e ▸ call_listOf
theorem call_isiK1 (K : PySem.W.Frag) (e : X.K = K := by rfl) : CallR X (.builtin "isinstance") (rIsi K) := e ▸ call_isi
theorem call_isiTK (K : PySem.W.Frag) (e : X.K = K := by rfl) : CallR X (.builtin "isinstance") (rIsiT K) := e ▸ call_isiT
theorem cr_allK (K : PySem.W.Frag) (hc : X.calm = true) (e : X.K = K := by rfl) : CallR X (.builtin "all") (rAll K) := e ▸ cr_all hc
theorem op_in_seqK (K : PySem.W.Frag) (e : X.K = K := by rfl) : OpR X (compareOp .In) (rIn K false) := e ▸ op_in_seq
theorem op_eqDK (K : PySem.W.Frag) (hu : X.A.units + 64 < cLine) (e : X.K = K := by rfl) : OpR X (compareOp .Eq) (rEqD K) := e ▸ op_eqD hu
theorem op_neDK (K : PySem.W.Frag) (hu : X.A.units + 64 < cLine) (e : X.K = K := by rfl) : OpR X (compareOp .NotEq) (rNeD K) := e ▸ op_neD hu
theorem sl_tupK (K : PySem.W.Frag) (e : X.K = K := by rfl) : SlR X (rSlT K) := e ▸ sl_tup
theorem op_catTK (K : PySem.W.Frag) (e : X.K = K := by rfl) : OpR X (binaryOp .Add) (rCatT K) := e ▸ op_catT
theorem pe_cint {x : Str} {i : Int} {pos : Pos} (h : ∃ t, X.mg x = some (.int i t)) (hg : Gl X x := by rfl) (hd : (x == ("__debug__" : Str)) = false := by decide) : PE X (.Name x pos) (tC (.int i)) := by
  obtain ⟨t, e⟩ := h
  exact pe_glob hg e ⟨t, rfl⟩ hd
end
section
variable {K : PySem.W.Frag} {H : Hp} {v x y : V} {Q : VK} {a p : Addr} {xs : List V}
theorem rd_lenL (h : SqL K H p xs) (q : Q (.int xs.length) H) : rLen1 K [.ref p] H Q := ⟨p, xs, rfl, .inl h, q⟩
theorem rd_lenT (h : SqT K H p xs) (q : Q (.int xs.length) H) : rLen1 K [.ref p] H Q := ⟨p, xs, rfl, .inr h, q⟩
theorem rd_tupOf (h : SqL K H p xs) (q : ∀ l, H l = none → Q (.ref l) (upd H l (.tup xs))) : rTupOf K [.ref p] H Q := ⟨p, xs, rfl, .inl ⟨h, q⟩⟩
theorem rd_listOf (h : SqL K H p xs) (q : ∀ l, H l = none → Q (.ref l) (upd H l (.lst xs))) : rListOf K [.ref p] H Q := ⟨p, xs, rfl, .inl h, q⟩
theorem rd_min2 {i j : Int} (q : Q (.int (if j < i then j else i)) H) : rMin2 [.int i, .int j] H Q := ⟨i, j, rfl, q⟩
theorem rd_isi {A T : String} {b : Bool} (t : TyX K H x (.type A)) (e : kitB A T = some b) (q : Q (.bl b) H) : rIsi K [x, .ty T] H Q := ⟨x, .ty T, .type A, .type T, b, rfl, .ty T, t, kit_ty e, q⟩
theorem rd_isiT2 {A T1 T2 : String} {b1 b2 : Bool} (h : H p = some (.tup [.ty T1, .ty T2])) (t : TyX K H x (.type A)) (e1 : kitB A T1 = some b1) (e2 : kitB A T2 = some b2) (q : Q (.bl (b1 || b2)) H) : rIsiT K [x, .ref p] H Q := by
  refine ⟨x, p, _, .type A, [.type T1, .type T2], b1 || b2, rfl, h, .cons (.ty T1) (.cons (.ty T2) .nil), t, kitAny_cons (kit_ty e1) (fun h1 => ?_) (fun h1 => by rw [h1]; rfl), q⟩
  rw [h1, Bool.false_or]
  exact kitAny_cons (kit_ty e2) (fun h2 => by rw [h2]; rfl) (fun h2 => by rw [h2])
end
end Dc

set_option Elab.async false
set_option linter.all false
set_option maxRecDepth 100000
set_option maxHeartbeats 2000000
namespace Dc
open PySem PySem.Spec PyProof.Rows L2
/-! ### the text by places -/
def topS (i : Nat) : Stmt := PySem.Challenge.pw_drawchain_k12_whole_rows_at_their_bound.main.body.getD i (.Pass ⟨0, 0, 0, 0⟩)
abbrev s_BadText___init__ : Stmt := inClass (topS 5) 0
abbrev s_makers_within : Stmt := topS 11
abbrev s_check_chain : Stmt := topS 12
abbrev s_is_chain : Stmt := topS 13
abbrev s_is_pair : Stmt := topS 14
abbrev s_is_maker : Stmt := topS 15
abbrev s_is_row : Stmt := topS 16
abbrev s_is_stage : Stmt := topS 17
abbrev s_has_chain : Stmt := topS 18
abbrev s_is_within : Stmt := topS 19
abbrev s_is_number : Stmt := topS 20
abbrev s_whole : Stmt := topS 23
abbrev s_whole_row : Stmt := topS 24
abbrev s_row_behind : Stmt := topS 25
abbrev s_row_until : Stmt := topS 26
abbrev s_row_unlike : Stmt := topS 27
abbrev s__law_start : Stmt := topS 29
abbrev s__law_drawn : Stmt := topS 30
abbrev s__law_same : Stmt := topS 31
abbrev s__law_kind : Stmt := topS 32
abbrev s__law_row : Stmt := topS 33
abbrev s__law_behind : Stmt := topS 34
abbrev s__law_often : Stmt := topS 35
abbrev s__law_great : Stmt := topS 36
abbrev s_law : Stmt := topS 37

structure Txt (K : PySem.W.Frag) (mg : Str → Option Value) : Prop where
  free_len : mg "len" = none
  free_range : mg "range" = none
  free_isinstance : mg "isinstance" = none
  free_tuple : mg "tuple" = none
  free_list : mg "list" = none
  free_int : mg "int" = none
  free_str : mg "str" = none
  free_bool : mg "bool" = none
  free_min : mg "min" = none
  free_all : mg "all" = none
  free_super : mg "super" = none
  free_enumerate : mg "enumerate" = none
  free_zip : mg "zip" = none
  c_FIRST_TOO_LARGE : ∃ t, mg "FIRST_TOO_LARGE" = some (.int 1000000000000000000000000000000 t)
  c_MAKERS_AT_MOST : ∃ t, mg "MAKERS_AT_MOST" = some (.int 4 t)
  c_STAGES_AT_MOST : ∃ t, mg "STAGES_AT_MOST" = some (.int 12 t)
  c_ROW_AT_MOST : ∃ t, mg "ROW_AT_MOST" = some (.int 100 t)
  c_WHOLE_AT_MOST : ∃ t, mg "WHOLE_AT_MOST" = some (.int 10000 t)

abbrev FnP (K : PySem.W.Frag) (x qual : Str) (st : Stmt) (f : Addr) (fd : FuncData) : Prop := FunD K x qual (defArgs st) (defBody st) (defScope st) [] [] f fd
end Dc

set_option Elab.async false
set_option linter.all false
set_option maxRecDepth 100000
set_option maxHeartbeats 0
namespace Dc
open PySem PySem.Spec PyProof.Rows L2
abbrev theP : Program := PySem.Challenge.pw_drawchain_k12_whole_rows_at_their_bound
/-! ### what is looked at behind the top -/
def globs0 : List Str := ["makers_within", "check_chain", "is_chain", "is_pair", "is_maker", "is_row", "is_stage", "has_chain", "is_within", "is_number", "whole", "whole_row", "row_behind", "row_until", "row_unlike", "_law_start", "_law_drawn", "_law_same", "_law_kind", "_law_row", "_law_behind", "_law_often", "_law_great", "law", "DrawError", "BadChain", "BadMany", "NoWhole", "BadText"]
def globs : List Str := globs0
def frees0 : List Str := ["len", "range", "isinstance", "tuple", "list", "int", "str", "bool", "min", "all", "super", "enumerate", "zip", "ValueError"]
def frees : List Str := frees0
def cons_0 : List (Str × Int) := [("FIRST_TOO_LARGE", 1000000000000000000000000000000), ("MAKERS_AT_MOST", 4), ("STAGES_AT_MOST", 12), ("ROW_AT_MOST", 100), ("WHOLE_AT_MOST", 10000)]
def cons_ : List (Str × Int) := cons_0
def fns0 : List He.DefD := [⟨("makers_within", none), "makers_within", "makers_within", defArgs s_makers_within, defBody s_makers_within, defScope s_makers_within, [], []⟩, ⟨("check_chain", none), "check_chain", "check_chain", defArgs s_check_chain, defBody s_check_chain, defScope s_check_chain, [], []⟩, ⟨("is_chain", none), "is_chain", "is_chain", defArgs s_is_chain, defBody s_is_chain, defScope s_is_chain, [], []⟩, ⟨("is_pair", none), "is_pair", "is_pair", defArgs s_is_pair, defBody s_is_pair, defScope s_is_pair, [], []⟩, ⟨("is_maker", none), "is_maker", "is_maker", defArgs s_is_maker, defBody s_is_maker, defScope s_is_maker, [], []⟩, ⟨("is_row", none), "is_row", "is_row", defArgs s_is_row, defBody s_is_row, defScope s_is_row, [], []⟩, ⟨("is_stage", none), "is_stage", "is_stage", defArgs s_is_stage, defBody s_is_stage, defScope s_is_stage, [], []⟩, ⟨("has_chain", none), "has_chain", "has_chain", defArgs s_has_chain, defBody s_has_chain, defScope s_has_chain, [], []⟩, ⟨("is_within", none), "is_within", "is_within", defArgs s_is_within, defBody s_is_within, defScope s_is_within, [], []⟩, ⟨("is_number", none), "is_number", "is_number", defArgs s_is_number, defBody s_is_number, defScope s_is_number, [], []⟩, ⟨("whole", none), "whole", "whole", defArgs s_whole, defBody s_whole, defScope s_whole, [], []⟩, ⟨("whole_row", none), "whole_row", "whole_row", defArgs s_whole_row, defBody s_whole_row, defScope s_whole_row, [], []⟩, ⟨("row_behind", none), "row_behind", "row_behind", defArgs s_row_behind, defBody s_row_behind, defScope s_row_behind, [], []⟩, ⟨("row_until", none), "row_until", "row_until", defArgs s_row_until, defBody s_row_until, defScope s_row_until, [], []⟩, ⟨("row_unlike", none), "row_unlike", "row_unlike", defArgs s_row_unlike, defBody s_row_unlike, defScope s_row_unlike, [], []⟩, ⟨("_law_start", none), "_law_start", "_law_start", defArgs s__law_start, defBody s__law_start, defScope s__law_start, [], []⟩, ⟨("_law_drawn", none), "_law_drawn", "_law_drawn", defArgs s__law_drawn, defBody s__law_drawn, defScope s__law_drawn, [], []⟩, ⟨("_law_same", none), "_law_same", "_law_same", defArgs s__law_same, defBody s__law_same, defScope s__law_same, [], []⟩, ⟨("_law_kind", none), "_law_kind", "_law_kind", defArgs s__law_kind, defBody s__law_kind, defScope s__law_kind, [], []⟩, ⟨("_law_row", none), "_law_row", "_law_row", defArgs s__law_row, defBody s__law_row, defScope s__law_row, [], []⟩, ⟨("_law_behind", none), "_law_behind", "_law_behind", defArgs s__law_behind, defBody s__law_behind, defScope s__law_behind, [], []⟩, ⟨("_law_often", none), "_law_often", "_law_often", defArgs s__law_often, defBody s__law_often, defScope s__law_often, [], []⟩, ⟨("_law_great", none), "_law_great", "_law_great", defArgs s__law_great, defBody s__law_great, defScope s__law_great, [], []⟩, ⟨("law", none), "law", "law", defArgs s_law, defBody s_law, defScope s_law, [], []⟩]
def fns : List He.DefD := fns0
def nwB (K : PySem.W.Frag) : Bool := (He.eqO (PySem.W.findIn K (.ref (He.ga K "NoWhole")) "__getattribute__") (some (some (.builtin "BaseException.__getattribute__"))) && (He.eqO (PySem.W.findIn K (.ref (He.ga K "NoWhole")) "__getattr__") (some none) && (decide (PySem.W.subIn K (.ref (He.ga K "NoWhole")) (.type "BaseException") = some true) && (PySem.W.hasDictIn K (He.ga K "NoWhole") && (He.eqO (PySem.W.findIn K (.ref (He.ga K "NoWhole")) "__class__") (some (some (.builtin "object.__class__"))) && (He.eqO (PySem.W.specialIn K (.builtin "object.__class__") "__get__") (some (some (.builtin "getset_descriptor.__get__"))) && (decide (PySem.W.takesIn K (.builtin "object.__class__") = some true) && (decide (PySem.W.mroIn K (He.ga K "NoWhole") (.type "object") = some true) && (decide (PySem.W.exmOne K (.ref (He.ga K "NoWhole")) (.ref (He.ga K "DrawError")) = some true) && (decide (PySem.W.kitOne K (.ref (He.ga K "NoWhole")) (.ref (He.ga K "BadChain")) = some false) && (decide (PySem.W.kitOne K (.ref (He.ga K "NoWhole")) (.ref (He.ga K "BadMany")) = some false) && (decide (PySem.W.kitOne K (.ref (He.ga K "NoWhole")) (.ref (He.ga K "NoWhole")) = some true) && (decide (PySem.W.kitOne K (.ref (He.ga K "NoWhole")) (.ref (He.ga K "BadText")) = some false) && (decide (PySem.W.kitOne K (.ref (He.ga K "NoWhole")) (.type "ValueError") = some true) && (PySem.W.excIn K (He.ga K "NoWhole") [Value.type "ValueError", Value.type "Exception", Value.type "BaseException", Value.type "object"] "ValueError.__new__" && (PySem.W.keepIn K (.ref (He.ga K "NoWhole")) && decide (PySem.W.typeIn K (.ref (He.ga K "NoWhole")) = some (.type "type"))))))))))))))))))
def exB (K : PySem.W.Frag) : Bool := (globs.all fun x => (He.Fa.glo x).ok K) && ((frees.all fun x => (He.Fa.free x).ok K) && ((cons_.all fun q => (He.Fa.int q.1 q.2).ok K) && nwB K))
abbrev AlZ : Type := Bool × Bool × List He.FnW
def tf : List He.Defn := [("law", none)]
def obsZ (g : Addr → Option Obj) (K : PySem.W.Frag) : AlZ := (exB K && fns.all fun d => d.ok K, He.tabsB g tf K, fns.map fun d => He.fnW K d.at_)
def valZ : AlZ := (true, true, fns.map He.DefD.val)
abbrev kz (g : Addr → Option Obj) : PySem.W.Frag := He.frT g (He.asD g 4)
/-- the law's code object, its table: empty, not in K -/
structure TabF (K : PySem.W.Frag) (h : Heap) : Prop where
  hd : PySem.W.codeHdIn K (He.cT K ("law", none)).1 (He.cT K ("law", none)).2 = true
  out : K.lookup (He.cT K ("law", none)).2 = none
  empty : h.get? (He.cT K ("law", none)).2 = some { cls := .none, data := .fields #[] }
structure FactsZ (K : PySem.W.Frag) : Prop where
  ex : (exB K && fns.all fun d => d.ok K) = true
  fnw : (fns.map fun d => He.fnW K d.at_) = fns.map He.DefD.val
theorem saysZ {h : Heap} (e : obsZ h.get? (kz h.get?) = valZ) : FactsZ (kz h.get?) ∧ TabF (kz h.get?) h := by
  have e1 : (exB (kz h.get?) && fns.all fun d => d.ok (kz h.get?)) = true := congrArg (fun z : AlZ => z.1) e
  have e2 : He.tabsB h.get? tf (kz h.get?) = true := congrArg (fun z : AlZ => z.2.1) e
  have e3 : (fns.map fun d => He.fnW (kz h.get?) d.at_) = fns.map He.DefD.val := congrArg (fun z : AlZ => z.2.2) e
  obtain ⟨h3, h4⟩ := He.ba (List.all_eq_true.mp e2 ("law", none) List.mem_cons_self)
  refine ⟨⟨e1, e3⟩, h3, ?_, ?_⟩
  · cases q : h.get? (He.cT (kz h.get?) ("law", none)).2 with
    | none =>
      rw [q] at h4
      cases h4
    | some o =>
      rw [q] at h4
      exact He.frT_none q h4
  · cases q : h.get? (He.cT (kz h.get?) ("law", none)).2 with
    | none =>
      rw [q] at h4
      cases h4
    | some o =>
      rw [q] at h4
      rw [He.emptyTab_eq h4]
def hkZ : PySem.W.Hook where
  α := AlZ
  obs := fun s => obsZ s.heap.get? (kz s.heap.get?)
  val := fun _ => valZ
  says := fun _ h => ∃ K : PySem.W.Frag, K.In h ∧ FactsZ K ∧ TabF K h
  of := fun _ _ e => ⟨_, He.frT_in, (saysZ e).1, (saysZ e).2⟩
  keeps := fun _ _ _ ⟨K, hK, c, t⟩ k => ⟨K, PySem.W.Frag.In.keeps hK k, c, t.hd, t.out, k _ _ t.empty⟩
def obZ (s : PySem.W.SharedT) : AlZ := obsZ (HandSHeadRun.getT s) (kz (HandSHeadRun.getT s))
theorem obZ_eq (s : PySem.W.SharedT) : obZ s = hkZ.obs s.abs := by
  have e : HandSHeadRun.getT s = s.abs.heap.get? := funext (HandSHeadRun.getT_eq s)
  show obsZ (HandSHeadRun.getT s) (kz (HandSHeadRun.getT s)) = obsZ s.abs.heap.get? (kz s.abs.heap.get?)
  rw [e]
abbrev theR : PySem.W.OpenRow := PySem.W.OpenLaw.row PySem.Challenge.rw_drawchain_k12_whole_rows_at_their_bound
def loose0 : List PySem.Str := ["DrawError", "BadChain", "BadMany", "NoWhole", "BadText", "FIRST_TOO_LARGE", "MAKERS_AT_MOST", "STAGES_AT_MOST", "ROW_AT_MOST", "makers_within", "check_chain", "is_chain", "is_pair", "is_maker", "is_row", "is_stage", "has_chain", "is_within", "is_number", "WHOLE_AT_MOST", "whole", "whole_row", "row_behind", "row_until", "row_unlike", "_law_start", "_law_drawn", "_law_same", "_law_kind", "_law_row"]
def loose1 : List PySem.Str := ["_law_behind", "_law_often", "_law_great"]
def looses : List PySem.Str := loose0 ++ loose1
theorem run (w : World) : HandSHeadRun.RunEq theR (PySem.W.view theR.prog [37]) hkZ obZ 100000 looses w := by
  intro os
  kernel_rfl
end Dc

set_option Elab.async false
set_option linter.all false
set_option maxRecDepth 100000
set_option maxHeartbeats 2000000
namespace Dc
open PySem PySem.Spec PyProof.Rows L2
/-! ### methods by name -/
section
variable {X : Cx} {CX : CXT} {k : Nat} {x m : Str} {C : Addr} {ps : List Str} {sp : Sp} {E : XK} {e o : Expr} {es : List Expr} {t : TA} {ta : TE} {p pos apos : Pos}
theorem pe_cm {pl : Sem Bool} (he : PE X o ta) (G : CalM X.prog X.w X.K X.mg X.base CX k C m ps sp) (hr : Room k X.A) (hx : Passes CX X E) (ha : PA X (e :: es) t)
    (hst : starEach (e :: es) X.env = (false, eval e X.env) :: starEach es X.env := by rfl) (hpl : (backTo pos (starEach es X.env)).any (·.1) = false := by rfl)
    (ht : eval (.Call (.Attribute o m apos) (e :: es) [] pos) X.env = (do
      let ov ← eval o X.env
      standAt apos.atName
      let (f, first) ← holding [ov] (getMethod ov m pl)
      callWith pos f first (backTo pos (starEach (e :: es) X.env)) (backToKw pos (keywordEach [] X.env))) := by rfl) :
    PE X (.Call (.Attribute o m apos) (e :: es) [] pos) (tMeth C m sp [] E ta t) := by
  obtain ⟨f, fd, F, b, hm, c⟩ := G
  exact pe_meth he c hm F hr b .nil hx ha hst hpl ht
theorem pe_cm0 {pl : Sem Bool} (he : PE X o ta) (G : CalM X.prog X.w X.K X.mg X.base CX k C m ps sp) (hr : Room k X.A) (hx : Passes CX X E)
    (ht : eval (.Call (.Attribute o m apos) [] [] pos) X.env = (do
      let ov ← eval o X.env
      standAt apos.atName
      let (f, first) ← holding [ov] (getMethod ov m pl)
      callWith pos f first (backTo pos (starEach [] X.env)) (backToKw pos (keywordEach [] X.env))) := by rfl) :
    PE X (.Call (.Attribute o m apos) [] [] pos) (tMeth C m sp [] E ta tNil) := by
  obtain ⟨f, fd, F, b, hm, c⟩ := G
  exact pe_meth0 he c hm F hr b .nil hx ht
/-- o.m(), o an instance of one of the classes Cs, each of which keeps the same promise -/
def tDyn (Cs : Addr → Prop) (m : Str) (sp : Addr → Sp) (E : XK) (ta : TE) : TE := fun σ H Q => ta σ H fun x H1 => ∃ a C dx fs, x = .ref a ∧ Cs C ∧ H1 a = some (.ins C dx fs) ∧ fs.lookup m = none ∧ sp C [.ref a] H1 Q E
theorem pe_dyn0 {Cs : Addr → Prop} {sp : Addr → Sp} {pl : Sem Bool} (he : PE X o ta) (G : ∀ C, Cs C → CalM X.prog X.w X.K X.mg X.base CX k C m ps (sp C)) (hr : Room k X.A) (hx : Passes CX X E)
    (ht : eval (.Call (.Attribute o m apos) [] [] pos) X.env = (do
      let ov ← eval o X.env
      standAt apos.atName
      let (f, first) ← holding [ov] (getMethod ov m pl)
      callWith pos f first (backTo pos (starEach [] X.env)) (backToKw pos (keywordEach [] X.env))) := by rfl) :
    PE X (.Call (.Attribute o m apos) [] [] pos) (tDyn Cs m sp E ta) := by
  refine ⟨fun pins s σ H Q I h => ?_⟩
  refine PySem.W.methodCall_KW (pl := pl) (thn (he.run pins s σ H _ I h) fun u s1 ⟨x, H1, I1, rx, a, C, dx, fs, ex, hC, ea, l, q⟩ => ?_) ht
  subst ex
  obtain rfl : u = Value.ref a := rx
  obtain ⟨f, fd, F, b, hm, c⟩ := G C hC
  refine getmeth_ok I1 ea c hm l ?_
  exact PySem.W.callWith_K0 (first := [.ref a]) I1.kIn hm.kp (run_fn (us := [.ref a]) (vs := [.ref a]) (dvs := []) F hr b .nil hx I1 (.cons rfl .nil) q)
theorem pe_mk (G : CalI X.prog X.w X.K X.mg X.base CX k x C ps sp) (hr : Room (k + 1) X.A) (hx : Passes CX X E) (ha : PA X (e :: es) t) (hg : Gl X x := by rfl) (hdb : (x == ("__debug__" : Str)) = false := by decide)
    (he : starEach (e :: es) X.env = (false, eval e X.env) :: starEach es X.env := by rfl) (hpl : (backTo pos (starEach es X.env)).any (·.1) = false := by rfl) :
    PE X (.Call (.Name x p) (e :: es) [] pos) (tMake C sp [] E t) := by
  obtain ⟨f, fd, F, b, M, g⟩ := G
  exact pe_make M F hr hg g b .nil hx ha hdb he hpl
theorem pe_mk0 (G : CalI X.prog X.w X.K X.mg X.base CX k x C ps sp) (hr : Room (k + 1) X.A) (hx : Passes CX X E) (hg : Gl X x := by rfl) (hdb : (x == ("__debug__" : Str)) = false := by decide) :
    PE X (.Call (.Name x p) [] [] pos) (tMake C sp [] E tNil) := by
  obtain ⟨f, fd, F, b, M, g⟩ := G
  exact pe_make0 M F hr hg g b .nil hx hdb
end
section
variable {K : PySem.W.Frag} {σ : L2.St} {H : Hp} {i : Nat} {v x y : V} {ta tb te tv : TE} {Q : VK} {a C dx : Addr} {fs : List (Str × V)} {f m : Str} {sp : Sp} {E : XK} {t : TA} {D : Ends}
theorem rd_fld (h : ta σ H fun x H1 => ∃ a C dx fs v, x = .ref a ∧ H1 a = some (.ins C dx fs) ∧ Cls K C ∧ NoAttr K C f ∧ fs.lookup f = some v ∧ Q v H1) : tFld K ta f σ H Q := h
theorem rd_f (h : H a = some (.ins C dx fs)) (c : Cls K C) (n : NoAttr K C f) (l : fs.lookup f = some v) (q : Q v H) : ∃ a' C dx fs v, V.ref a = .ref a' ∧ H a' = some (.ins C dx fs) ∧ Cls K C ∧ NoAttr K C f ∧ fs.lookup f = some v ∧ Q v H := ⟨a, C, dx, fs, v, rfl, h, c, n, l, q⟩
/-- self.f -/
theorem rd_sf (hs : σ[i]? = some (some (.ref a))) (h : H a = some (.ins C dx fs)) (c : Cls K C) (n : NoAttr K C f) (l : fs.lookup f = some v) (q : Q v H) : tFld K (tVar i) f σ H Q := ⟨_, hs, a, C, dx, fs, v, rfl, h, c, n, l, q⟩
/-- o.f = e -/
theorem rd_fset (h : tv σ H fun y H1 => ta σ H1 fun x H2 => ∃ a C dx fs, x = .ref a ∧ H2 a = some (.ins C dx fs) ∧ Cls K C ∧ NoAttr K C f ∧ fs.length < 1000 ∧ D.nx σ (upd H2 a (.ins C dx (putF f y fs)))) : sFld K ta tv f D σ H := h
theorem rd_st (h : H a = some (.ins C dx fs)) (c : Cls K C) (n : NoAttr K C f) (l : fs.length < 1000) (q : D.nx σ (upd H a (.ins C dx (putF f y fs)))) :
    ∃ a' C dx fs, V.ref a = .ref a' ∧ H a' = some (.ins C dx fs) ∧ Cls K C ∧ NoAttr K C f ∧ fs.length < 1000 ∧ D.nx σ (upd H a' (.ins C dx (putF f y fs))) := ⟨a, C, dx, fs, rfl, h, c, n, l, q⟩
/-- o.f += e -/
theorem rd_faug {rd : V → V → Hp → VK → Prop} (hs : σ[i]? = some (some (.ref a))) (h : H a = some (.ins C dx fs)) (c : Cls K C) (n : NoAttr K C f) (l : fs.lookup f = some v)
    (q : tv σ H fun y H2 => rd v y H2 fun z H3 => ∃ dx2 fs2, H3 a = some (.ins C dx2 fs2) ∧ fs2.length < 1000 ∧ D.nx σ (upd H3 a (.ins C dx2 (putF f z fs2)))) : sFldAug K (tVar i) tv rd f D σ H := ⟨_, hs, a, C, dx, fs, v, rfl, h, c, n, l, q⟩
theorem rd_ri {g : Int → Int → Int} {i j : Int} (q : Q (.int (g i j)) H) : (fun (x y : V) (H : Hp) (Q : VK) => ∃ i j, x = .int i ∧ y = .int j ∧ Q (.int (g i j)) H) (.int i) (.int j) H Q := ⟨i, j, rfl, rfl, q⟩
theorem rd_meth (h : ta σ H fun x H1 => ∃ a dx fs, x = .ref a ∧ H1 a = some (.ins C dx fs) ∧ fs.lookup m = none ∧ t σ H1 fun vs H2 => sp (x :: (vs ++ [])) H2 Q E) : tMeth C m sp [] E ta t σ H Q := h
theorem rd_m (h : H a = some (.ins C dx fs)) (l : fs.lookup m = none) (q : t σ H fun vs H2 => sp (.ref a :: (vs ++ [])) H2 Q E) : ∃ a' dx fs, V.ref a = .ref a' ∧ H a' = some (.ins C dx fs) ∧ fs.lookup m = none ∧ t σ H fun vs H2 => sp (V.ref a :: (vs ++ [])) H2 Q E := ⟨a, dx, fs, rfl, h, l, q⟩
theorem rd_dyn {Cs : Addr → Prop} {sp : Addr → Sp} (h : ta σ H fun x H1 => ∃ a C dx fs, x = .ref a ∧ Cs C ∧ H1 a = some (.ins C dx fs) ∧ fs.lookup m = none ∧ sp C [.ref a] H1 Q E) : tDyn Cs m sp E ta σ H Q := h
theorem rd_d {Cs : Addr → Prop} {sp : Addr → Sp} (hC : Cs C) (h : H a = some (.ins C dx fs)) (l : fs.lookup m = none) (q : sp C [.ref a] H Q E) : ∃ a' C dx fs, V.ref a = .ref a' ∧ Cs C ∧ H a' = some (.ins C dx fs) ∧ fs.lookup m = none ∧ sp C [.ref a'] H Q E := ⟨a, C, dx, fs, rfl, hC, h, l, q⟩
theorem rd_make (h : t σ H fun vs H1 => ∀ x dx, H1 x = none → H1 dx = none → dx ≠ x → sp (.ref x :: (vs ++ [])) (upd (upd H1 dx (.own x)) x (.ins C dx [])) (fun v H2 => v = .non ∧ Q (.ref x) H2) E) : tMake C sp [] E t σ H Q := h
end
/-! ### l[i] += e -/
section
variable {X : Cx}
def gtL (K : PySem.W.Frag) : V → V → Hp → VK → Prop := fun o i H Q => ∃ (p : Addr) (xs : List V) (k : Nat) (v : V), o = .ref p ∧ i = .int (k : Int) ∧ SqL K H p xs ∧ xs[k]? = some v ∧ Q v H
theorem get_listK (K : PySem.W.Frag) (e : X.K = K := by rfl) : PGet X (gtL K) := by
  subst e
  intro pins s σ H o i u w Q I ro ri h
  obtain ⟨p, xs, k, v, rfl, rfl, hq, hv, q⟩ := h
  obtain rfl : u = Value.ref p := ro
  obtain ⟨t, rfl⟩ := ri
  obtain ⟨its, r, pl, hz⟩ := I.list hq
  obtain ⟨z, ez, rz⟩ := r.get hv
  have hl := r.length
  have hn := line63
  have hk : k < xs.length := (List.getElem?_eq_some_iff.mp hv).1
  exact wpAny_getItem_list pl.isList (by omega) (by omega) (by simpa using ez) ⟨v, H, I, rz, q⟩
end
/-! ### match -/
abbrev TP := V → Hp → (Option (List V) → Hp → Prop) → Prop
abbrev TPs := List V → Hp → (Option (List V) → Hp → Prop) → Prop
def PatEnd (X : Cx) (pins : List (Addr × Obj)) (σ : L2.St) (ns : List Str) (Q : Option (List V) → Hp → Prop) (r : Option (List (Str × Value))) (s' : Shared) : Prop :=
  match r with
  | none => ∃ H', Inv X pins σ H' s' ∧ Q none H'
  | some bs => ∃ vs H', Inv X pins σ H' s' ∧ bs.map (·.1) = ns ∧ Vals vs (bs.map (·.2)) ∧ Q (some vs) H'
/-- a pattern, the names that it binds -/
structure PPat (X : Cx) (p : Pattern) (ns : List Str) (t : TP) : Prop where
  run : ∀ (pins : List (Addr × Obj)) (s : Shared) (σ : L2.St) (H : Hp) (v : V) (u : Value) (Q : Option (List V) → Hp → Prop), Inv X pins σ H s → RelV v u → t v H Q → wpAny (model X.prog X.w) X.A (matchPattern p X.env u) (PatEnd X pins σ ns Q) X.xe s
structure PPats (X : Cx) (ps : List Pattern) (ns : List Str) (t : TPs) : Prop where
  run : ∀ (pins : List (Addr × Obj)) (s : Shared) (σ : L2.St) (H : Hp) (vs : List V) (us : List Value) (Q : Option (List V) → Hp → Prop), Inv X pins σ H s → Vals vs us → t vs H Q → wpAny (model X.prog X.w) X.A (matchEach ps X.env us) (PatEnd X pins σ ns Q) X.xe s
section
variable {X : Cx} {pos pos' : Pos}
/-- a written text -/
def tPStr (r : R2) (x : Str) : TP := fun v H Q => r v (.str x) H fun b H' => ∃ k, b = .bl k ∧ if k = true then Q (some []) H' else Q none H'
theorem pat_str {x : Str} {j : Nat} {r : R2} (ho : OpR X (compareOp .Eq) r) : PPat X (.MatchValue (.Constant (.str x) j pos) pos') [] (tPStr r x) := by
  refine ⟨fun pins s σ H v u Q I rv h => ?_⟩
  refine wpAny_matchPattern_Value ?_
  refine Calls.Constant_str ?_
  refine wpAny_mono (ho pins _ σ H v (.str x) u _ _ (I.tok _) rv ⟨_, rfl⟩ h) (fun c s1 hc => ?_) fun _ _ z => z
  obtain ⟨b, H1, I1, rb, k, rfl, q⟩ := hc
  cases rb
  refine wpAny_truthy_bool ?_
  cases k with
  | true => exact ⟨[], H1, I1, rfl, .nil, by simpa using q⟩
  | false => exact ⟨H1, I1, by simpa using q⟩
def tPCap : TP := fun v H Q => Q (some [v]) H
theorem pat_cap {n : Str} : PPat X (.MatchAs none (some n) pos) [n] tPCap :=
  ⟨fun pins s σ H v u Q I rv h => wpAny_matchPattern_Capture ⟨[v], H, I, rfl, .cons rv .nil, h⟩⟩
def tPWild : TP := fun v H Q => Q (some []) H
theorem pat_wild : PPat X (.MatchAs none none pos) [] tPWild :=
  ⟨fun pins s σ H v u Q I rv h => wpAny_matchPattern_Capture ⟨[], H, I, rfl, .nil, h⟩⟩
/-- one written text or another -/
def tPOr (t u : TP) : TP := fun v H Q => t v H fun r H1 => match r with | some vs => Q (some vs) H1 | none => u v H1 Q
structure PFst (X : Cx) (ps : List Pattern) (t : TP) : Prop where
  run : ∀ (pins : List (Addr × Obj)) (s : Shared) (σ : L2.St) (H : Hp) (v : V) (u : Value) (Q : Option (List V) → Hp → Prop), Inv X pins σ H s → RelV v u → t v H Q → wpAny (model X.prog X.w) X.A (matchFirst ps X.env u) (PatEnd X pins σ [] Q) X.xe s
def tPNo : TP := fun _ H Q => Q none H
theorem pf_nil : PFst X [] tPNo := ⟨fun pins s σ H v u Q I rv h => wpAny_matchFirst_nil ⟨H, I, h⟩⟩
theorem pf_cons {p : Pattern} {ps : List Pattern} {t u : TP} (h : PPat X p [] t) (hs : PFst X ps u) : PFst X (p :: ps) (tPOr t u) := by
  refine ⟨fun pins s σ H v w Q I rv q => ?_⟩
  refine wpAny_matchFirst_cons (wpAny_mono (h.run pins s σ H v w _ I rv q) (fun r s1 hr => ?_) fun _ _ z => z)
  cases r with
  | none =>
    obtain ⟨H1, I1, q1⟩ := hr
    exact hs.run pins s1 σ H1 v w Q I1 rv q1
  | some bs =>
    obtain ⟨vs, H1, I1, e, rr, q1⟩ := hr
    exact ⟨vs, H1, I1, e, rr, q1⟩
theorem pat_or {ps : List Pattern} {t : TP} (h : PFst X ps t) (hn : namesOfAll (ps.take 1) = [] := by rfl) : PPat X (.MatchOr ps pos) [] (fun v H Q => t v H fun r H1 => match r with | some _ => Q (some []) H1 | none => Q none H1) := by
  refine ⟨fun pins s σ H v w Q I rv q => ?_⟩
  refine wpAny_matchPattern_Or (wpAny_mono (h.run pins s σ H v w _ I rv q) (fun r s1 hr => ?_) fun _ _ z => z)
  cases r with
  | none => exact hr
  | some bs =>
    obtain ⟨vs, H1, I1, e, rr, q1⟩ := hr
    rw [hn]
    exact ⟨[], H1, I1, rfl, .nil, q1⟩
/-- the parts, one by one -/
def tPNil : TPs := fun _ H Q => Q (some []) H
def tPCons (t : TP) (u : TPs) : TPs := fun vs H Q => ∃ v r, vs = v :: r ∧ t v H fun b H1 => match b with | none => Q none H1 | some xs => u r H1 fun b2 H2 => match b2 with | none => Q none H2 | some ys => Q (some (xs ++ ys)) H2
theorem pp_nil : PPats X [] [] tPNil := ⟨fun pins s σ H vs us Q I rv h => wpAny_matchEach_nil ⟨[], H, I, rfl, .nil, h⟩⟩
theorem pp_cons {p : Pattern} {ps : List Pattern} {n1 n2 : List Str} {t : TP} {u : TPs} (h : PPat X p n1 t) (hs : PPats X ps n2 u) (hp : p.isStar = false := by rfl) : PPats X (p :: ps) (n1 ++ n2) (tPCons t u) := by
  refine ⟨fun pins s σ H vs us Q I rv q => ?_⟩
  obtain ⟨v, r, rfl, q⟩ := q
  cases rv with
  | cons r1 r2 =>
    refine wpAny_matchEach_cons (wpAny_mono (h.run pins s σ H v _ _ I r1 q) (fun b s1 hb => ?_) fun _ _ z => z) hp
    cases b with
    | none => exact hb
    | some bs =>
      obtain ⟨xs, H1, I1, e1, rr, q1⟩ := hb
      refine wpAny_mono (hs.run pins s1 σ H1 r _ _ I1 r2 q1) (fun b2 s2 hb2 => ?_) fun _ _ z => z
      cases b2 with
      | none => exact hb2
      | some bs2 =>
        obtain ⟨ys, H2, I2, e2, rr2, q2⟩ := hb2
        refine ⟨xs ++ ys, H2, I2, by rw [List.map_append, e1, e2], ?_, q2⟩
        rw [List.map_append]
        exact rr.append rr2
/-- a tuple of so many parts -/
def tPSeq (K : PySem.W.Frag) (n : Nat) (t : TPs) : TP := fun v H Q => ∃ a xs, v = .ref a ∧ SqT K H a xs ∧ (xs.length ≠ n → Q none H) ∧ (xs.length = n → t xs H Q)
theorem pat_seq {ps : List Pattern} {ns : List Str} {t : TPs} (hc : X.calm = true) (h : PPats X ps ns t) (hstar : ps.findIdx? (·.isStar) = none := by rfl) (hwild : (ps.all fun p => p.isWildcard || (p.isStar && p.names.isEmpty)) = false := by rfl) :
    PPat X (.MatchSequence ps pos) ns (tPSeq X.K ps.length t) := by
  refine ⟨fun pins s σ H v u Q I rv q => ?_⟩
  obtain ⟨a, xs, rfl, hq, q1, q2⟩ := q
  obtain rfl : u = Value.ref a := rv
  obtain ⟨its, rr, ht, hz⟩ := I.tuple hq
  have hfit : ((its.toArray).size : Int) < 2 ^ 63 := by
    have := rr.length
    have l := line63
    simp only [List.size_toArray]
    omega
  by_cases hl : xs.length = ps.length
  · refine PyProof.Rows.matchSeq_tuple_hit ht hfit (by simp [← hl, rr.length]) ?_ hstar hwild
    have e : ps.length = its.toArray.size := by simp [← hl, rr.length]
    rw [e]
    refine unpackItems_tuple (s := { s with toks := s.toks + 1 + 1 }) (I.ok.hd hc) ht fun h' hx => ?_
    have I1 : Inv X pins σ H { s with heap := h', toks := s.toks + 1 + 1 } := I.kept (t' := s.toks + 1 + 1) fun b o e => hx b o (Nat.ne_of_lt (Heap.lt_size e)) e
    exact h.run pins _ σ H xs _ Q I1 (by simpa using rr) (q2 hl)
  · refine PyProof.Rows.matchSeq_tuple_miss ht hfit (by simpa [← rr.length] using hl) ?_ hstar hwild
    exact ⟨H, I.tok _, q1 hl⟩
/-- what is bound goes to its slots -/
def setAll : L2.St → List Nat → List V → L2.St
  | σ, i :: is, v :: vs => setAll (σ.set i (some v)) is vs
  | σ, _, _ => σ
theorem assign_all {pins : List (Addr × Obj)} (hN : X.N.Nodup) : ∀ {ns : List Str} {is : List Nat} {bs : List (Str × Value)} {vs : List V} {σ : L2.St} {H : Hp} {s : Shared} {Q : Unit → Shared → Prop} {E : Value → Shared → Prop}, Inv X pins σ H s → bs.map (·.1) = ns → Vals vs (bs.map (·.2)) →
    (is.map fun i => X.N[i]?) = ns.map some → (∀ n ∈ ns, X.env.scope.names.lookup n = some .local) → (∀ s', Inv X pins (setAll σ is vs) H s' → Q () s') → wpAny (model X.prog X.w) X.A (assignInOrder (bs.map fun (n, _) => bindName X.env n) (bs.map (·.2))) Q E s
  | ns, is, [], vs, σ, H, s, Q, E, I, e, rv, hi, hl, q => by
    cases rv
    subst e
    cases is with
    | nil => exact wpAny_assignInOrder_none (q s I)
    | cons i is => cases hi
  | ns, is, (n, u) :: bs, vs, σ, H, s, Q, E, I, e, rv, hi, hl, q => by
    subst e
    cases is with
    | nil => cases hi
    | cons i is =>
      cases rv with
      | @cons v _ vs _ r1 r2 =>
        simp only [List.map_cons, List.cons.injEq] at hi
        refine wpAny_assignInOrder_more ?_
        show wpAny _ _ (bindName X.env n u) _ _ _
        unfold bindName
        refine wpAny_bind (wpAny_holding (wpAny_point ?_))
        refine wpAny_bind (store_ok (v := v) I hN hi.1 (.inl (hl n (by simp))) r1 (fun s1 I1 => wpAny_point ?_) (.inr (hl n (by simp))))
        exact assign_all hN I1 rfl r2 hi.2 (fun m hm => hl m (by simp at hm ⊢; exact .inr hm)) q
/-- the cases, in turn -/
structure PCs (X : Cx) (cs : List MatchCase) (t : V → TS) : Prop where
  run : ∀ (first : Bool) (pins : List (Addr × Obj)) (s : Shared) (σ : L2.St) (H : Hp) (v : V) (u : Value) (D : Ends), Inv X pins σ H s → RelV v u → t v D σ H → wpAny (model X.prog X.w) X.A (matchCases cs X.env u first) (SP X pins D) X.xe s
def tCNil : V → TS := fun _ D σ H => D.nx σ H
theorem pc_nil : PCs X [] tCNil := ⟨fun first pins s σ H v u D I rv h => wpAny_matchCases_nil ⟨σ, H, I, h⟩⟩
def tCase (pt : TP) (is : List Nat) (tb : TS) (rest : V → TS) : V → TS := fun v D σ H => pt v H fun r H1 => match r with | none => rest v D σ H1 | some vs => tb D (setAll σ is vs) H1
theorem pc_cons {p : Pattern} {body : List Stmt} {cs : List MatchCase} {ns : List Str} {is : List Nat} {pt : TP} {tb : TS} {rest : V → TS} (hN : X.N.Nodup) (hp : PPat X p ns pt) (hi : (is.map fun i => X.N[i]?) = ns.map some) (hl : ∀ n ∈ ns, X.env.scope.names.lookup n = some .local)
    (hb : PSs X body tb) (hr : PCs X cs rest) : PCs X (⟨p, none, body⟩ :: cs) (tCase pt is tb rest) := by
  refine ⟨fun first pins s σ H v u D I rv h => ?_⟩
  refine wpAny_matchCases_cons (wpAny_mono (hp.run pins s σ H v u _ I rv h) (fun r s1 hr1 => ?_) fun _ _ z => z)
  cases r with
  | none =>
    obtain ⟨H1, I1, q1⟩ := hr1
    exact hr.run false pins s1 σ H1 v u D I1 rv q1
  | some bs =>
    obtain ⟨vs, H1, I1, e, rr, q1⟩ := hr1
    exact assign_all hN I1 e rr hi hl fun s2 I2 => hb.run pins s2 _ H1 D I2 q1
theorem all_local {ns : List Str} (h : (ns.all fun n => decide (X.env.scope.names.lookup n = some .local)) = true) : ∀ n ∈ ns, X.env.scope.names.lookup n = some .local := fun n hn => of_decide_eq_true (List.all_eq_true.mp h n hn)
def tMatch (te : TE) (cs : V → TS) : TS := fun D σ H => te σ H fun v H1 => cs v D σ H1
theorem ps_match {e : Expr} {te : TE} {cs : List MatchCase} {t : V → TS} (he : PE X e te) (hc : PCs X cs t) : PS X (.Match e cs pos) (tMatch te t) := by
  refine ⟨fun pins s σ H D I h => ?_⟩
  refine wpAny_Match (wpAny_mono (he.run pins s σ H _ I h) (fun u s1 hu => ?_) fun _ _ z => z)
  obtain ⟨v, H1, I1, rv, q⟩ := hu
  exact hc.run true pins s1 σ H1 v u D I1 rv q
end
section
variable {K : PySem.W.Frag} {H : Hp} {a : Addr} {v : V} {xs : List V} {Q : Option (List V) → Hp → Prop} {t : TPs} {n : Nat} {σ : L2.St} {D : Ends} {te : TE} {cs : V → TS}
theorem rd_match (h : te σ H fun v H1 => cs v D σ H1) : tMatch te cs D σ H := h
theorem rd_case {pt : TP} {is : List Nat} {tb : TS} {rest : V → TS} (h : pt v H fun r H1 => match r with | none => rest v D σ H1 | some vs => tb D (setAll σ is vs) H1) : tCase pt is tb rest v D σ H := h
theorem rd_cnil (h : D.nx σ H) : tCNil v D σ H := h
theorem rd_pstr {x : Str} {r : R2} (h : r v (.str x) H fun b H' => ∃ k, b = .bl k ∧ if k = true then Q (some []) H' else Q none H') : tPStr r x v H Q := h
theorem rd_pcap (h : Q (some [v]) H) : tPCap v H Q := h
theorem rd_pwild (h : Q (some []) H) : tPWild v H Q := h
theorem rd_por {t u : TP} (h : t v H fun r H1 => match r with | some vs => Q (some vs) H1 | none => u v H1 Q) : tPOr t u v H Q := h
theorem rd_pno (h : Q none H) : tPNo v H Q := h
theorem rd_pnil (h : Q (some []) H) : tPNil xs H Q := h
theorem rd_pcons {t : TP} {u : TPs} (h : t v H fun b H1 => match b with | none => Q none H1 | some ys => u xs H1 fun b2 H2 => match b2 with | none => Q none H2 | some zs => Q (some (ys ++ zs)) H2) : tPCons t u (v :: xs) H Q := ⟨v, xs, rfl, h⟩
theorem rd_pmiss (h : SqT K H a xs) (e : xs.length ≠ n) (q : Q none H) : tPSeq K n t (.ref a) H Q := ⟨a, xs, rfl, h, fun _ => q, fun z => absurd z e⟩
theorem rd_phit (h : SqT K H a xs) (e : xs.length = n) (q : t xs H Q) : tPSeq K n t (.ref a) H Q := ⟨a, xs, rfl, h, fun z => absurd e z, fun _ => q⟩
end
/-! ### d.setdefault(k, x), k a tuple -/
def rSetdT : V → List V → Hp → VK → Prop := fun x xs H Q => ∃ (a : Addr) (kvs : List (List L2.Key × V)) (k : List L2.Key) (b : Addr) (d : V), x = .ref a ∧ xs = [.ref b, d] ∧ H a = some (.dT kvs) ∧ H b = some (.tup (k.map kV)) ∧ kvs.length < sizeLine ∧
  (∀ v, valV kvs k = some v → Q v H) ∧ (valV kvs k = none → Q d (upd H a (.dT (putK kvs k d))))
theorem mt_setdT {X : Cx} (hu : X.A.units + 1 < cLine) : MtR X "dict.setdefault" rSetdT := by
  intro pins s σ H x xs v us Q I rx rxs h
  obtain ⟨a, kvs, k, b, d, rfl, rfl, ha, hb, hlen, q1, q2⟩ := h
  cases rx
  obtain ⟨u1, u2, rfl, r1, r2⟩ := vals2 rxs
  cases r1
  obtain ⟨z, hd, xs', rel, dd⟩ := dt_of I.hok ha
  have hz : xs'.length ≤ sizeLine := by rw [← Paired.length rel]; exact z
  have hl : (putK kvs k d).length ≤ sizeLine := by have := length_putK kvs k d; omega
  refine call_setdefault_heap (knd := tupleKind (mixKind X.prog X.w)) (hsz := hz) (tupleKind_room_in1 hu) (key_of I.hok hb) hd dd (fun p hp => ?_) (fun hn h' dd' hs => ?_)
  · have r := rel.val k
    rw [hp] at r
    obtain ⟨v0, ev, rv⟩ : ∃ v0, valV kvs k = some v0 ∧ RelV v0 p.2 := by
      cases ev : valV kvs k with
      | none => rw [ev] at r; exact (show False from r).elim
      | some v0 => rw [ev] at r; exact ⟨v0, rfl, r⟩
    exact ⟨v0, H, I.tok _, rv, q1 v0 ev⟩
  · have r := rel.val k
    rw [hn] at r
    have e : valV kvs k = none := by
      cases ev : valV kvs k with
      | none => rfl
      | some v0 => rw [ev] at r; exact (show False from r).elim
    obtain ⟨q, es, ep, hq, h2, h3, h4, _, h5⟩ := dd'
    refine ⟨d, upd H a (.dT (putK kvs k d)), d_write I (by rw [ha]; exact True.intro) hs ⟨q, hq⟩ ⟨hl, hd, _, (rel.put k hb r2).keeps fun c ys ec => ?_, q, es, ep, hq, h2, h3, h4, h5⟩, r2, q2 e⟩
    rw [upd_ne (ne_of ec ha (fun z => nomatch z))]
    exact ec
theorem rd_setdT {a b : Addr} {kvs : List (List L2.Key × V)} {k : List L2.Key} {d : V} {H : Hp} {Q : VK} (ha : H a = some (.dT kvs)) (hb : H b = some (.tup (k.map kV))) (hl : kvs.length < sizeLine)
    (q1 : ∀ v, valV kvs k = some v → Q v H) (q2 : valV kvs k = none → Q d (upd H a (.dT (putK kvs k d)))) : rSetdT (.ref a) [.ref b, d] H Q := ⟨a, kvs, k, b, d, rfl, rfl, ha, hb, hl, q1, q2⟩
end Dc

set_option Elab.async false
set_option linter.all false
set_option maxRecDepth 100000
set_option maxHeartbeats 2000000
namespace Dc
open PySem PySem.Spec PyProof.Rows L2
/-! ### defs that may let an exception out -/
theorem okX {P : Program} {w : World} {K : PySem.W.Frag} {mg : Str → Option Value} {base : Heap} {x qual : Str} {params : Arguments} {body : List Stmt} {scope : Scope} {f : Addr} {fd : FuncData}
    {N ps : List Str} {k : Nat} {sp : Sp} (F : FunD K x qual params body scope [] [] f fd) (S : FnScope N ps scope) (len : ∀ vs H Q E, sp vs H Q E → vs.length = ps.length)
    (hbody : ∀ (cdv : Value) (A : Around) (outer : List Env) (s : Shared) (H : Hp) (vs : List V) (Q : VK) (E : XK), Room k (A.deeper (envOfC qual scope s.heap.objs.size f cdv)) → sp vs H Q E →
      Passes (L2.CX P w) (cxOf (L2.CX P w) P w K mg base N qual scope f cdv A outer s H E) E →
      Takes (cxOf (L2.CX P w) P w K mg base N qual scope f cdv A outer s H E) (fun cls d _ H => E cls d H) →
      PassesOwn (model P w) (A.deeper (envOfC qual scope s.heap.objs.size f cdv)) (envOfC qual scope s.heap.objs.size f cdv) (cxOf (L2.CX P w) P w K mg base N qual scope f cdv A outer s H E).xe →
      ∃ t, PSs (cxOf (L2.CX P w) P w K mg base N qual scope f cdv A outer s H E) body t ∧ t { nx := fun _ H' => Q .non H', rt := Q } (start N vs) H) : FnOk P w K mg base (L2.CX P w) (k + 1) f fd ps sp := by
  refine F.ok S len fun cdv A outer s H vs Q E hr h => ?_
  have tk : Takes (cxOf (L2.CX P w) P w K mg base N qual scope f cdv A outer s H E) (fun cls d _ H => E cls d H) := takes_of rfl rfl rfl rfl
  exact hbody cdv A outer s H vs Q E hr h (passes_call tk fun _ _ _ _ h => h) tk (passes_of rfl)
/-- behind a callee that lets nothing out -/
theorem passX0 {X : Cx} : Passes (L2.CX X.prog X.w) X E0 := fun _ _ _ _ _ _ _ ⟨_, _, _, _, _, _, _, _, _, _, _, _, h⟩ => h.elim
theorem rd_augS {to ti te : TE} {tget : V → V → Hp → VK → Prop} {tip : TIp} {tset : TSet} {D : Ends} {σ : L2.St} {H : Hp} (h : to σ H fun o H1 => ti σ H1 fun i H2 => tget o i H2 fun x H3 => te σ H3 fun y H4 => tip x y H4 fun z H5 => tset o i z H5 fun H6 => D.nx σ H6) : tAugS to ti te tget tip tset D σ H := h
end Dc

set_option Elab.async false
set_option linter.all false
set_option maxRecDepth 100000
set_option maxHeartbeats 2000000
namespace Dc
open PySem PySem.Spec PyProof.Rows L2
local macro_rules | `(tactic| walk_at "ne") => `(tactic| first | assumption | (refine Ne.symm ?_; assumption) | exact ne_of (by assumption) (by assumption) (by intro q; cases q) | exact ne_of_none (by assumption) (by assumption) | exact Ne.symm (ne_of_none (by assumption) (by assumption)))
local macro_rules | `(tactic| walk_at "hp") => `(tactic| first | assumption | exact upd_same | (refine upd_keep ?_ (by assumption); walk_at "hp") | (refine upd_other ?_ ?_; · walk_at "ne"; · walk_at "hp"))
local macro_rules | `(tactic| walk_at "hl") => `(tactic| first | assumption | exact SqL.of (by walk_at "hp"))
local macro_rules | `(tactic| walk_at "ht") => `(tactic| first | assumption | exact SqT.of (by walk_at "hp"))
local macro_rules | `(tactic| walk_at "rd1") => `(tactic| first
  | ((with_reducible apply rd_var); exact rfl)
  | ((with_reducible apply rd_eq); exact rfl) | ((with_reducible apply rd_ne); exact rfl)
  | with_reducible first
  | refine iteT ?_ | refine iteF ?_ | refine rd_nF ?_ | refine rd_nT ?_ | refine rd_yes ?_ | refine rd_c ?_ | refine rd_op ?_ | refine rd_un ?_ | refine rd_test ?_ | refine rd_B ?_ | refine rd_bl ?_ | refine rd_seq ?_ | refine rd_next ?_ | refine rd_ifs ?_ | refine rd_asg ?_ | refine rd_name ?_ | refine rd_ret ?_ | refine rd_drop ?_
  | refine rd_call ?_ | refine rd_cons ?_ | refine rd_nil ?_ | refine rd_cb ?_ | refine rd_I0 ?_ | refine rd_U ?_ | refine rd_gsub ?_ | refine rd_lst ?_ | refine rd_tup ?_ | refine rd_if ?_ | refine rd_not ?_ | refine rd_rng1 ?_ | refine rd_itup ?_ | refine rd_ilst ?_ | refine rd_bm ?_ | refine rd_bm0 ?_ | refine rd_andV ?_ | refine rd_orV ?_ | refine rd_notV ?_)
local macro_rules | `(tactic| walk_at "rd") => `(tactic| repeat walk_at "rd1")
local macro_rules | `(tactic| walk_at "ci") => `(tactic| first | assumption | (show (0 : Int) < _; first | decide | omega) | exact ⟨by decide, by decide⟩ | exact Or.inr ⟨by decide, by decide⟩ | exact Or.inl ⟨by decide, by decide⟩ | exact ⟨by decide, by decide, by decide⟩ | exact Or.inl ⟨by omega, by omega⟩ | exact Or.inr ⟨by omega, by omega⟩)
local macro_rules | `(tactic| walk_at "ix") => `(tactic| first
  | ((with_reducible apply rd_ixL); (walk_at "hl"); exact rfl)
  | ((with_reducible apply rd_ixT); (walk_at "ht"); exact rfl)
  | ((with_reducible apply rd_lenL); (walk_at "hl"))
  | ((with_reducible apply rd_lenT); (walk_at "ht"))
  | ((with_reducible apply rd_tupOf); (walk_at "hl"))
  | ((with_reducible apply rd_listOf); (walk_at "hl"))
  | (with_reducible refine rd_min2 ?_)
  | ((with_reducible apply rd_I); (walk_at "ci"))
  | ((with_reducible apply rd_setL); (walk_at "hp"); exact rfl))
local macro_rules | `(tactic| walk_at "gs") => `(tactic| repeat first | walk_at "rd1" | walk_at "ix")
local macro_rules | `(tactic| walk_at "go") => `(tactic| repeat first | walk_at "rd1" | walk_at "ix" | with_reducible refine rd_and ?_ | with_reducible refine rd_or ?_)
local macro_rules | `(tactic| walk_at "fo") => `(tactic| (with_reducible refine rd_for ?_))
local macro_rules | `(tactic| walk_at "pm") => `(tactic| repeat first
  | with_reducible first | refine rd_pcons ?_ | refine rd_pstr ?_ | refine rd_pcap ?_ | refine rd_pwild ?_ | refine rd_pnil ?_ | refine rd_por ?_ | refine rd_pno ?_
  | ((with_reducible refine rd_eq rfl ?_); refine ⟨_, rfl, ?_⟩; first | refine rd_T rfl ?_ | refine rd_F (by decide) ?_)
  | dsimp only [List.nil_append, List.singleton_append, List.cons_append, setAll])
local macro_rules | `(tactic| walk_at "pc") => `(tactic| (refine rd_case ?_); (first | (refine rd_phit (SqT.of (by assumption)) rfl ?_) | (refine rd_pmiss (SqT.of (by assumption)) (by simp) ?_)); (walk_at "pm"))

/-! list.count of a list of truth values -/
theorem bools_of : ∀ {bs : List Bool} {us : List Value}, Vals (bs.map V.bl) us → us = bs.map Value.bool
  | [], _, .nil => rfl
  | b :: bs, _, .cons r t => by
    have e := bools_of t
    cases r
    rw [e]
    rfl
def rCntB (K : PySem.W.Frag) : V → List V → Hp → VK → Prop := fun x xs H Q => ∃ (p : Addr) (bs : List Bool) (k : Bool), x = .ref p ∧ xs = [.bl k] ∧ SqL K H p (bs.map V.bl) ∧ Q (.int (bs.count k : Nat)) H
theorem cntB (k : Bool) : ∀ bs : List Bool, (bs.map Value.bool).countP (PyProof.Rows.isBoolOf k) = bs.count k
  | [] => rfl
  | b :: bs => by
    rw [List.map_cons, List.countP_cons, List.count_cons, cntB k bs]
    rfl
theorem mt_countB {X : Cx} : MtR X "list.count" (rCntB X.K) := by
  intro pins s σ H x xs v us Q I rx rxs h
  obtain ⟨p, bs, k, rfl, rfl, hs, q⟩ := h
  cases rx
  obtain ⟨u, rfl, ru⟩ := rxs.one
  cases ru
  obtain ⟨its, rv, ⟨⟨cls, dd, data, sl⟩, n, ho, hc, hdn, hd⟩, hlen⟩ := I.list hs
  simp only at hc hd
  subst hc hd
  have hi := bools_of rv
  refine call_meets PySem.F.slot_list_count ⟨_, ho, rfl⟩ PySem.F.entry_list_count (PySem.F.args_list_count_2 _ _)
    (SeqAt.list_countAt p its.toArray n dd sl (.bool k) (PyProof.Rows.isBoolOf k)) ⟨ho, fun y hy => ?_, ?_⟩
  · have hy : y ∈ its := by simpa using hy
    rw [hi] at hy
    obtain ⟨b, _, rfl⟩ := List.mem_map.mp hy
    exact PySem.SeqAt.EqAt.bool_bool b k
  · have ec : its.toArray.toList.countP (PyProof.Rows.isBoolOf k) = bs.count k := by
      show its.countP _ = _
      rw [hi]
      exact cntB k bs
    refine ⟨.int (bs.count k : Nat), H, I.tok _, ⟨s.toks, ?_⟩, q⟩
    show Value.int ((its.toArray.toList.countP (PyProof.Rows.isBoolOf k) : Nat) : Int) s.toks = Value.int ((bs.count k : Nat) : Int) s.toks
    rw [ec]
theorem pe_dead {X : Cx} {e : Expr} : PE X e (fun _ _ _ => False) := ⟨fun _ _ _ _ _ _ h => h.elim⟩
/-! the refusals, where they stand -/
structure KJ where (de bc bm nw bt : Addr)
structure KB (mg : Str → Option Value) (J : KJ) : Prop where
  de : mg "DrawError" = some (.ref J.de)
  bc : mg "BadChain" = some (.ref J.bc)
  bm : mg "BadMany" = some (.ref J.bm)
  nw : mg "NoWhole" = some (.ref J.nw)
  bt : mg "BadText" = some (.ref J.bt)
  ve : mg "ValueError" = none
/-- D is the refusal i: 0 BadChain, 1 BadMany, 2 NoWhole -/
structure KOne (K : PySem.W.Frag) (J : KJ) (D : Addr) (i : Nat) : Prop where
  ex : ExcC K D
  de : PySem.W.exmOne K (.ref D) (.ref J.de) = some true
  bc : PySem.W.kitOne K (.ref D) (.ref J.bc) = some (decide (i = 0))
  bm : PySem.W.kitOne K (.ref D) (.ref J.bm) = some (decide (i = 1))
  nw : PySem.W.kitOne K (.ref D) (.ref J.nw) = some (decide (i = 2))
  bt : PySem.W.kitOne K (.ref D) (.ref J.bt) = some false
  ve : PySem.W.kitOne K (.ref D) (.type "ValueError") = some true
  lt : i < 3
def kword (i : Nat) : Str := (["BadChain", "BadMany", "NoWhole"] : List Str).getD i ""
/-- told by _law_kind: what the work tells, or the word of its refusal -/
def TTk (K : PySem.W.Frag) (J : KJ) : (XK → Hp → VK → Prop) → Hp → VK → Prop := fun tl H Q =>
  tl (fun cls d H' => ∃ D i, cls = .ref D ∧ d = none ∧ KOne K J D i ∧ ∀ H'', Fr [] H' H'' → Q (.str (kword i)) H'') H Q
theorem sc__law_kind : FnScope ["_law_work", "e", "_law_kinds", "_law_word"] ["_law_work"] (defScope s__law_kind) := ⟨rfl, rfl, rfl, by decide +kernel, rfl, by decide +kernel, by decide +kernel⟩
theorem takesLen {X : Cx} {W W' : WX} (t : Takes X W) (h : ∀ c d σ H, σ.length = X.N.length → W' c d σ H → W c d σ H) : Takes X W' := fun u s' ⟨a, B, sI, pins, σ, H, cls, d, e, I, nb, up, sky, na, os, ag, w⟩ =>
  t u s' ⟨a, B, sI, pins, σ, H, cls, d, e, I, nb, up, sky, na, os, ag, h _ _ _ _ I.len w⟩
section
variable {J : KJ}
theorem kind_gives {X : Cx} {g : Addr} {cdg : Value} {q : Str} (T : Txt X.K X.mg) (B : KB X.mg J) : LamX.GivesTo X ["_law_work", "e", "_law_kinds", "_law_word"] "_law_kind" (defScope s__law_kind) g cdg (defBody s__law_kind) "_law_work" q (TTk X.K J) := by
  intro f c' s H Q tl act hc h
  refine ⟨_, pss_one (ps_try_as (i := 1) (c := .ref J.de) (tb := fun W D σ H => ∃ Ech : XK, (∀ cls d σ' H', σ'.length = 4 → Ech cls d H' → W cls d σ' H') ∧ σ[0]? = some (some (.ref f)) ∧ H c' = some (LamX.CodeO c' q) ∧ tl Ech H D.rt)
    (ts := fun a cls d D σ H => ∃ D0 i, cls = .ref D0 ∧ d = none ∧ KOne X.K J D0 i ∧ σ.length = 4 ∧ σ[1]? = some (some (.ref a)) ∧ ∀ H'', Fr [] H H'' → D.rt (.str (kword i)) H'') (Wout := fun _ _ _ _ => False) rfl rfl sc__law_kind.nd rfl rfl ⟨rfl, by decide, .inl B.de⟩ LamX.takes0 (fun W pn xe tk _ => ?_) (fun a oe cls d pn hz hf => ?_)), ?_⟩
  · refine ⟨fun pins s' σ H' D I h' => ?_⟩
    obtain ⟨Ech, hW, h1, h2, h3⟩ := h'
    exact PSs.run (pss_one (ps_ret (act (fun cls d _ H' => Ech cls d H') pn xe Ech _ _ (takesLen tk fun c d σ H hl e => hW c d σ H hl e) (fun _ _ _ _ e => e)))) pins s' σ H' D I ⟨h1, h2, h3⟩
  · refine ⟨fun pins s' σ H' D I h' => ?_⟩
    obtain ⟨D0, i, rfl, rfl, hk, hl, h1, h2⟩ := h'
    have hE := hk.ex
    let K := X.K
    refine PSs.run (X := (cxOf C8.CX0 X.prog X.w X.K X.mg X.base ["_law_work", "e", "_law_kinds", "_law_word"] "_law_kind" (defScope s__law_kind) g cdg X.A X.stack s H C8.E0).nox.suite a ((a, oe) :: pn)) ((pss_cons (ps_set (i := 2) sc__law_kind.nd rfl (Or.inl rfl) (pe_lst (pa_cons (pe_callB (call_isE hE hz hf) (by rfl) T.free_isinstance (by decide +kernel) (pa_cons (pv 1) (pa_cons (pe_glob (v := .ref J.bc) (by rfl) B.bc rfl) pa_nil))) (pa_cons (pe_callB (call_isE hE hz hf) (by rfl) T.free_isinstance (by decide +kernel) (pa_cons (pv 1) (pa_cons (pe_glob (v := .ref J.bm) (by rfl) B.bm rfl) pa_nil))) (pa_cons (pe_callB (call_isE hE hz hf) (by rfl) T.free_isinstance (by decide +kernel) (pa_cons (pv 1) (pa_cons (pe_glob (v := .ref J.nw) (by rfl) B.nw rfl) pa_nil))) (pa_cons (pe_callB (call_isE hE hz hf) (by rfl) T.free_isinstance (by decide +kernel) (pa_cons (pv 1) (pa_cons (pe_glob (v := .ref J.bt) (by rfl) B.bt rfl) pa_nil))) pa_nil))))))
  (pss_cons (ps_if (PW.pt (pw_or (pt_cmpR op_ne (pe_bm PySem.F.plainAttrs_list PySem.F.slot_list_count PySem.F.type_list_count mt_countB (pv 2) (pa_cons pe_bl pa_nil)) pe_int (nomark _)) (pw_or1 (pt_not (pt_val (pe_callB (call_isE hE hz hf) (by rfl) T.free_isinstance (by decide +kernel) (pa_cons (pv 1) (pa_cons (pe_bltn (v := .ty "ValueError") (u := .type "ValueError") (by rfl) B.ve (by decide +kernel) rfl) pa_nil))))))))
    (pss_one (ps_ret pe_str)) pss_nil)
  (pss_cons (ps_set (i := 3) sc__law_kind.nd rfl (Or.inl rfl) (pe_ix (ix_listK K) (pe_lst (pa_cons pe_str (pa_cons pe_str (pa_cons pe_str (pa_cons pe_str pa_nil))))) (pe_bm PySem.F.plainAttrs_list PySem.F.slot_list_index PySem.F.type_list_index mt_index (pv 2) (pa_cons pe_bl pa_nil)) (fun _ _ => rfl)))
  (pss_one (ps_ret (pe_ifExp (pt_cmpR op_eq (pv 3) pe_str (nomark _)) (pe_tup (pa_cons (pv 3) (pa_cons pe_dead pa_nil))) (pv 3)))))))) pins s' σ H' D I ?_
    obtain ⟨x0, x1, x2, x3, rfl⟩ : ∃ x0 x1 x2 x3, σ = [x0, x1, x2, x3] := by
      match σ, hl with
      | [x0, x1, x2, x3], _ => exact ⟨_, _, _, _, rfl⟩
    obtain rfl : x1 = some (.ref a) := Option.some.inj h1
    try dsimp only [cxOf, Cx.nox, Cx.wish]
    refine rd_seq ?_
    refine rd_asg ?_
    walk_at "go"
    refine ⟨_, _, _, rfl, (fun u r => r), hk.bc, ?_⟩
    walk_at "go"
    refine ⟨_, _, _, rfl, (fun u r => r), hk.bm, ?_⟩
    walk_at "go"
    refine ⟨_, _, _, rfl, (fun u r => r), hk.nw, ?_⟩
    walk_at "go"
    refine ⟨_, _, _, rfl, (fun u r => r), hk.bt, ?_⟩
    walk_at "go"
    refine ⟨by show (4 : Nat) ≤ _; decide, fun p np => ?_⟩
    dsimp only [gName, List.set]
    refine rd_seq ?_
    refine rd_ifs ?_
    walk_at "go"
    have ft : Fr [] H' (upd H' p (HO.lst [V.bl (decide (i = 0)), V.bl (decide (i = 1)), V.bl (decide (i = 2)), V.bl false])) := Fr.new np
    have hp : upd H' p (HO.lst [V.bl (decide (i = 0)), V.bl (decide (i = 1)), V.bl (decide (i = 2)), V.bl false]) p = some (.lst ([decide (i = 0), decide (i = 1), decide (i = 2), false].map V.bl)) := upd_same
    generalize upd H' p (HO.lst [V.bl (decide (i = 0)), V.bl (decide (i = 1)), V.bl (decide (i = 2)), V.bl false]) = Hq at ft hp ⊢
    refine ⟨.inl ⟨rfl, _, SqL.of hp⟩, ?_⟩
    walk_at "go"
    refine ⟨_, _, true, rfl, rfl, SqL.of hp, ?_⟩
    walk_at "go"
    rw [if_neg (by have := hk.lt; clear hp; rcases (by omega : i = 0 ∨ i = 1 ∨ i = 2) with rfl | rfl | rfl <;> decide)]
    walk_at "go"
    refine ⟨_, _, _, rfl, (fun u r => r), hk.ve, ?_⟩
    walk_at "go"
    refine ⟨by show (4 : Nat) ≤ _; decide, fun p2 np2 => ?_⟩
    have ft2 := ft.trans (Fr.new (S := []) (o := HO.lst [V.str (Str.ofString "BadChain"), V.str (Str.ofString "BadMany"), V.str (Str.ofString "NoWhole"), V.str (Str.ofString "BadText")]) np2) (fun b hb => by cases hb)
    have hp1 := (Fr.new (S := []) (o := HO.lst [V.str (Str.ofString "BadChain"), V.str (Str.ofString "BadMany"), V.str (Str.ofString "NoWhole"), V.str (Str.ofString "BadText")]) np2).at hp (by simp)
    have hp2 : upd Hq p2 (HO.lst [V.str (Str.ofString "BadChain"), V.str (Str.ofString "BadMany"), V.str (Str.ofString "NoWhole"), V.str (Str.ofString "BadText")]) p2 = some _ := upd_same
    generalize upd Hq p2 (HO.lst [V.str (Str.ofString "BadChain"), V.str (Str.ofString "BadMany"), V.str (Str.ofString "NoWhole"), V.str (Str.ofString "BadText")]) = Hr at ft2 hp1 hp2 ⊢
    refine rd_bm ?_
    walk_at "go"
    refine ⟨.inl ⟨rfl, _, SqL.of hp1⟩, ?_⟩
    walk_at "go"
    refine ⟨_, _, _, i, .bl true, rfl, rfl, SqL.of hp1, rfl, rfl, ?_, rfl, ?_, ?_⟩
    · have := hk.lt
      rcases (by omega : i = 0 ∨ i = 1 ∨ i = 2) with rfl | rfl | rfl <;> rfl
    · intro m z' hm hz
      have := hk.lt
      rcases (by omega : m = 0 ∧ i = 1 ∨ m = 0 ∧ i = 2 ∨ m = 1 ∧ i = 2) with ⟨rfl, rfl⟩ | ⟨rfl, rfl⟩ | ⟨rfl, rfl⟩ <;> (cases hz; rfl)
    dsimp only
    refine ⟨_, _, _, .str (kword i), rfl, rfl, SqL.of hp2, ?_, ?_⟩
    · have := hk.lt
      rcases (by omega : i = 0 ∨ i = 1 ∨ i = 2) with rfl | rfl | rfl <;> rfl
    dsimp only [gName, List.set]
    refine rd_ret ?_
    refine rd_if ?_
    walk_at "go"
    rw [if_neg ?_]
    · walk_at "go"
      exact h2 _ ft2
    · have := hk.lt
      rcases (by omega : i = 0 ∨ i = 1 ∨ i = 2) with rfl | rfl | rfl <;> decide
  · refine ⟨fun cls d H' => ∃ D i, cls = .ref D ∧ d = none ∧ KOne X.K J D i ∧ ∀ H'', Fr [] H' H'' → Q (.str (kword i)) H'', fun cls d σ' H' hl h' => ?_, rfl, hc, h⟩
    obtain ⟨D, i, rfl, rfl, hk, h2⟩ := h'
    refine ⟨true, hk.de, fun _ a na => ⟨D, i, rfl, rfl, hk, by simpa using hl, ?_, h2⟩, fun z => by cases z⟩
    rw [List.getElem?_set_self (by omega)]
end
end Dc

set_option Elab.async false
set_option linter.all false
set_option maxRecDepth 100000
set_option maxHeartbeats 2000000
namespace Dc
open PySem PySem.Spec PyProof.Rows L2
/-- a def that lets nothing out, its code object known -/
theorem ok0C {P : Program} {w : World} {K : PySem.W.Frag} {mg : Str → Option Value} {base : Heap} {x qual : Str} {params : Arguments} {body : List Stmt} {scope : Scope} {f : Addr} {fd : FuncData}
    {N ps : List Str} {k : Nat} {sp : Sp} (F : FunD K x qual params body scope [] [] f fd) (S : FnScope N ps scope) (len : ∀ vs H Q E, sp vs H Q E → vs.length = ps.length)
    (hbody : ∀ (A : Around) (outer : List Env) (s : Shared) (H : Hp) (vs : List V) (Q : VK) (E : XK), Room k (A.deeper (envOfC qual scope s.heap.objs.size f fd.code)) → sp vs H Q E →
      ∃ t, PSs (cxOf CX0 P w K mg base N qual scope f fd.code A outer s H E).nox body t ∧ t { nx := fun _ H' => Q .non H', rt := Q } (start N vs) H) : FnOk P w K mg base CX0 (k + 1) f fd ps sp := by
  obtain ⟨oc, od, dV, kV, doc, pm, an, cdv, ct, osl, rfl, lk, hcd, _, _⟩ := F.ex
  refine fn_of lk hcd S len fun A outer s H vs Q E hr hsp => ?_
  obtain ⟨t, ht, q⟩ := hbody A outer s H vs Q E hr hsp
  exact ⟨t, PSs.nox ht, q⟩
theorem pe_kind {X : Cx} {J : KJ} {T : List (Addr × Str)} {c P : Addr} {params : Arguments} {body : Expr} {scope : Scope} {t : XK → TE} {k : Nat} {p lpos pos : Pos} (I : ∃ f fd, FnP X.K "_law_kind" "_law_kind" s__law_kind f fd ∧ X.mg "_law_kind" = some (.ref f)) (Tx : Txt X.K X.mg) (B : KB X.mg J)
    (TB : LamX.TabB X.base X.mg c P) (hcode : X.env.code = .ref c) (hmT : (P, X.env.qual ++ "<lambda>") ∈ T) (hu : ∀ p ∈ T, p.1 = P → p.2 = X.env.qual ++ "<lambda>") (hr : Room (k + 2) X.A) (L : LamX.LamS X.env.scope scope) (hdef : defaultsOf params X.env = ([], []))
    (hbind : ∀ (q : Str) (cl : List (Str × Addr)) (pm cv ctv : Value), bindArgs (PySem.W.kla_fn "<lambda>" q params body scope cl pm cv ctv) ⟨[], []⟩ = pure [])
    (hbody : ∀ (A : Around) (outer : List Env) (s : Shared) (H : Hp) (E : XK) (f c' : Addr), Room k (A.deeper (LamX.lamEnv X scope s.heap.objs.size f c')) → PE (LamX.lamCx X A outer s H E scope f c') body (t E))
    (hg : Gl X "_law_kind" := by rfl) : PE X (.Call (.Name "_law_kind" p) [.Lambda params body scope lpos] [] pos) (LamX.tLam T (TTk X.K J) t) := by
  obtain ⟨g, fd, F, hm⟩ := I
  have hb : Binds X.K fd ["_law_work"] [] := F.bindsN fun _ _ _ _ _ _ us hl => match us, hl with | [_], _ => rfl
  have hk := F.kp
  obtain ⟨oc, od, dV, kV, doc, pm, an, cdv, ct, osl, rfl, lk, hcd, _, _⟩ := F.ex
  exact LamX.pe_lamcall (a := "_law_work") (Ng := ["_law_work", "e", "_law_kinds", "_law_word"]) hg hm hk lk hcd hb sc__law_kind rfl (Or.inl rfl) (kind_gives Tx B) TB hcode hmT hu hr L hdef hbind hbody
end Dc

set_option Elab.async false
set_option linter.all false
set_option maxRecDepth 100000
set_option maxHeartbeats 2000000
namespace L2
open PySem PySem.Spec PyProof.Rows
theorem tuple_mul1 (l : Addr) (items : Array Value) (n : Nat) (dd : Option Addr) (sl : Array (Option Value)) (u : Tok) (hi : items.isEmpty = false) :
    Meets (Builtin.«tuple.__mul__» ⟨[.ref l, .int 1 u], []⟩) (fun _ R s => s.heap.get? l = some { cls := .type "tuple", dict := dd, data := .seq items n, slots := sl } ∧ R (.ok (.ret (Value.ref l))) s) :=
  .of_wp fun prog w A R s h => by
    obtain ⟨hp, g, d, tk, os⟩ := s
    obtain ⟨hl, h⟩ := h
    have f1 := AutoSeq1.idx_int
    wp_walk using wpAny_loadPart' hl
    exact ⟨_, rfl, h⟩
theorem tuple_mul0 (l : Addr) (items : Array Value) (n : Nat) (dd : Option Addr) (sl : Array (Option Value)) (u : Tok) (hi : items.isEmpty = false) :
    Meets (Builtin.«tuple.__mul__» ⟨[.ref l, .int 0 u], []⟩) (fun _ R s => s.heap.get? l = some { cls := .type "tuple", dict := dd, data := .seq items n, slots := sl } ∧
      R (.ok (.ret (Value.ref s.heap.objs.size))) { s with heap := s.heap.push { cls := Value.type "tuple", data := Data.seq #[] }, toks := s.toks }) :=
  .of_wp fun prog w A R s h => by
    obtain ⟨hp, g, d, tk, os⟩ := s
    obtain ⟨hl, h⟩ := h
    have f1 := AutoSeq1.idx_int
    have c1 : (items.isEmpty || (0 : Int) == 1) = false := by rw [hi]; rfl
    wp_walk using wpAny_loadPart' hl
    repeat (first
      | (refine wpAny_ite_false (decide_eq_false (by rw [c1]; exact Bool.false_ne_true)) ?_; wp_walk using wpAny_loadPart' hl))
    exact ⟨_, rfl, h⟩
/-- a tuple, none or one time -/
def rRepT01 (K : PySem.W.Frag) : R2 := fun x y H Q => ∃ l k xs, x = .ref l ∧ y = .int k ∧ SqT K H l xs ∧ xs ≠ [] ∧ (k = 0 ∨ k = 1) ∧ (k = 1 → Q (.ref l) H) ∧ (k = 0 → ∀ p, H p = none → Q (.ref p) (upd H p (.tup [])))
section
variable {X : Cx}
theorem op_repT01 : OpR X (binaryOp .Mult) (rRepT01 X.K) := by
  intro pins s σ H x y v u Q I rx ry h
  obtain ⟨l, k, xs, rfl, rfl, hT, hne, hk, q1, q0⟩ := h
  cases rx
  obtain ⟨t, rfl⟩ := ry
  obtain ⟨its, r, ⟨⟨cls, dd, data, sl⟩, ho, hc, n, hd⟩, hs⟩ := I.tuple hT
  simp only at hc hd
  subst hc hd
  have hle : its.length = xs.length := r.length.symm
  have hn : its ≠ [] := fun e => hne (by
    rw [e] at hle
    exact List.eq_nil_of_length_eq_zero hle.symm)
  have hi : its.toArray.isEmpty = false := by
    cases its with
    | nil => exact absurd rfl hn
    | cons a b => rfl
  rcases hk with rfl | rfl
  · refine wpAny_binaryOp_repeat_ref (T := "tuple") (U := "int") (by decide) ⟨_, ho, rfl⟩ (fun s' => typeIs_int s' 0 t) noFill_tuple_mul F.fills_int_mul F.slot_int_rmul repeat_tuple F.slot_int_index.lookup
      (call_meets F.slot_int_rmul (typeIs_int s 0 t) F.entry_int_rmul (F.args_int_rmul_2 _ _) (int_rmul_tuple 0 t l its.toArray n dd sl)
        ⟨ho, rfl, ⟨_, ho, rfl⟩, call_meets F.slot_tuple_mul ⟨_, ho, rfl⟩ F.entry_tuple_mul (F.args_tuple_mul_2 _ _) (tuple_mul0 l its.toArray n dd sl t hi) ⟨ho, ?_⟩⟩)
    refine ⟨.ref s.heap.objs.size, _, I.laid (t' := s.toks) (o := .tup []) (fun b ob q => Heap.get?_push_of_some _ q) (Nat.le_refl _) ?_, rfl, q0 rfl _ (I.hok.fresh (Nat.le_refl _))⟩
    exact ⟨by decide, _, .nil, IsTup.new _ _⟩
  · refine wpAny_binaryOp_repeat_ref (T := "tuple") (U := "int") (by decide) ⟨_, ho, rfl⟩ (fun s' => typeIs_int s' 1 t) noFill_tuple_mul F.fills_int_mul F.slot_int_rmul repeat_tuple F.slot_int_index.lookup
      (call_meets F.slot_int_rmul (typeIs_int s 1 t) F.entry_int_rmul (F.args_int_rmul_2 _ _) (int_rmul_tuple 1 t l its.toArray n dd sl)
        ⟨ho, rfl, ⟨_, ho, rfl⟩, call_meets F.slot_tuple_mul ⟨_, ho, rfl⟩ F.entry_tuple_mul (F.args_tuple_mul_2 _ _) (tuple_mul1 l its.toArray n dd sl t hi) ⟨ho, ?_⟩⟩)
    exact ⟨.ref l, H, I, rfl, q1 rfl⟩
def rRepTA (K : PySem.W.Frag) : R2 := fun x y H Q => rRepT K x y H Q ∨ rRepT01 K x y H Q
theorem op_repTA : OpR X (binaryOp .Mult) (rRepTA X.K) := by
  intro pins s σ H x y v u Q I rx ry h
  rcases h with h | h
  · exact op_repT pins s σ H x y v u Q I rx ry h
  · exact op_repT01 pins s σ H x y v u Q I rx ry h
theorem op_repTAK (K : PySem.W.Frag) (e : X.K = K := by rfl) : OpR X (binaryOp .Mult) (rRepTA K) := e ▸ op_repTA
theorem op_repTK (K : PySem.W.Frag) (e : X.K = K := by rfl) : OpR X (binaryOp .Mult) (rRepT K) := e ▸ op_repT
theorem op_repT01K (K : PySem.W.Frag) (e : X.K = K := by rfl) : OpR X (binaryOp .Mult) (rRepT01 K) := e ▸ op_repT01
end
end L2

set_option Elab.async false
set_option linter.all false
set_option maxRecDepth 100000
set_option maxHeartbeats 2000000
namespace Dc
open PySem PySem.Spec PyProof.Rows L2
/-! ### chains as data -/
inductive Mkr where
  | count (b s : Int)
  | row (ns : List Int)
inductive Kd where
  | add (n : Int) | times (n : Int) | keep (r w : Int) | drop (k : Int) | take (k : Int) | each (k : Int) | «until» (n : Int) | unlike
/-- a chain, its stages from the maker on -/
inductive Ch where
  | mkr (m : Mkr)
  | st (c : Ch) (k : Kd)
  | both (c o : Ch)
  | thn (c o : Ch)
def numOk (n : Int) : Prop := -(10 ^ 30) < n ∧ n < 10 ^ 30
def Mkr.ok : Mkr → Prop
  | .count b s => numOk b ∧ numOk s
  | .row ns => ns.length ≤ 100 ∧ ∀ n ∈ ns, numOk n
def Mkr.isRow : Mkr → Prop
  | .count _ _ => False
  | .row _ => True
def Kd.ok : Kd → Prop
  | .add n => numOk n
  | .times n => numOk n ∧ -(2 ^ 64) < n ∧ n < 2 ^ 64
  | .keep r w => 2 ≤ w ∧ w ≤ 1000 ∧ 0 ≤ r ∧ r < w
  | .drop k => 0 ≤ k ∧ k ≤ 100
  | .take k => 0 ≤ k ∧ k ≤ 100
  | .each k => 1 ≤ k ∧ k ≤ 10
  | .until n => numOk n
  | .unlike => True
def Ch.ok : Ch → Prop
  | .mkr m => m.ok
  | .st c k => c.ok ∧ k.ok
  | .both c o => c.ok ∧ o.ok
  | .thn c o => c.ok ∧ o.ok
def Ch.rows : Ch → Prop
  | .mkr m => m.isRow
  | .st c _ => c.rows
  | .both c o => c.rows ∧ o.rows
  | .thn c o => c.rows ∧ o.rows
/-- how many makers, how many stages in all, how many stages of its own -/
def Ch.nm : Ch → Nat
  | .mkr _ => 1
  | .st c _ => c.nm
  | .both c o => c.nm + o.nm
  | .thn c o => c.nm + o.nm
def Ch.ns : Ch → Nat
  | .mkr _ => 0
  | .st c _ => c.ns + 1
  | .both c o => c.ns + o.ns + 1
  | .thn c o => c.ns + o.ns + 1
def Ch.len : Ch → Nat
  | .mkr _ => 0
  | .st c _ => c.len + 1
  | .both c _ => c.len + 1
  | .thn c _ => c.len + 1
theorem Ch.nm_pos : ∀ c : Ch, 1 ≤ c.nm
  | .mkr _ => Nat.le_refl _
  | .st c _ => c.nm_pos
  | .both c o => by have := c.nm_pos; show 1 ≤ c.nm + o.nm; omega
  | .thn c o => by have := c.nm_pos; show 1 ≤ c.nm + o.nm; omega
theorem Ch.len_le : ∀ c : Ch, c.len ≤ c.ns
  | .mkr _ => Nat.le_refl _
  | .st c _ => by have := c.len_le; show c.len + 1 ≤ c.ns + 1; omega
  | .both c o => by have := c.len_le; show c.len + 1 ≤ c.ns + o.ns + 1; omega
  | .thn c o => by have := c.len_le; show c.len + 1 ≤ c.ns + o.ns + 1; omega
/-! ### chains in the heap -/
def Kd.vals : Kd → List V
  | .add n => [.str "add", .int n]
  | .times n => [.str "times", .int n]
  | .keep r w => [.str "keep", .int r, .int w]
  | .drop k => [.str "drop", .int k]
  | .take k => [.str "take", .int k]
  | .each k => [.str "each", .int k]
  | .until n => [.str "until", .int n]
  | .unlike => [.str "unlike"]
def Kd.name : Kd → Str
  | .add _ => "add"
  | .times _ => "times"
  | .keep _ _ => "keep"
  | .drop _ => "drop"
  | .take _ => "take"
  | .each _ => "each"
  | .until _ => "until"
  | .unlike => "unlike"
theorem Kd.at0 (k : Kd) : atI k.vals 0 = some (.str k.name) := by cases k <;> rfl
def MkAt (H : Hp) (a : Addr) : Mkr → Prop
  | .count b s => H a = some (.tup [.str "count", .int b, .int s])
  | .row ns => ∃ r, H a = some (.tup [.str "row", .ref r]) ∧ H r = some (.tup (ns.map V.int))
def StsAt (H : Hp) : Ch → Addr → List Addr → Prop
  | .mkr m, a, as => as = [] ∧ MkAt H a m
  | .st c k, a, as => ∃ as' x, as = as' ++ [x] ∧ StsAt H c a as' ∧ H x = some (.tup k.vals)
  | .both c o, a, as => ∃ as' x p, as = as' ++ [x] ∧ StsAt H c a as' ∧ H x = some (.tup [.str "both", .ref p]) ∧ ∃ m ss bs, H p = some (.tup [.ref m, .ref ss]) ∧ H ss = some (.tup (bs.map V.ref)) ∧ StsAt H o m bs
  | .thn c o, a, as => ∃ as' x p, as = as' ++ [x] ∧ StsAt H c a as' ∧ H x = some (.tup [.str "then", .ref p]) ∧ ∃ m ss bs, H p = some (.tup [.ref m, .ref ss]) ∧ H ss = some (.tup (bs.map V.ref)) ∧ StsAt H o m bs
def ChAt (H : Hp) (p : Addr) (c : Ch) : Prop := ∃ m ss bs, H p = some (.tup [.ref m, .ref ss]) ∧ H ss = some (.tup (bs.map V.ref)) ∧ StsAt H c m bs
/-- a stage, simple or with a chain -/
inductive Sg where
  | one (k : Kd)
  | both (o : Ch)
  | thn (o : Ch)
def SgAt (H : Hp) (x : Addr) : Sg → Prop
  | .one k => H x = some (.tup k.vals)
  | .both o => ∃ p, H x = some (.tup [.str "both", .ref p]) ∧ ChAt H p o
  | .thn o => ∃ p, H x = some (.tup [.str "then", .ref p]) ∧ ChAt H p o
def Ch.snoc (c : Ch) : Sg → Ch
  | .one k => .st c k
  | .both o => .both c o
  | .thn o => .thn c o
def Sg.ok : Sg → Prop
  | .one k => k.ok
  | .both o => o.ok
  | .thn o => o.ok
def Sg.rows : Sg → Prop
  | .one _ => True
  | .both o => o.rows
  | .thn o => o.rows
def Sg.nm : Sg → Nat
  | .one _ => 0
  | .both o => o.nm
  | .thn o => o.nm
def Sg.ns : Sg → Nat
  | .one _ => 0
  | .both o => o.ns
  | .thn o => o.ns
theorem StsAt.snoc {H : Hp} {c : Ch} {a x : Addr} {as : List Addr} {g : Sg} (h : StsAt H c a as) (hx : SgAt H x g) : StsAt H (c.snoc g) a (as ++ [x]) := by
  cases g with
  | one k => exact ⟨as, x, rfl, h, hx⟩
  | both o => obtain ⟨p, h1, h2⟩ := hx; exact ⟨as, x, p, rfl, h, h1, h2⟩
  | thn o => obtain ⟨p, h1, h2⟩ := hx; exact ⟨as, x, p, rfl, h, h1, h2⟩
theorem Ch.snoc_nm (c : Ch) (g : Sg) : (c.snoc g).nm = c.nm + g.nm := by cases g <;> rfl
theorem Ch.snoc_ns (c : Ch) (g : Sg) : (c.snoc g).ns = c.ns + g.ns + 1 := by cases g <;> rfl
theorem Ch.snoc_ok {c : Ch} {g : Sg} (h : c.ok) (h' : g.ok) : (c.snoc g).ok := by cases g <;> exact ⟨h, h'⟩
theorem Ch.snoc_rows {c : Ch} {g : Sg} (h : c.rows) (h' : g.rows) : (c.snoc g).rows := by cases g <;> first | exact h | exact ⟨h, h'⟩
theorem MkAt.fr {S : List Addr} {H H' : Hp} {a : Addr} {m : Mkr} (f : Fr S H H') (h : MkAt H a m) : MkAt H' a m := by
  cases m with
  | count b s => exact f.tp h
  | row ns => obtain ⟨r, h1, h2⟩ := h; exact ⟨r, f.tp h1, f.tp h2⟩
theorem StsAt.fr {S : List Addr} {H H' : Hp} (f : Fr S H H') : ∀ {c : Ch} {a : Addr} {as : List Addr}, StsAt H c a as → StsAt H' c a as
  | .mkr m, a, as, ⟨h1, h2⟩ => ⟨h1, h2.fr f⟩
  | .st c k, a, as, ⟨as', x, h1, h2, h3⟩ => ⟨as', x, h1, h2.fr f, f.tp h3⟩
  | .both c o, a, as, ⟨as', x, p, h1, h2, h3, m, ss, bs, h4, h5, h6⟩ => ⟨as', x, p, h1, h2.fr f, f.tp h3, m, ss, bs, f.tp h4, f.tp h5, h6.fr f⟩
  | .thn c o, a, as, ⟨as', x, p, h1, h2, h3, m, ss, bs, h4, h5, h6⟩ => ⟨as', x, p, h1, h2.fr f, f.tp h3, m, ss, bs, f.tp h4, f.tp h5, h6.fr f⟩
theorem ChAt.fr {S : List Addr} {H H' : Hp} {p : Addr} {c : Ch} (f : Fr S H H') (h : ChAt H p c) : ChAt H' p c := by
  obtain ⟨m, ss, bs, h1, h2, h3⟩ := h
  exact ⟨m, ss, bs, f.tp h1, f.tp h2, h3.fr f⟩
theorem SgAt.fr {S : List Addr} {H H' : Hp} {x : Addr} {g : Sg} (f : Fr S H H') (h : SgAt H x g) : SgAt H' x g := by
  cases g with
  | one k => exact f.tp h
  | both o => obtain ⟨p, h1, h2⟩ := h; exact ⟨p, f.tp h1, h2.fr f⟩
  | thn o => obtain ⟨p, h1, h2⟩ := h; exact ⟨p, f.tp h1, h2.fr f⟩
theorem StsAt.length {H : Hp} : ∀ {c : Ch} {a : Addr} {as : List Addr}, StsAt H c a as → as.length = c.len
  | .mkr m, a, as, ⟨h1, h2⟩ => by rw [h1]; rfl
  | .st c k, a, as, ⟨as', x, h1, h2, h3⟩ => by rw [h1, List.length_append, h2.length]; rfl
  | .both c o, a, as, ⟨as', x, p, h1, h2, _⟩ => by rw [h1, List.length_append, h2.length]; rfl
  | .thn c o, a, as, ⟨as', x, p, h1, h2, _⟩ => by rw [h1, List.length_append, h2.length]; rfl
end Dc

set_option Elab.async false
set_option linter.all false
set_option maxRecDepth 100000
set_option maxHeartbeats 2000000
namespace Dc
open PySem PySem.Spec PyProof.Rows L2
/-! ### a chain by its stages -/
def Ch.sgs : Ch → List Sg
  | .mkr _ => []
  | .st c k => c.sgs ++ [.one k]
  | .both c o => c.sgs ++ [.both o]
  | .thn c o => c.sgs ++ [.thn o]
def Ch.root : Ch → Mkr
  | .mkr m => m
  | .st c _ => c.root
  | .both c _ => c.root
  | .thn c _ => c.root
def Ch.of (m : Mkr) (l : List Sg) : Ch := l.foldl Ch.snoc (.mkr m)
theorem Ch.of_snoc (m : Mkr) (l : List Sg) (g : Sg) : Ch.of m (l ++ [g]) = (Ch.of m l).snoc g := by unfold Ch.of; rw [List.foldl_append]; rfl
theorem Ch.of_sgs : ∀ c : Ch, Ch.of c.root c.sgs = c
  | .mkr _ => rfl
  | .st c k => by show Ch.of c.root (c.sgs ++ [.one k]) = _; rw [Ch.of_snoc, Ch.of_sgs c]; rfl
  | .both c o => by show Ch.of c.root (c.sgs ++ [.both o]) = _; rw [Ch.of_snoc, Ch.of_sgs c]; rfl
  | .thn c o => by show Ch.of c.root (c.sgs ++ [.thn o]) = _; rw [Ch.of_snoc, Ch.of_sgs c]; rfl
theorem Ch.of_take (m : Mkr) {l : List Sg} {i : Nat} {g : Sg} (h : l[i]? = some g) : Ch.of m (l.take (i + 1)) = (Ch.of m (l.take i)).snoc g := by
  rw [List.take_succ, h]
  exact Ch.of_snoc m _ g
theorem StsAt.root {H : Hp} : ∀ {c : Ch} {a : Addr} {as : List Addr}, StsAt H c a as → MkAt H a c.root
  | .mkr m, a, as, ⟨_, h⟩ => h
  | .st c k, a, as, ⟨as', x, _, h, _⟩ => StsAt.root (c := c) h
  | .both c o, a, as, ⟨as', x, p, _, h, _⟩ => StsAt.root (c := c) h
  | .thn c o, a, as, ⟨as', x, p, _, h, _⟩ => StsAt.root (c := c) h
theorem get_snoc {α : Type} {l : List α} {x y : α} {i : Nat} (h : (l ++ [x])[i]? = some y) : l[i]? = some y ∨ (i = l.length ∧ y = x) := by
  rcases Nat.lt_trichotomy i l.length with q | q | q
  · rw [List.getElem?_append_left q] at h; exact .inl h
  · subst q
    rw [List.getElem?_append_right (Nat.le_refl _), Nat.sub_self] at h
    exact .inr ⟨rfl, (Option.some.inj h).symm⟩
  · rw [List.getElem?_eq_none (by simp; omega)] at h; cases h
theorem StsAt.get {H : Hp} : ∀ {c : Ch} {a : Addr} {as : List Addr}, StsAt H c a as → as.length = c.sgs.length ∧ ∀ (i : Nat) (x : Addr), as[i]? = some x → ∃ g, c.sgs[i]? = some g ∧ SgAt H x g
  | .mkr m, a, as, ⟨e, _⟩ => by subst e; exact ⟨rfl, fun i x h => by cases h⟩
  | .st c k, a, as, ⟨as', x, e, h, hx⟩ => by
    subst e
    obtain ⟨h1, h2⟩ := StsAt.get (c := c) h
    refine ⟨by show (as' ++ [x]).length = (c.sgs ++ [Sg.one k]).length; simp [h1], fun i y hy => ?_⟩
    show ∃ g, (c.sgs ++ [Sg.one k])[i]? = some g ∧ _
    rcases get_snoc hy with q | ⟨rfl, rfl⟩
    · obtain ⟨g, q1, q2⟩ := h2 i y q
      exact ⟨g, by rw [List.getElem?_append_left (List.getElem?_eq_some_iff.mp q1).1]; exact q1, q2⟩
    · exact ⟨.one k, by rw [h1]; simp, hx⟩
  | .both c o, a, as, ⟨as', x, p, e, h, hx, ho⟩ => by
    subst e
    obtain ⟨h1, h2⟩ := StsAt.get (c := c) h
    refine ⟨by show (as' ++ [x]).length = (c.sgs ++ [Sg.both o]).length; simp [h1], fun i y hy => ?_⟩
    show ∃ g, (c.sgs ++ [Sg.both o])[i]? = some g ∧ _
    rcases get_snoc hy with q | ⟨rfl, rfl⟩
    · obtain ⟨g, q1, q2⟩ := h2 i y q
      exact ⟨g, by rw [List.getElem?_append_left (List.getElem?_eq_some_iff.mp q1).1]; exact q1, q2⟩
    · exact ⟨.both o, by rw [h1]; simp, p, hx, ho⟩
  | .thn c o, a, as, ⟨as', x, p, e, h, hx, ho⟩ => by
    subst e
    obtain ⟨h1, h2⟩ := StsAt.get (c := c) h
    refine ⟨by show (as' ++ [x]).length = (c.sgs ++ [Sg.thn o]).length; simp [h1], fun i y hy => ?_⟩
    show ∃ g, (c.sgs ++ [Sg.thn o])[i]? = some g ∧ _
    rcases get_snoc hy with q | ⟨rfl, rfl⟩
    · obtain ⟨g, q1, q2⟩ := h2 i y q
      exact ⟨g, by rw [List.getElem?_append_left (List.getElem?_eq_some_iff.mp q1).1]; exact q1, q2⟩
    · exact ⟨.thn o, by rw [h1]; simp, p, hx, ho⟩
theorem Ch.ok_sgs : ∀ {c : Ch}, c.ok → c.root.ok ∧ ∀ g ∈ c.sgs, g.ok
  | .mkr m, h => ⟨h, fun g hg => by cases hg⟩
  | .st c k, h => ⟨(Ch.ok_sgs h.1).1, fun g hg => by
    rcases List.mem_append.mp (show g ∈ c.sgs ++ [.one k] from hg) with q | q
    · exact (Ch.ok_sgs h.1).2 g q
    · rw [List.mem_singleton.mp q]; exact h.2⟩
  | .both c k, h => ⟨(Ch.ok_sgs h.1).1, fun g hg => by
    rcases List.mem_append.mp (show g ∈ c.sgs ++ [.both k] from hg) with q | q
    · exact (Ch.ok_sgs h.1).2 g q
    · rw [List.mem_singleton.mp q]; exact h.2⟩
  | .thn c k, h => ⟨(Ch.ok_sgs h.1).1, fun g hg => by
    rcases List.mem_append.mp (show g ∈ c.sgs ++ [.thn k] from hg) with q | q
    · exact (Ch.ok_sgs h.1).2 g q
    · rw [List.mem_singleton.mp q]; exact h.2⟩
theorem Ch.of_append_nm (m : Mkr) (l : List Sg) : ∀ r : List Sg, (Ch.of m l).nm ≤ (Ch.of m (l ++ r)).nm := by
  intro r
  induction r generalizing l with
  | nil => rw [List.append_nil]; exact Nat.le_refl _
  | cons g r ih =>
    have := ih (l ++ [g])
    rw [List.append_assoc] at this
    refine Nat.le_trans ?_ this
    rw [Ch.of_snoc, Ch.snoc_nm]
    exact Nat.le_add_right _ _
theorem Ch.of_take_nm (c : Ch) (i : Nat) : (Ch.of c.root (c.sgs.take i)).nm ≤ c.nm := by
  have := Ch.of_append_nm c.root (c.sgs.take i) (c.sgs.drop i)
  rw [List.take_append_drop, Ch.of_sgs] at this
  exact this
end Dc

set_option Elab.async false
set_option linter.all false
set_option maxRecDepth 100000
set_option maxHeartbeats 2000000
namespace Dc
open PySem PySem.Spec PyProof.Rows L2
/-! ### whole rows, as functions -/
def unl : Option Int → List Int → List Int
  | _, [] => []
  | p, x :: r => if p = some x then unl (some x) r else x :: unl (some x) r
def Kd.row : Kd → List Int → List Int
  | .add n, xs => xs.map (· + n)
  | .times n, xs => xs.map (· * n)
  | .keep r w, xs => xs.filter fun x => decide (x % w = r)
  | .drop k, xs => xs.drop k.toNat
  | .take k, xs => xs.take k.toNat
  | .each k, xs => xs.flatMap fun x => List.replicate k.toNat x
  | .until n, xs => xs.takeWhile fun x => decide (x < n)
  | .unlike, xs => unl none xs
def cap (xs : List Int) : Option (List Int) := if xs.length ≤ 10000 then some xs else none
def Ch.row : Ch → Option (List Int)
  | .mkr (.row ns) => some ns
  | .mkr (.count _ _) => none
  | .st c k => c.row.bind fun xs => cap (k.row xs)
  | .both c o => c.row.bind fun xs => o.row.bind fun ys => cap (List.zipWith (· + ·) xs ys)
  | .thn c o => c.row.bind fun xs => o.row.bind fun ys => cap (xs ++ ys)
/-- what one stage makes of a row -/
def Sg.row (g : Sg) (xs : List Int) : Option (List Int) := match g with
  | .one k => some (k.row xs)
  | .both o => o.row.map fun ys => List.zipWith (· + ·) xs ys
  | .thn o => o.row.map fun ys => xs ++ ys
theorem row_snoc (c : Ch) (g : Sg) : (c.snoc g).row = c.row.bind fun xs => (g.row xs).bind cap := by
  cases g with
  | one k => rfl
  | both o => show (c.row.bind fun xs => o.row.bind fun ys => cap (List.zipWith (· + ·) xs ys)) = _; cases c.row with
    | none => rfl
    | some xs => show (o.row.bind fun ys => cap (List.zipWith (· + ·) xs ys)) = (o.row.map fun ys => List.zipWith (· + ·) xs ys).bind cap; cases o.row <;> rfl
  | thn o => show (c.row.bind fun xs => o.row.bind fun ys => cap (xs ++ ys)) = _; cases c.row with
    | none => rfl
    | some xs => show (o.row.bind fun ys => cap (xs ++ ys)) = (o.row.map fun ys => xs ++ ys).bind cap; cases o.row <;> rfl
theorem unl_snoc : ∀ (l : List Int) (p : Option Int) (x : Int), unl p (l ++ [x]) = unl p l ++ if (l.getLast?.or p) = some x then [] else [x]
  | [], p, x => by
    show (if p = some x then unl (some x) [] else x :: unl (some x) []) = [] ++ if (([] : List Int).getLast?.or p) = some x then [] else [x]
    by_cases h : p = some x
    · rw [if_pos h, if_pos (by rw [h]; rfl)]; rfl
    · rw [if_neg h, if_neg (by intro q; exact h q)]; rfl
  | y :: l, p, x => by
    have ih := unl_snoc l (some y) x
    have e : (y :: l).getLast?.or p = l.getLast?.or (some y) := by
      cases l with
      | nil => rfl
      | cons z l => rw [List.getLast?_cons_cons]; cases h : (z :: l).getLast? with
        | none => simp at h
        | some v => rfl
    rw [e]
    simp only [List.cons_append, unl]
    split
    · exact ih
    · rw [ih]; rfl
/-- how often, and as what, the i-th number is told -/
def Kd.often (k : Kd) (xs : List Int) (i : Nat) : Nat := match k with
  | .keep r w => if xs[i]! % w = r then 1 else 0
  | .drop k => if k.toNat ≤ i then 1 else 0
  | .take k => if i < k.toNat then 1 else 0
  | .each k => k.toNat
  | .until n => if (xs.take (i + 1)).all (fun x => decide (x < n)) = true then 1 else 0
  | .unlike => if i = 0 ∨ xs[i]! ≠ xs[i - 1]! then 1 else 0
  | _ => 1
def Kd.val (k : Kd) (x : Int) : Int := match k with
  | .add n => x + n
  | .times n => x * n
  | _ => x
theorem take_snoc {xs : List Int} {i : Nat} (h : i < xs.length) : xs.take (i + 1) = xs.take i ++ [xs[i]!] := by
  rw [List.take_succ, List.getElem?_eq_getElem h, getElem!_pos xs i h]; rfl
theorem row_step (k : Kd) (xs : List Int) {i : Nat} (h : i < xs.length) : k.row (xs.take (i + 1)) = k.row (xs.take i) ++ List.replicate (k.often xs i) (k.val xs[i]!) := by
  have hl : (xs.take i).length = i := by rw [List.length_take]; omega
  rw [take_snoc h]
  cases k with
  | add n => simp only [Kd.row, List.map_append, Kd.often, Kd.val]; rfl
  | times n => simp only [Kd.row, List.map_append, Kd.often, Kd.val]; rfl
  | keep r w =>
    simp only [Kd.row, List.filter_append, Kd.often, Kd.val]
    congr 1
    by_cases z : xs[i]! % w = r
    · rw [if_pos z, List.filter_cons_of_pos (p := fun x => decide (x % w = r)) (decide_eq_true z)]; rfl
    · rw [if_neg z, List.filter_cons_of_neg (p := fun x => decide (x % w = r)) (by simpa using z)]; rfl
  | drop k =>
    simp only [Kd.row, Kd.often, Kd.val]
    by_cases z : k.toNat ≤ i
    · rw [if_pos z, List.drop_append_of_le_length (by omega)]; rfl
    · rw [if_neg z, List.drop_eq_nil_of_le (by simp [hl]; omega), List.drop_eq_nil_of_le (by omega)]; rfl
  | take k =>
    simp only [Kd.row, Kd.often, Kd.val]
    by_cases z : i < k.toNat
    · rw [if_pos z, List.take_of_length_le (l := xs.take i ++ [xs[i]!]) (by rw [List.length_append, hl, List.length_singleton]; omega), List.take_of_length_le (l := xs.take i) (by omega)]; rfl
    · rw [if_neg z, List.take_append_of_le_length (by omega)]; simp
  | each k => simp only [Kd.row, List.flatMap_append, Kd.often, Kd.val]; simp
  | «until» n =>
    simp only [Kd.row, Kd.often, Kd.val]
    rw [take_snoc h]
    have tw : ∀ l : List Int, (∀ x ∈ l, x < n) → l.takeWhile (fun x => decide (x < n)) = l := by
      intro l
      induction l with
      | nil => intro _; rfl
      | cons y l ih =>
        intro q
        rw [List.takeWhile_cons_of_pos (p := fun x => decide (x < n)) (decide_eq_true (q y (by simp))), ih fun x hx => q x (by simp [hx])]
    by_cases z : ∀ x ∈ xs.take i, x < n
    · rw [List.takeWhile_append_of_pos (fun x hx => decide_eq_true (z x hx)), tw _ z]
      congr 1
      by_cases y : xs[i]! < n
      · have hall : (xs.take i ++ [xs[i]!]).all (fun x => decide (x < n)) = true := List.all_eq_true.mpr fun x hx => decide_eq_true (by
          rcases List.mem_append.mp hx with q | q
          · exact z x q
          · rw [List.mem_singleton.mp q]; exact y)
        rw [if_pos hall, List.takeWhile_cons_of_pos (p := fun x => decide (x < n)) (decide_eq_true y)]; rfl
      · have hall : ¬ (xs.take i ++ [xs[i]!]).all (fun x => decide (x < n)) = true := fun q => y (of_decide_eq_true (List.all_eq_true.mp q _ (by simp)))
        rw [if_neg hall, List.takeWhile_cons_of_neg (p := fun x => decide (x < n)) (by simpa using y)]; rfl
    · have hall : ¬ (xs.take i ++ [xs[i]!]).all (fun x => decide (x < n)) = true := fun q => z fun x hx => of_decide_eq_true (List.all_eq_true.mp q x (List.mem_append_left _ hx))
      rw [if_neg hall]
      show _ = _ ++ []
      rw [List.append_nil]
      have aux : ∀ l : List Int, (¬ ∀ x ∈ l, x < n) → (l ++ [xs[i]!]).takeWhile (fun x => decide (x < n)) = l.takeWhile (fun x => decide (x < n)) := by
        intro l
        induction l with
        | nil => intro q; exact absurd (fun x hx => by cases hx) q
        | cons y l ih =>
          intro q
          by_cases hy : y < n
          · have hr : ¬ ∀ x ∈ l, x < n := fun r => q fun x hx => by
              rcases List.mem_cons.mp hx with rfl | hx
              · exact hy
              · exact r x hx
            rw [List.cons_append, List.takeWhile_cons_of_pos (p := fun x => decide (x < n)) (decide_eq_true hy), List.takeWhile_cons_of_pos (p := fun x => decide (x < n)) (decide_eq_true hy), ih hr]
          · rw [List.cons_append, List.takeWhile_cons_of_neg (p := fun x => decide (x < n)) (by simpa using hy), List.takeWhile_cons_of_neg (p := fun x => decide (x < n)) (by simpa using hy)]
      exact aux _ z
  | unlike =>
    simp only [Kd.row, Kd.often, Kd.val]
    rw [unl_snoc]
    congr 1
    by_cases z : i = 0
    · subst z
      rw [if_pos (Or.inl rfl)]
      simp
    · have e : (xs.take i).getLast?.or none = some xs[i - 1]! := by
        rw [List.getLast?_eq_getElem?, hl, List.getElem?_take_of_lt (by omega), List.getElem?_eq_getElem (by omega), getElem!_pos xs (i - 1) (by omega)]; rfl
      rw [e]
      by_cases y : xs[i]! = xs[i - 1]!
      · rw [if_pos (by rw [y]), if_neg (by rintro (q | q); exact z q; exact q y)]; rfl
      · rw [if_neg (fun q => y (Option.some.inj q).symm), if_pos (Or.inr y)]; rfl
theorem cap_len {xs ys : List Int} (h : cap xs = some ys) : ys.length ≤ 10000 := by
  unfold cap at h
  split at h
  · cases h; assumption
  · cases h
theorem Ch.row_len : ∀ {c : Ch} {xs : List Int}, c.row = some xs → c.ok → xs.length ≤ 10000
  | .mkr (.row ns), xs, h, ok => by cases h; exact Nat.le_trans ok.1 (by decide)
  | .mkr (.count _ _), xs, h, _ => by cases h
  | .st c k, xs, h, _ => by obtain ⟨ys, _, e⟩ := Option.bind_eq_some_iff.mp h; exact cap_len e
  | .both c o, xs, h, _ => by obtain ⟨ys, _, e⟩ := Option.bind_eq_some_iff.mp h; obtain ⟨zs, _, e⟩ := Option.bind_eq_some_iff.mp e; exact cap_len e
  | .thn c o, xs, h, _ => by obtain ⟨ys, _, e⟩ := Option.bind_eq_some_iff.mp h; obtain ⟨zs, _, e⟩ := Option.bind_eq_some_iff.mp e; exact cap_len e
end Dc

set_option Elab.async false
set_option linter.all false
set_option maxRecDepth 100000
set_option maxHeartbeats 2000000
namespace Dc
open PySem PySem.Spec PyProof.Rows L2
local macro_rules | `(tactic| walk_at "ne") => `(tactic| first | assumption | (refine Ne.symm ?_; assumption) | exact ne_of (by assumption) (by assumption) (by intro q; cases q) | exact ne_of_none (by assumption) (by assumption) | exact Ne.symm (ne_of_none (by assumption) (by assumption)))
local macro_rules | `(tactic| walk_at "hp") => `(tactic| first | assumption | exact upd_same | (refine upd_keep ?_ (by assumption); walk_at "hp") | (refine upd_other ?_ ?_; · walk_at "ne"; · walk_at "hp"))
local macro_rules | `(tactic| walk_at "hl") => `(tactic| first | assumption | exact SqL.of (by walk_at "hp"))
local macro_rules | `(tactic| walk_at "ht") => `(tactic| first | assumption | exact SqT.of (by walk_at "hp"))
local macro_rules | `(tactic| walk_at "rd1") => `(tactic| first
  | ((with_reducible apply rd_var); exact rfl)
  | ((with_reducible apply rd_eq); exact rfl) | ((with_reducible apply rd_ne); exact rfl)
  | with_reducible first
  | refine iteT ?_ | refine iteF ?_ | refine rd_nF ?_ | refine rd_nT ?_ | refine rd_yes ?_ | refine rd_c ?_ | refine rd_op ?_ | refine rd_un ?_ | refine rd_test ?_ | refine rd_B ?_ | refine rd_bl ?_ | refine rd_seq ?_ | refine rd_next ?_ | refine rd_ifs ?_ | refine rd_asg ?_ | refine rd_name ?_ | refine rd_ret ?_ | refine rd_drop ?_
  | refine rd_call ?_ | refine rd_cons ?_ | refine rd_nil ?_ | refine rd_cb ?_ | refine rd_I0 ?_ | refine rd_U ?_ | refine rd_gsub ?_ | refine rd_lst ?_ | refine rd_tup ?_ | refine rd_if ?_ | refine rd_not ?_ | refine rd_rng1 ?_ | refine rd_itup ?_ | refine rd_ilst ?_ | refine rd_bm ?_ | refine rd_bm0 ?_ | refine rd_andV ?_ | refine rd_orV ?_ | refine rd_notV ?_)
local macro_rules | `(tactic| walk_at "rd") => `(tactic| repeat walk_at "rd1")
local macro_rules | `(tactic| walk_at "ci") => `(tactic| first | assumption | (show (0 : Int) < _; first | decide | omega) | exact ⟨by decide, by decide⟩ | exact Or.inr ⟨by decide, by decide⟩ | exact Or.inl ⟨by decide, by decide⟩ | exact ⟨by decide, by decide, by decide⟩ | exact Or.inl ⟨by omega, by omega⟩ | exact Or.inr ⟨by omega, by omega⟩)
local macro_rules | `(tactic| walk_at "ix") => `(tactic| first
  | ((with_reducible apply rd_ixL); (walk_at "hl"); exact rfl)
  | ((with_reducible apply rd_ixT); (walk_at "ht"); exact rfl)
  | ((with_reducible apply rd_lenL); (walk_at "hl"))
  | ((with_reducible apply rd_lenT); (walk_at "ht"))
  | ((with_reducible apply rd_tupOf); (walk_at "hl"))
  | ((with_reducible apply rd_listOf); (walk_at "hl"))
  | (with_reducible refine rd_min2 ?_)
  | ((with_reducible apply rd_I); (walk_at "ci"))
  | ((with_reducible apply rd_setL); (walk_at "hp"); exact rfl))
local macro_rules | `(tactic| walk_at "gs") => `(tactic| repeat first | walk_at "rd1" | walk_at "ix")
local macro_rules | `(tactic| walk_at "go") => `(tactic| repeat first | walk_at "rd1" | walk_at "ix" | with_reducible refine rd_and ?_ | with_reducible refine rd_or ?_)
local macro_rules | `(tactic| walk_at "fo") => `(tactic| (with_reducible refine rd_for ?_))
local macro_rules | `(tactic| walk_at "pm") => `(tactic| repeat first
  | with_reducible first | refine rd_pcons ?_ | refine rd_pstr ?_ | refine rd_pcap ?_ | refine rd_pwild ?_ | refine rd_pnil ?_ | refine rd_por ?_ | refine rd_pno ?_
  | ((with_reducible refine rd_eq rfl ?_); refine ⟨_, rfl, ?_⟩; first | refine rd_T rfl ?_ | refine rd_F (by decide) ?_)
  | dsimp only [List.nil_append, List.singleton_append, List.cons_append, setAll])
local macro_rules | `(tactic| walk_at "pc") => `(tactic| (refine rd_case ?_); (first | (refine rd_phit (SqT.of (by assumption)) rfl ?_) | (refine rd_pmiss (SqT.of (by assumption)) (by simp) ?_)); (walk_at "pm"))

/-- the script: locked, or in the written part -/
def ScAt (K : PySem.W.Frag) (ns : List Int) (H : Hp) (sc : Addr) : Prop := (∃ o, H sc = some (.frz o (.lst (ns.map V.int)))) ∨ ∀ H' : Hp, SqL K H' sc (ns.map V.int)
theorem ScAt.seq {K : PySem.W.Frag} {ns : List Int} {H : Hp} {sc : Addr} (h : ScAt K ns H sc) : SqL K H sc (ns.map V.int) := by
  rcases h with ⟨o, h⟩ | h
  · exact .inl (.inr ⟨o, h⟩)
  · exact h H
theorem ScAt.fr {K : PySem.W.Frag} {ns : List Int} {H H' : Hp} {sc : Addr} {S : List Addr} (h : ScAt K ns H sc) (f : Fr S H H') : ScAt K ns H' sc := by
  rcases h with ⟨o, h⟩ | h
  · exact .inl ⟨o, f.fz h⟩
  · exact .inr h
/-- where drawing stands: the list at a, the script at sc -/
structure StAt (K : PySem.W.Frag) (ns : List Int) (H : Hp) (a sc : Addr) : Prop where
  lst : ∃ (b m l : Int), H a = some (.lst [.ref sc, .int b, .int m, .int l]) ∧ 0 ≤ b
  scr : ScAt K ns H sc
theorem StAt.fr {K : PySem.W.Frag} {ns : List Int} {H H' : Hp} {a sc : Addr} {S : List Addr} (s : StAt K ns H a sc) (f : Fr S H H') (n : a ∉ S) : StAt K ns H' a sc := by
  obtain ⟨⟨b, m, l, h1, h2⟩, h3⟩ := s
  exact ⟨⟨b, m, l, f.at h1 n, h2⟩, h3.fr f⟩
theorem StAt.put {K : PySem.W.Frag} {ns : List Int} {H : Hp} {a sc : Addr} (s : StAt K ns H a sc) {b m l : Int} (hb : 0 ≤ b) : StAt K ns (upd H a (.lst [.ref sc, .int b, .int m, .int l])) a sc ∧ Fr [a] H (upd H a (.lst [.ref sc, .int b, .int m, .int l])) := by
  obtain ⟨⟨b0, m0, l0, h1, h2⟩, h3⟩ := s
  have f : Fr [a] H (upd H a (.lst [.ref sc, .int b, .int m, .int l])) := Fr.put List.mem_cons_self (nt h1)
  exact ⟨⟨⟨b, m, l, upd_same, hb⟩, h3.fr f⟩, f⟩
def spDrawn (K : PySem.W.Frag) (ns : List Int) : Sp := fun vs H Q _ => ∃ (a sc : Addr) (many : Int), vs = [.ref a, .int many] ∧ StAt K ns H a sc ∧ 0 < many ∧ many.natAbs < 2 ^ 200 ∧
  ∀ (r : Int) (H' : Hp), 0 ≤ r → r < many → StAt K ns H' a sc → Fr [a] H H' → Q (.int r) H'
def spStart (K : PySem.W.Frag) (ns : List Int) : Sp := fun vs H Q _ => ∃ (sc : Addr), vs = [.ref sc] ∧ ScAt K ns H sc ∧ ∀ (a : Addr) (H' : Hp), StAt K ns H' a sc → H a = none → Fr [] H H' → Q (.ref a) H'
theorem st_new {K : PySem.W.Frag} {ns : List Int} {H : Hp} {a sc p : Addr} {o : HO} (S : StAt K ns H a sc) (h : H p = none) : StAt K ns (upd H p o) a sc ∧ a ≠ p := by
  obtain ⟨⟨b, m, l, h1, h2⟩, h3⟩ := id S
  have n := ne_of_none h1 h
  exact ⟨⟨⟨b, m, l, by rw [upd_ne n]; exact h1, h2⟩, h3.fr (Fr.new (S := []) h)⟩, n⟩
section
variable {P : Program} {w : World} {K : PySem.W.Frag} {mg : Str → Option Value} {base : Heap}
theorem sc__law_drawn : FnScope ["_law_state", "_law_many", "_law_found", "_law_cell"] ["_law_state", "_law_many"] (defScope s__law_drawn) := ⟨rfl, rfl, rfl, by decide +kernel, rfl, by decide +kernel, by decide +kernel⟩
theorem ok_law_drawn {f : Addr} {fd : FuncData} {ns : List Int} (T : Txt K mg) (F : FnP K "_law_drawn" "_law_drawn" s__law_drawn f fd) (hl : ns.length ≤ 63) : FnOk P w K mg base CX0 1 f fd ["_law_state", "_law_many"] (spDrawn K ns) := by
  refine ok0 F sc__law_drawn (fun vs H Q E h => ?_) (fun cdv A outer s H vs Q E hr h => ?_)
  · obtain ⟨a, sc, many, rfl, _⟩ := h
    rfl
  · obtain ⟨a, sc, many, rfl, S, hp, hb, k⟩ := h
    refine ⟨_, (pss_cons (ps_if (pt_cmpR op_gt (pe_ix (ix_listK K) (pv 0) pe_int (fun _ _ => rfl)) pe_int (nomark _))
    (pss_cons (ps_set (i := 2) sc__law_drawn.nd rfl (Or.inl rfl) (pe_op op_mod (pe_ix (ix_listK K) (pv 0) pe_int (fun _ _ => rfl)) (pv 1)))
    (pss_cons (ps_asg (pe_op op_fdivW (pe_ix (ix_listK K) (pv 0) pe_int (fun _ _ => rfl)) (pv 1)) (pg_sub (pv 0) pe_int set_list))
    (pss_one (ps_ret (pv 2))))) pss_nil)
  (pss_cons (ps_asg (pe_op op_add (pe_ix (ix_listK K) (pv 0) pe_int (fun _ _ => rfl)) pe_int) (pg_sub (pv 0) pe_int set_list))
  (pss_cons (ps_if (pt_cmpR op_le (pe_ix (ix_listK K) (pv 0) pe_int (fun _ _ => rfl)) (pe_callB (call_len1K K) (by rfl) T.free_len (by decide +kernel) (pa_cons (pe_ix (ix_listK K) (pv 0) pe_int (fun _ _ => rfl)) pa_nil)) (nomark _))
    (pss_cons (ps_set (i := 3) sc__law_drawn.nd rfl (Or.inl rfl) (pe_ix (ix_listK K) (pe_ix (ix_listK K) (pv 0) pe_int (fun _ _ => rfl)) (pe_op op_sub (pe_ix (ix_listK K) (pv 0) pe_int (fun _ _ => rfl)) pe_int) (fun _ _ => rfl)))
    (pss_cons (ps_asg (pe_ifExp (pt_cmpR op_ge (pv 3) (pe_op op_pow pe_int pe_int) (nomark _)) (pe_op op_fdivW (pv 3) (pv 1)) pe_int) (pg_sub (pv 0) pe_int set_list))
    (pss_one (ps_ret (pe_op op_mod (pv 3) (pv 1)))))) pss_nil)
  (pss_cons (ps_asg (pe_op op_mod (pe_op op_add (pe_op op_mul (pe_ix (ix_listK K) (pv 0) pe_int (fun _ _ => rfl)) pe_int) pe_int) pe_int) (pg_sub (pv 0) pe_int set_list))
  (pss_one (ps_ret (pe_op op_mod (pe_op op_fdiv (pe_ix (ix_listK K) (pv 0) pe_int (fun _ _ => rfl)) pe_int) (pv 1)))))))), ?_⟩
    obtain ⟨⟨b, m, l, h1, h2⟩, h3⟩ := id S
    try dsimp only [cxOf, Cx.nox, Cx.wish]
    refine rd_at (σ' := [some (.ref a), some (.int many), none, none]) rfl ?_
    walk_at "go"
    refine rd_dec (fun c => ?_) (fun c => ?_)
    · walk_at "go"
      refine rd_I (wide_div hp hb (by decide) (by decide)) ?_
      walk_at "go"
      obtain ⟨S', f⟩ := S.put (m := m) (l := l / many) h2
      exact k _ _ (Int.emod_nonneg _ (by omega)) (Int.emod_lt_of_pos _ hp) S' f
    · walk_at "go"
      obtain ⟨S1, f1⟩ := S.put (b := b + 1) (m := m) (l := l) (by omega)
      refine rd_lenL S1.scr.seq ?_
      walk_at "go"
      rw [List.length_map]
      refine rd_dec (fun c1 => ?_) (fun c1 => ?_)
      · walk_at "go"
        obtain ⟨j, ej, hj⟩ : ∃ j : Nat, b + 1 - 1 = (j : Int) ∧ j < ns.length := ⟨b.toNat, by omega, by omega⟩
        refine rd_ixL S1.scr.seq (at_of (v := V.int ns[j]) ej (by rw [List.getElem?_map, List.getElem?_eq_getElem hj]; rfl)) ?_
        walk_at "go"
        have put2 : ∀ z : Int, StAt K ns (upd (upd H a (.lst [.ref sc, .int (b + 1), .int m, .int l])) a (.lst [.ref sc, .int (b + 1), .int m, .int z])) a sc ∧
            Fr [a] H (upd (upd H a (.lst [.ref sc, .int (b + 1), .int m, .int l])) a (.lst [.ref sc, .int (b + 1), .int m, .int z])) := fun z => by
          obtain ⟨S2, f2⟩ := S1.put (b := b + 1) (m := m) (l := z) (by omega)
          exact ⟨S2, f1.tr f2⟩
        refine rd_dec (fun c2 => ?_) (fun c2 => ?_)
        · walk_at "go"
          refine rd_I (wide_div hp hb (by decide) (by decide)) ?_
          walk_at "go"
          obtain ⟨S2, f2⟩ := put2 (ns[j] / many)
          exact k _ _ (Int.emod_nonneg _ (by omega)) (Int.emod_lt_of_pos _ hp) S2 f2
        · walk_at "go"
          obtain ⟨S2, f2⟩ := put2 0
          exact k _ _ (Int.emod_nonneg _ (by omega)) (Int.emod_lt_of_pos _ hp) S2 f2
      · walk_at "go"
        obtain ⟨S2, f2⟩ := S1.put (b := b + 1) (m := (m * 48271 + 11) % 2147483647) (l := l) (by omega)
        exact k _ _ (Int.emod_nonneg _ (by omega)) (Int.emod_lt_of_pos _ hp) S2 (f1.tr f2)
theorem sc__law_start : FnScope ["_law_script", "_law_mixed", "_law_cell"] ["_law_script"] (defScope s__law_start) := ⟨rfl, rfl, rfl, by decide +kernel, rfl, by decide +kernel, by decide +kernel⟩
theorem ok_law_start {f : Addr} {fd : FuncData} {ns : List Int} (T : Txt K mg) (F : FnP K "_law_start" "_law_start" s__law_start f fd) : FnOk P w K mg base CX0 1 f fd ["_law_script"] (spStart K ns) := by
  refine ok0 F sc__law_start (fun vs H Q E h => ?_) (fun cdv A outer s H vs Q E hr h => ?_)
  · obtain ⟨sc, rfl, _⟩ := h
    rfl
  · obtain ⟨sc, rfl, S, k⟩ := h
    refine ⟨_, (pss_cons (ps_set (i := 1) sc__law_start.nd rfl (Or.inl rfl) pe_int)
  (pss_cons (ps_for PassesOwn.never rfl (pi_list (pv 0)) (pg_name (i := 2) sc__law_start.nd rfl (Or.inl rfl))
    (pss_one (ps_set (i := 1) sc__law_start.nd rfl (Or.inl rfl) (pe_op op_mod (pe_op op_add (pe_op op_add (pe_op op_mul (pv 1) pe_int) (pv 2)) pe_int) pe_int))))
  (pss_one (ps_ret (pe_lst (pa_cons (pv 0) (pa_cons pe_int (pa_cons (pv 1) (pa_cons pe_int pa_nil))))))))), ?_⟩
    try dsimp only [cxOf, Cx.nox, Cx.wish]
    refine rd_at (σ' := [some (.ref sc), none, none]) rfl ?_
    walk_at "go"
    refine ⟨_, rfl, sc, rfl, ⟨_, S.seq⟩, for_list (K := K) (a := sc) (xs := ns.map V.int) (fun i σ H1 => ∃ (m : Int) (v : Option V), σ = [some (.ref sc), some (.int m), v] ∧ H1 = H) ⟨1, none, rfl, rfl⟩ (fun i σ H1 _ ⟨_, _, _, e⟩ => by rw [e]; exact S.seq) ?_ ?_⟩
    · rintro i y σ H1 hi ⟨m, v, rfl, rfl⟩
      obtain ⟨z, rfl⟩ : ∃ z, y = V.int z := by
        rw [List.getElem?_map] at hi
        cases e : ns[i]? with
        | none => rw [e] at hi; cases hi
        | some z => rw [e] at hi; exact ⟨z, (Option.some.inj hi).symm⟩
      walk_at "go"
      exact ⟨_, _, rfl, rfl⟩
    · rintro σ H1 ⟨m, v, rfl, rfl⟩
      walk_at "go"
      refine ⟨by show 4 ≤ sizeLine; decide, fun p hp => ?_⟩
      exact k p _ ⟨⟨0, m, 0, upd_same, Int.le_refl _⟩, S.fr (Fr.new (S := []) hp)⟩ hp (Fr.new hp)
end
end Dc

set_option Elab.async false
set_option linter.all false
set_option maxRecDepth 100000
set_option maxHeartbeats 2000000
namespace Dc
open PySem PySem.Spec PyProof.Rows L2
/-! ### what stands, in one bundle: the drawing at a, objects made since, what else is known -/
structure Bn (K : PySem.W.Frag) (ns : List Int) (a sc : Addr) (W : Hp → Prop) (H0 H : Hp) (l : List (Addr × HO)) : Prop where
  st : StAt K ns H a sc
  fr : Fr [a] H0 H
  w : W H
  cl : ∀ H H', StAt K ns H a sc → Fr [a] H H' → W H → W H'
  kp : ∀ q ∈ l, H q.1 = some q.2 ∧ q.1 ≠ a
section
variable {K : PySem.W.Frag} {ns : List Int} {a sc p : Addr} {W T : Hp → Prop} {H0 H H' : Hp} {l : List (Addr × HO)} {o : HO} {Q : VK} {E : XK} {xs ys : List V}
theorem Bn.start (S : StAt K ns H a sc) (w : W H) (cl : ∀ H H', StAt K ns H a sc → Fr [a] H H' → W H → W H') : Bn K ns a sc W H H [] := ⟨S, Fr.refl _ _, w, cl, fun q h => by cases h⟩
theorem Bn.fr1 (B : Bn K ns a sc W H0 H l) (f : Fr [a] H H') (S : StAt K ns H' a sc) : Bn K ns a sc W H0 H' l :=
  ⟨S, B.fr.tr f, B.cl _ _ B.st f B.w, B.cl, fun q hq => ⟨f.at (B.kp q hq).1 (by simpa using (B.kp q hq).2), (B.kp q hq).2⟩⟩
theorem Bn.fr0 (B : Bn K ns a sc W H0 H l) (f : Fr [] H H') : Bn K ns a sc W H0 H' l := B.fr1 (f.mono fun b hb => by cases hb) (B.st.fr f (by simp))
theorem Bn.nea (B : Bn K ns a sc W H0 H l) (h : H p = none) : p ≠ a := fun z => by
  obtain ⟨⟨_, _, _, q, _⟩, _⟩ := B.st
  rw [z, q] at h
  cases h
theorem Bn.nea2 (B : Bn K ns a sc W H0 H l) (h : H p = some (.tup xs)) : p ≠ a := fun z => by
  obtain ⟨⟨_, _, _, q, _⟩, _⟩ := B.st
  rw [z, q] at h
  cases h
theorem Bn.push (B : Bn K ns a sc W H0 H l) (h : H p = some o) (n : p ≠ a) : Bn K ns a sc W H0 H ((p, o) :: l) :=
  ⟨B.st, B.fr, B.w, B.cl, fun q hq => by
    rcases List.mem_cons.mp hq with rfl | hq
    · exact ⟨h, n⟩
    · exact B.kp q hq⟩
theorem Bn.new (B : Bn K ns a sc W H0 H l) (h : H p = none) : Bn K ns a sc W H0 (upd H p o) ((p, o) :: l) := (B.fr0 (Fr.new h)).push upd_same (B.nea h)
theorem Bn.get (B : Bn K ns a sc W H0 H l) (i : Nat) (e : l[i]? = some (p, o) := by rfl) : H p = some o := (B.kp (p, o) (List.mem_of_getElem? e)).1
theorem Bn.sub {l' : List (Addr × HO)} (B : Bn K ns a sc W H0 H l) (h : ∀ q, q ∈ l' → q ∈ l) : Bn K ns a sc W H0 H l' := ⟨B.st, B.fr, B.w, B.cl, fun q hq => B.kp q (h q hq)⟩
theorem Bn.nil (B : Bn K ns a sc W H0 H l) : Bn K ns a sc W H0 H [] := B.sub fun q h => by cases h
/-- one thing more is known -/
theorem Bn.add (B : Bn K ns a sc W H0 H l) (t : T H) (ct : ∀ H H', Fr [a] H H' → T H → T H') : Bn K ns a sc (fun H => W H ∧ T H) H0 H l :=
  ⟨B.st, B.fr, ⟨B.w, t⟩, fun H H' S f h => ⟨B.cl H H' S f h.1, ct H H' f h.2⟩, B.kp⟩
theorem Bn.imp (B : Bn K ns a sc W H0 H l) (h : ∀ H, W H → T H) (ct : ∀ H H', StAt K ns H a sc → Fr [a] H H' → T H → T H') : Bn K ns a sc T H0 H l := ⟨B.st, B.fr, h _ B.w, ct, B.kp⟩
theorem Bn.left {W' : Hp → Prop} (B : Bn K ns a sc (fun H => W H ∧ W' H) H0 H l) (ct : ∀ H H', StAt K ns H a sc → Fr [a] H H' → W H → W H') : Bn K ns a sc W H0 H l := B.imp (fun _ h => h.1) ct
theorem szB (h : Nat.ble xs.length 100 = true) : xs.length ≤ sizeLine := Nat.le_trans (Nat.le_of_ble_eq_true h) (by decide)
/-- a tuple, a list is made -/
def kMkT (xs : List V) (H : Hp) (Q : VK) : Prop := xs.length ≤ sizeLine ∧ ∀ p, H p = none → Q (.ref p) (upd H p (.tup xs))
def kMkL (xs : List V) (H : Hp) (Q : VK) : Prop := xs.length ≤ sizeLine ∧ ∀ p, H p = none → Q (.ref p) (upd H p (.lst xs))
theorem rd_tupB {σ : L2.St} {tl : TA} (h : tl σ H fun xs H1 => kMkT xs H1 Q) : tTup tl σ H Q := h
theorem rd_lstB {σ : L2.St} {tl : TA} (h : tl σ H fun xs H1 => kMkL xs H1 Q) : tLst tl σ H Q := h
theorem rd_sl {σ : L2.St} {r : V → Option Int → Option Int → Hp → VK → Prop} {te : TE} {tl th : TO} (h : te σ H fun x H1 => tl σ H1 fun l H2 => th σ H2 fun u H3 => r x l u H3 Q) : tSl r te tl th σ H Q := h
theorem rd_np {σ : L2.St} {Q : Option Int → Hp → Prop} (h : Q none H) : tNoPart σ H Q := h
theorem rd_part {σ : L2.St} {te : TE} {Q : Option Int → Hp → Prop} (h : te σ H fun x H1 => ∃ i, x = .int i ∧ Q (some i) H1) : tPart te σ H Q := h
theorem rd_in {i : Int} {Q : Int → Prop} (h : Q i) : ∃ k, V.int i = .int k ∧ Q k := ⟨i, rfl, h⟩
theorem Bn.mkT (B : Bn K ns a sc W H0 H l) (q : ∀ p H', Bn K ns a sc W H0 H' ((p, .tup xs) :: l) → Q (.ref p) H') (hs : Nat.ble xs.length 100 = true := by rfl) : kMkT xs H Q :=
  ⟨szB hs, fun p np => q p _ (B.new np)⟩
theorem Bn.mkL (B : Bn K ns a sc W H0 H l) (q : ∀ p H', Bn K ns a sc W H0 H' ((p, .lst xs) :: l) → Q (.ref p) H') (hs : Nat.ble xs.length 100 = true := by rfl) : kMkL xs H Q :=
  ⟨szB hs, fun p np => q p _ (B.new np)⟩
theorem Bn.mk2 (B : Bn K ns a sc W H0 H l) (np : H p = none) (e : upd H p o = H') : Bn K ns a sc W H0 H' ((p, o) :: l) := e ▸ B.new np
/-- a number is drawn -/
theorem Bn.dr (B : Bn K ns a sc W H0 H l) {many : Int} (h1 : 0 < many) (h2 : many.natAbs < 2 ^ 200) (q : ∀ r H', 0 ≤ r → r < many → Bn K ns a sc W H0 H' l → Q (.int r) H') : spDrawn K ns [.ref a, .int many] H Q E :=
  ⟨a, sc, many, rfl, B.st, h1, h2, fun r H' r0 r1 S f => q r H' r0 r1 (B.fr1 f S)⟩
/-- a list's item by a number -/
theorem Bn.ixL (B : Bn K ns a sc W H0 H l) (i : Nat) {r m : Int} (r0 : 0 ≤ r) (r1 : r < m) (q : ∀ v, v ∈ xs → Q v H) (e : l[i]? = some (p, .lst xs) := by rfl) (hm : m = (xs.length : Int) := by rfl) : rIxL K (.ref p) (.int r) H Q := by
  obtain ⟨v, hv, ev⟩ := at_in (xs := xs) r0 (by omega)
  exact ⟨p, xs, r, v, rfl, rfl, SqL.of (B.get i e), ev, q v hv⟩
/-- a tuple and a tuple -/
theorem Bn.cat {x y : Addr} (B : Bn K ns a sc W H0 H l) (h1 : H x = some (.tup xs)) (h2 : H y = some (.tup ys)) (n1 : xs ≠ []) (hl : xs.length + ys.length ≤ 1000) (q : ∀ p H', Fr [] H H' → Bn K ns a sc W H0 H' ((p, .tup (xs ++ ys)) :: l) → Q (.ref p) H') : rCatT K (.ref x) (.ref y) H Q :=
  ⟨x, y, xs, ys, rfl, rfl, SqT.of h1, SqT.of h2, n1, Nat.le_trans hl (by decide), fun e => q _ _ (Fr.refl _ _) (B.push (by rw [e, List.append_nil]; exact h1) (B.nea2 h1)), fun _ p np => q _ _ (Fr.new np) (B.new np)⟩
end
/-! stages, one behind the other -/
def SgsAt (H : Hp) : List Addr → List Sg → Prop
  | [], [] => True
  | x :: as, g :: gs => SgAt H x g ∧ SgsAt H as gs
  | _, _ => False
theorem SgsAt.fr {S : List Addr} {H H' : Hp} (f : Fr S H H') : ∀ {as : List Addr} {gs : List Sg}, SgsAt H as gs → SgsAt H' as gs
  | [], [], _ => trivial
  | x :: as, g :: gs, h => ⟨h.1.fr f, SgsAt.fr f h.2⟩
  | [], _ :: _, h => h.elim
  | _ :: _, [], h => h.elim
theorem SgsAt.len {H : Hp} : ∀ {as : List Addr} {gs : List Sg}, SgsAt H as gs → as.length = gs.length
  | [], [], _ => rfl
  | x :: as, g :: gs, h => congrArg (· + 1) (SgsAt.len h.2)
  | [], _ :: _, h => h.elim
  | _ :: _, [], h => h.elim
theorem SgsAt.app {H : Hp} : ∀ {as bs : List Addr} {gs hs : List Sg}, SgsAt H as gs → SgsAt H bs hs → SgsAt H (as ++ bs) (gs ++ hs)
  | [], _, [], _, _, h => h
  | _ :: _, _, _ :: _, _, h, h' => ⟨h.1, SgsAt.app h.2 h'⟩
  | [], _, _ :: _, _, h, _ => h.elim
  | _ :: _, _, [], _, h, _ => h.elim
theorem sts_fold {H : Hp} {a : Addr} : ∀ {as : List Addr} {gs : List Sg} {c : Ch} {as0 : List Addr}, SgsAt H as gs → StsAt H c a as0 → StsAt H (gs.foldl Ch.snoc c) a (as0 ++ as)
  | [], [], c, as0, _, h => by rw [List.append_nil]; exact h
  | x :: as, g :: gs, c, as0, q, h => by
    have := sts_fold q.2 (h.snoc q.1)
    rw [List.append_assoc] at this
    exact this
  | [], _ :: _, _, _, h, _ => h.elim
  | _ :: _, [], _, _, h, _ => h.elim
theorem fold_ok : ∀ {gs : List Sg} {c : Ch}, c.ok → (∀ g ∈ gs, g.ok) → (gs.foldl Ch.snoc c).ok
  | [], _, h, _ => h
  | g :: gs, c, h, q => fold_ok (gs := gs) (Ch.snoc_ok h (q g (by simp))) fun g' h' => q g' (by simp [h'])
theorem fold_rows : ∀ {gs : List Sg} {c : Ch}, c.rows → (∀ g ∈ gs, g.rows) → (gs.foldl Ch.snoc c).rows
  | [], _, h, _ => h
  | g :: gs, c, h, q => fold_rows (gs := gs) (Ch.snoc_rows h (q g (by simp))) fun g' h' => q g' (by simp [h'])
def nmS (gs : List Sg) : Nat := (gs.map Sg.nm).sum
def nsS (gs : List Sg) : Nat := (gs.map fun g => g.ns + 1).sum
theorem nmS_app (gs hs : List Sg) : nmS (gs ++ hs) = nmS gs + nmS hs := by unfold nmS; rw [List.map_append, List.sum_append]
theorem nsS_app (gs hs : List Sg) : nsS (gs ++ hs) = nsS gs + nsS hs := by unfold nsS; rw [List.map_append, List.sum_append]
theorem fold_nm : ∀ (gs : List Sg) (c : Ch), (gs.foldl Ch.snoc c).nm = c.nm + nmS gs
  | [], _ => rfl
  | g :: gs, c => by rw [List.foldl_cons, fold_nm gs, Ch.snoc_nm]; unfold nmS; rw [List.map_cons, List.sum_cons, Nat.add_assoc]
theorem fold_ns : ∀ (gs : List Sg) (c : Ch), (gs.foldl Ch.snoc c).ns = c.ns + nsS gs
  | [], _ => rfl
  | g :: gs, c => by rw [List.foldl_cons, fold_ns gs, Ch.snoc_ns]; unfold nsS; rw [List.map_cons, List.sum_cons]; omega
/-- stages that stand, all well, of rows -/
structure Sgs' (H : Hp) (as : List Addr) (gs : List Sg) (n m : Nat) : Prop where
  at_ : SgsAt H as gs
  ok : ∀ g ∈ gs, g.ok
  rows : ∀ g ∈ gs, g.rows
  nm : nmS gs ≤ n
  ns : nsS gs ≤ m
  len : gs.length ≤ m
theorem Sgs'.fr {S : List Addr} {H H' : Hp} {as : List Addr} {gs : List Sg} {n m : Nat} (h : Sgs' H as gs n m) (f : Fr S H H') : Sgs' H' as gs n m := ⟨h.at_.fr f, h.ok, h.rows, h.nm, h.ns, h.len⟩
theorem Sgs'.app {H : Hp} {as bs : List Addr} {gs hs : List Sg} {n m n' m' : Nat} (h : Sgs' H as gs n m) (h' : Sgs' H bs hs n' m') : Sgs' H (as ++ bs) (gs ++ hs) (n + n') (m + m') :=
  ⟨h.at_.app h'.at_, fun g hg => (List.mem_append.mp hg).elim (h.ok g) (h'.ok g), fun g hg => (List.mem_append.mp hg).elim (h.rows g) (h'.rows g), by rw [nmS_app]; have := h.nm; have := h'.nm; omega, by rw [nsS_app]; have := h.ns; have := h'.ns; omega, by rw [List.length_append]; have := h.len; have := h'.len; omega⟩
theorem Sgs'.one {H : Hp} {x : Addr} {g : Sg} (h : SgAt H x g) (ok : g.ok) (rw_ : g.rows) : Sgs' H [x] [g] g.nm (g.ns + 1) :=
  ⟨⟨h, trivial⟩, fun g' hg => by rw [List.mem_singleton.mp hg]; exact ok, fun g' hg => by rw [List.mem_singleton.mp hg]; exact rw_, Nat.le_refl _, Nat.le_refl _, by show 1 ≤ _; omega⟩
theorem Sgs'.none {H : Hp} : Sgs' H [] [] 0 0 := ⟨trivial, fun g h => (by cases h), fun g h => (by cases h), Nat.le_refl _, Nat.le_refl _, Nat.le_refl _⟩
theorem Sgs'.mono {H : Hp} {as : List Addr} {gs : List Sg} {n m n' m' : Nat} (h : Sgs' H as gs n m) (h1 : n ≤ n') (h2 : m ≤ m') : Sgs' H as gs n' m' := ⟨h.at_, h.ok, h.rows, Nat.le_trans h.nm h1, Nat.le_trans h.ns h2, Nat.le_trans h.len h2⟩
/-- at v stands a tuple of such stages -/
def WayR (H : Hp) (n m : Nat) (v : V) : Prop := ∃ (wy : Addr) (as : List Addr) (gs : List Sg), v = .ref wy ∧ H wy = some (.tup (as.map V.ref)) ∧ Sgs' H as gs n m
theorem ch_of {H : Hp} {p m ss : Addr} {as : List Addr} {gs : List Sg} {mk : Mkr} {n k : Nat} (h1 : H p = some (.tup [.ref m, .ref ss])) (h2 : H ss = some (.tup (as.map V.ref))) (hm : MkAt H m mk) (h : Sgs' H as gs n k) (okm : mk.ok) (rwm : mk.isRow) :
    ∃ c : Ch, ChAt H p c ∧ c.ok ∧ c.rows ∧ c.nm ≤ n + 1 ∧ c.ns ≤ k := by
  refine ⟨gs.foldl Ch.snoc (.mkr mk), ⟨m, ss, as, h1, h2, ?_⟩, fold_ok okm h.ok, fold_rows rwm h.rows, ?_, ?_⟩
  · have := sts_fold h.at_ (show StsAt H (.mkr mk) m [] from ⟨rfl, hm⟩)
    exact this
  · rw [fold_nm]; have := h.nm; show 1 + _ ≤ _; omega
  · rw [fold_ns]; have := h.ns; show 0 + _ ≤ _; omega
/-- stages stand at s -/
def StgR (H : Hp) (n m : Nat) (s : Addr) : Prop := ∃ (as : List Addr) (gs : List Sg), H s = some (.tup (as.map V.ref)) ∧ Sgs' H as gs n m
def StgN (H : Hp) (n m : Nat) (s : Addr) : Prop := ∃ (as : List Addr) (gs : List Sg), as ≠ [] ∧ H s = some (.tup (as.map V.ref)) ∧ Sgs' H as gs n m
theorem StgR.fr {S : List Addr} {H H' : Hp} {n m : Nat} {s : Addr} (f : Fr S H H') (h : StgR H n m s) : StgR H' n m s := let ⟨as, gs, h1, h2⟩ := h; ⟨as, gs, f.tp h1, h2.fr f⟩
theorem StgN.fr {S : List Addr} {H H' : Hp} {n m : Nat} {s : Addr} (f : Fr S H H') (h : StgN H n m s) : StgN H' n m s := let ⟨as, gs, h0, h1, h2⟩ := h; ⟨as, gs, h0, f.tp h1, h2.fr f⟩
theorem Bn.stages {K : PySem.W.Frag} {ns : List Int} {a sc x y : Addr} {W : Hp → Prop} {H0 H : Hp} {l : List (Addr × HO)} {Q : VK} {n m n' m' : Nat} (B : Bn K ns a sc W H0 H l) (h1 : StgN H n m x) (h2 : StgR H n' m' y) (hm : m + m' ≤ 100)
    (q : ∀ p H', Fr [] H H' → Bn K ns a sc W H0 H' l → StgN H' (n + n') (m + m') p → Q (.ref p) H') : rCatT K (.ref x) (.ref y) H Q := by
  obtain ⟨as, gs, hn, h1, g1⟩ := h1
  obtain ⟨bs, hs, h2, g2⟩ := h2
  have l1 := g1.at_.len
  have l2 := g2.at_.len
  have := g1.len
  have := g2.len
  refine B.cat h1 h2 (by simpa using hn) (by rw [List.length_map, List.length_map]; omega) fun p H' g B' => q p H' g (B'.sub fun q hq => List.mem_cons_of_mem _ hq) ⟨as ++ bs, gs ++ hs, by simp [hn], ?_, (g1.fr g).app (g2.fr g)⟩
  rw [List.map_append]
  exact B'.get 0
/-- a tuple's slice; the whole is itself -/
theorem sl_tupAK {X : Cx} (K : PySem.W.Frag) (e : X.K = K := by rfl) : SlR X (rSlA K) := e ▸ sl_tupA
theorem cutV_whole {xs : List V} {lo hi : Option Int} (h : HT.sIx xs.length 0 lo = 0 ∧ HT.sIx xs.length xs.length hi = xs.length) : cutV xs lo hi = xs := by
  unfold cutV
  rw [h.1, h.2, List.drop_zero, Nat.sub_zero, List.take_length]
theorem Bn.slice {K : PySem.W.Frag} {ns : List Int} {a sc x : Addr} {W : Hp → Prop} {H0 H : Hp} {l : List (Addr × HO)} {Q : VK} {xs : List V} {lo hi : Option Int} (B : Bn K ns a sc W H0 H l) (h : H x = some (.tup xs))
    (q : ∀ p H', Fr [] H H' → Bn K ns a sc W H0 H' ((p, .tup (cutV xs lo hi)) :: l) → Q (.ref p) H') : rSlA K (.ref x) lo hi H Q :=
  ⟨x, xs, rfl, SqT.of h, fun e => q _ _ (Fr.refl _ _) (B.push (by rw [cutV_whole e]; exact h) (B.nea2 h)), fun _ p np => q _ _ (Fr.new np) (B.new np)⟩
theorem ifs_coreN {t : TT} {s1 s2 : TS} {D : Ends} {σ : L2.St} {H : Hp} (Pp : L2.St → Hp → Prop) (core : ∀ σ' H', Pp σ' H' → D.nx σ' H') (h : ∀ nx' : L2.St → Hp → Prop, (∀ σ' H', Pp σ' H' → nx' σ' H') → tIfS t s1 s2 { D with nx := nx' } σ H) : tIfS t s1 s2 D σ H := h D.nx core
end Dc

set_option Elab.async false
set_option linter.all false
set_option maxRecDepth 100000
set_option maxHeartbeats 2000000
namespace Dc
open PySem PySem.Spec PyProof.Rows L2
local macro_rules | `(tactic| walk_at "ne") => `(tactic| first | assumption | (refine Ne.symm ?_; assumption) | exact ne_of (by assumption) (by assumption) (by intro q; cases q) | exact ne_of_none (by assumption) (by assumption) | exact Ne.symm (ne_of_none (by assumption) (by assumption)))
local macro_rules | `(tactic| walk_at "hp") => `(tactic| first | assumption | exact upd_same | (refine upd_keep ?_ (by assumption); walk_at "hp") | (refine upd_other ?_ ?_; · walk_at "ne"; · walk_at "hp"))
local macro_rules | `(tactic| walk_at "hl") => `(tactic| first | assumption | exact SqL.of (by walk_at "hp"))
local macro_rules | `(tactic| walk_at "ht") => `(tactic| first | assumption | exact SqT.of (by walk_at "hp"))
local macro_rules | `(tactic| walk_at "rd1") => `(tactic| first
  | ((with_reducible apply rd_var); exact rfl)
  | ((with_reducible apply rd_eq); exact rfl) | ((with_reducible apply rd_ne); exact rfl)
  | with_reducible first
  | refine iteT ?_ | refine iteF ?_ | refine rd_nF ?_ | refine rd_nT ?_ | refine rd_yes ?_ | refine rd_c ?_ | refine rd_op ?_ | refine rd_un ?_ | refine rd_test ?_ | refine rd_B ?_ | refine rd_bl ?_ | refine rd_seq ?_ | refine rd_next ?_ | refine rd_ifs ?_ | refine rd_asg ?_ | refine rd_name ?_ | refine rd_ret ?_ | refine rd_drop ?_
  | refine rd_call ?_ | refine rd_cons ?_ | refine rd_nil ?_ | refine rd_cb ?_ | refine rd_I0 ?_ | refine rd_U ?_ | refine rd_gsub ?_ | refine rd_lst ?_ | refine rd_tup ?_ | refine rd_if ?_ | refine rd_not ?_ | refine rd_rng1 ?_ | refine rd_itup ?_ | refine rd_ilst ?_ | refine rd_bm ?_ | refine rd_bm0 ?_ | refine rd_andV ?_ | refine rd_orV ?_ | refine rd_notV ?_)
local macro_rules | `(tactic| walk_at "rd") => `(tactic| repeat walk_at "rd1")
local macro_rules | `(tactic| walk_at "ci") => `(tactic| first | assumption | (show (0 : Int) < _; first | decide | omega) | exact ⟨by decide, by decide⟩ | exact Or.inr ⟨by decide, by decide⟩ | exact Or.inl ⟨by decide, by decide⟩ | exact ⟨by decide, by decide, by decide⟩ | exact Or.inl ⟨by omega, by omega⟩ | exact Or.inr ⟨by omega, by omega⟩)
local macro_rules | `(tactic| walk_at "ix") => `(tactic| first
  | ((with_reducible apply rd_ixL); (walk_at "hl"); exact rfl)
  | ((with_reducible apply rd_ixT); (walk_at "ht"); exact rfl)
  | ((with_reducible apply rd_lenL); (walk_at "hl"))
  | ((with_reducible apply rd_lenT); (walk_at "ht"))
  | ((with_reducible apply rd_tupOf); (walk_at "hl"))
  | ((with_reducible apply rd_listOf); (walk_at "hl"))
  | (with_reducible refine rd_min2 ?_)
  | ((with_reducible apply rd_I); (walk_at "ci"))
  | ((with_reducible apply rd_setL); (walk_at "hp"); exact rfl))
local macro_rules | `(tactic| walk_at "gs") => `(tactic| repeat first | walk_at "rd1" | walk_at "ix")
local macro_rules | `(tactic| walk_at "go") => `(tactic| repeat first | walk_at "rd1" | walk_at "ix" | with_reducible refine rd_and ?_ | with_reducible refine rd_or ?_)
local macro_rules | `(tactic| walk_at "fo") => `(tactic| (with_reducible refine rd_for ?_))
local macro_rules | `(tactic| walk_at "pm") => `(tactic| repeat first
  | with_reducible first | refine rd_pcons ?_ | refine rd_pstr ?_ | refine rd_pcap ?_ | refine rd_pwild ?_ | refine rd_pnil ?_ | refine rd_por ?_ | refine rd_pno ?_
  | ((with_reducible refine rd_eq rfl ?_); refine ⟨_, rfl, ?_⟩; first | refine rd_T rfl ?_ | refine rd_F (by decide) ?_)
  | dsimp only [List.nil_append, List.singleton_append, List.cons_append, setAll])
local macro_rules | `(tactic| walk_at "pc") => `(tactic| (refine rd_case ?_); (first | (refine rd_phit (SqT.of (by assumption)) rfl ?_) | (refine rd_pmiss (SqT.of (by assumption)) (by simp) ?_)); (walk_at "pm"))

/-- the flag that the law carries along -/
def Kd.ended (k : Kd) (xs : List Int) (i : Nat) : Bool := match k with
  | .until n => !(xs.take i).all (fun x => decide (x < n))
  | _ => false
def spOften : Sp := fun vs H Q _ => ∃ (x a : Addr) (k : Kd) (xs : List Int) (i : Nat), vs = [.ref x, .ref a, .int (i : Nat), .bl (k.ended xs (i + 1))] ∧ H x = some (.tup k.vals) ∧ H a = some (.lst (xs.map V.int)) ∧ i < xs.length ∧ k.ok ∧ Q (.int ((k.often xs i : Nat) : Int)) H
section
variable {P : Program} {w : World} {K : PySem.W.Frag} {mg : Str → Option Value} {base : Heap} {f : Addr} {fd : FuncData}
theorem sc__law_often : FnScope ["_law_stage", "_law_row_here", "_law_k", "_law_ended", "_law_word"] ["_law_stage", "_law_row_here", "_law_k", "_law_ended"] (defScope s__law_often) := ⟨rfl, rfl, rfl, by decide +kernel, rfl, by decide +kernel, by decide +kernel⟩
theorem ok_law_often (T : Txt K mg) (F : FnP K "_law_often" "_law_often" s__law_often f fd) : FnOk P w K mg base CX0 1 f fd ["_law_stage", "_law_row_here", "_law_k", "_law_ended"] spOften := by
  refine ok0 F sc__law_often (fun vs H Q E h => ?_) (fun cdv A outer s H vs Q E hr h => ?_)
  · obtain ⟨x, a, k, xs, i, rfl, _⟩ := h
    rfl
  · obtain ⟨x, a, k, xs, i, rfl, ex, ea, hi, kok, q⟩ := h
    have gi : xs[i]! = xs[i] := getElem!_pos xs i hi
    have ai : atI (xs.map V.int) (i : Int) = some (.int xs[i]) := at_of (j := i) rfl (by rw [List.getElem?_map, List.getElem?_eq_getElem hi]; rfl)
    refine ⟨_, (pss_cons (ps_set (i := 4) sc__law_often.nd rfl (Or.inl rfl) (pe_ix (ix_tupK K) (pv 0) pe_int (fun _ _ => rfl)))
  (pss_cons (ps_if (pt_cmpR op_eq (pv 4) pe_str (nomark _))
    (pss_one (ps_ret (pe_callTy call_int1 (by rfl) T.free_int (by decide +kernel) (pa_cons (pe_cmpR op_eq (pe_op op_mod (pe_ix (ix_listK K) (pv 1) (pv 2) (fun _ _ => rfl)) (pe_ix (ix_tupK K) (pv 0) pe_int (fun _ _ => rfl))) (pe_ix (ix_tupK K) (pv 0) pe_int (fun _ _ => rfl)) (nomark _)) pa_nil)))) pss_nil)
  (pss_cons (ps_if (pt_cmpR op_eq (pv 4) pe_str (nomark _))
    (pss_one (ps_ret (pe_ix (ix_tupK K) (pv 0) pe_int (fun _ _ => rfl)))) pss_nil)
  (pss_cons (ps_if (PW.pt (pw_or (pt_cmpR op_eq (pv 4) pe_str (nomark _)) (pw_or1 (pt_cmpR op_eq (pv 4) pe_str (nomark _)))))
    (pss_one (ps_ret (pe_callTy call_int1 (by rfl) T.free_int (by decide +kernel) (pa_cons (pe_cmpR op_eq (pe_cmpR op_ge (pv 2) (pe_ix (ix_tupK K) (pv 0) pe_int (fun _ _ => rfl)) (nomark _)) (pe_cmpR op_eq (pv 4) pe_str (nomark _)) (nomark _)) pa_nil)))) pss_nil)
  (pss_cons (ps_if (pt_cmpR op_eq (pv 4) pe_str (nomark _))
    (pss_one (ps_ret (pe_callTy call_int1 (by rfl) T.free_int (by decide +kernel) (pa_cons (pe_or (pe_cmpR op_eq (pv 2) pe_int (nomark _)) (pe_one (pe_cmpR op_ne (pe_ix (ix_listK K) (pv 1) (pv 2) (fun _ _ => rfl)) (pe_ix (ix_listK K) (pv 1) (pe_op op_sub (pv 2) pe_int) (fun _ _ => rfl)) (nomark _)))) pa_nil)))) pss_nil)
  (pss_one (ps_ret (pe_callTy call_int1 (by rfl) T.free_int (by decide +kernel) (pa_cons (pe_not (pv 3)) pa_nil))))))))), ?_⟩
    try dsimp only [cxOf, Cx.nox, Cx.wish]
    refine rd_at (σ' := [some (.ref x), some (.ref a), some (.int (i : Nat)), some (.bl (k.ended xs (i + 1))), none]) rfl ?_
    cases k with
    | add n =>
      replace ex : H x = some (.tup [.str "add", .int n]) := ex
      walk_at "go"
      refine rd_F (by decide) ?_
      walk_at "go"
      refine rd_F (by decide) ?_
      walk_at "go"
      refine rd_F (by decide) ?_
      walk_at "go"
      refine rd_F (by decide) ?_
      walk_at "go"
      refine rd_F (by decide) ?_
      walk_at "go"
      exact .inr ⟨_, rfl, q⟩
    | times n =>
      replace ex : H x = some (.tup [.str "times", .int n]) := ex
      walk_at "go"
      refine rd_F (by decide) ?_
      walk_at "go"
      refine rd_F (by decide) ?_
      walk_at "go"
      refine rd_F (by decide) ?_
      walk_at "go"
      refine rd_F (by decide) ?_
      walk_at "go"
      refine rd_F (by decide) ?_
      walk_at "go"
      exact .inr ⟨_, rfl, q⟩
    | keep r wh =>
      replace ex : H x = some (.tup [.str "keep", .int r, .int wh]) := ex
      walk_at "go"
      refine rd_T rfl ?_
      walk_at "go"
      refine rd_ixL (SqL.of ea) ai ?_
      walk_at "go"
      refine rd_I (show (0 : Int) < wh by have := kok.1; omega) ?_
      walk_at "go"
      refine .inr ⟨_, rfl, ?_⟩
      replace q : Q (.int ((if xs[i]! % wh = r then 1 else 0 : Nat) : Int)) H := q
      rw [gi] at q
      by_cases c : xs[i] % wh = r
      · rw [if_pos c] at q
        rw [if_pos (decide_eq_true (congrArg V.int c))]
        exact q
      · rw [if_neg c] at q
        rw [if_neg (by rw [decide_eq_false (fun z => c (V.int.inj z))]; decide)]
        exact q
    | drop n =>
      replace ex : H x = some (.tup [.str "drop", .int n]) := ex
      walk_at "go"
      refine rd_F (by decide) ?_
      walk_at "go"
      refine rd_F (by decide) ?_
      walk_at "go"
      refine rd_T rfl ?_
      walk_at "go"
      refine .inr ⟨_, rfl, ?_⟩
      replace q : Q (.int ((if n.toNat ≤ i then 1 else 0 : Nat) : Int)) H := q
      have n0 := kok.1
      by_cases c : n.toNat ≤ i
      · rw [if_pos c] at q
        rw [if_pos (by rw [decide_eq_true (show n ≤ (i : Int) by omega)]; decide)]
        exact q
      · rw [if_neg c] at q
        rw [if_neg (by rw [decide_eq_false (show ¬ n ≤ (i : Int) by omega)]; decide)]
        exact q
    | take n =>
      replace ex : H x = some (.tup [.str "take", .int n]) := ex
      walk_at "go"
      refine rd_F (by decide) ?_
      walk_at "go"
      refine rd_F (by decide) ?_
      walk_at "go"
      refine rd_F (by decide) ?_
      walk_at "go"
      refine rd_T rfl ?_
      walk_at "go"
      refine .inr ⟨_, rfl, ?_⟩
      replace q : Q (.int ((if i < n.toNat then 1 else 0 : Nat) : Int)) H := q
      have n0 := kok.1
      by_cases c : i < n.toNat
      · rw [if_pos c] at q
        rw [if_pos (by rw [decide_eq_false (show ¬ n ≤ (i : Int) by omega)]; decide)]
        exact q
      · rw [if_neg c] at q
        rw [if_neg (by rw [decide_eq_true (show n ≤ (i : Int) by omega)]; decide)]
        exact q
    | each n =>
      replace ex : H x = some (.tup [.str "each", .int n]) := ex
      walk_at "go"
      refine rd_F (by decide) ?_
      walk_at "go"
      refine rd_T rfl ?_
      walk_at "go"
      replace q : Q (.int ((n.toNat : Nat) : Int)) H := q
      rw [Int.toNat_of_nonneg (by have := kok.1; omega)] at q
      exact q
    | «until» n =>
      replace ex : H x = some (.tup [.str "until", .int n]) := ex
      walk_at "go"
      refine rd_F (by decide) ?_
      walk_at "go"
      refine rd_F (by decide) ?_
      walk_at "go"
      refine rd_F (by decide) ?_
      walk_at "go"
      refine rd_F (by decide) ?_
      walk_at "go"
      refine rd_F (by decide) ?_
      walk_at "go"
      refine .inr ⟨_, rfl, ?_⟩
      replace q : Q (.int ((if (xs.take (i + 1)).all (fun x => decide (x < n)) = true then 1 else 0 : Nat) : Int)) H := q
      show Q (.int (if (!(!(xs.take (i + 1)).all (fun x => decide (x < n)))) = true then 1 else 0)) H
      rw [Bool.not_not]
      cases hall : (xs.take (i + 1)).all (fun x => decide (x < n)) with
      | true => rw [hall] at q; exact q
      | false => rw [hall] at q; exact q
    | unlike =>
      replace ex : H x = some (.tup [.str "unlike"]) := ex
      walk_at "go"
      refine rd_F (by decide) ?_
      walk_at "go"
      refine rd_F (by decide) ?_
      walk_at "go"
      refine rd_F (by decide) ?_
      walk_at "go"
      refine rd_F (by decide) ?_
      walk_at "go"
      refine rd_T rfl ?_
      walk_at "go"
      replace q : Q (.int ((if i = 0 ∨ xs[i]! ≠ xs[i - 1]! then 1 else 0 : Nat) : Int)) H := q
      refine rd_dec (fun c => ?_) (fun c => ?_)
      · have hi0 : i = 0 := by have := V.int.inj c; omega
        rw [if_pos (Or.inl hi0)] at q
        exact .inr ⟨_, rfl, q⟩
      · have hi0 : i ≠ 0 := fun z => c (by rw [z]; rfl)
        have hp : i - 1 < xs.length := by omega
        have gp : xs[i - 1]! = xs[i - 1] := getElem!_pos xs (i - 1) hp
        walk_at "go"
        refine rd_ixL (SqL.of ea) ai ?_
        walk_at "go"
        refine rd_ixL (SqL.of ea) (at_of (j := i - 1) (v := .int xs[i - 1]) (by omega) (by rw [List.getElem?_map, List.getElem?_eq_getElem hp]; rfl)) ?_
        walk_at "go"
        refine .inr ⟨_, rfl, ?_⟩
        rw [gi, gp] at q
        by_cases z : xs[i] = xs[i - 1]
        · rw [if_neg (by rintro (y | y); exact hi0 y; exact y z)] at q
          rw [if_neg (by rw [decide_eq_true (congrArg V.int z)]; decide)]
          exact q
        · rw [if_pos (Or.inr z)] at q
          rw [if_pos (by rw [decide_eq_false (fun y => z (V.int.inj y))]; decide)]
          exact q
end
end Dc

set_option Elab.async false
set_option linter.all false
set_option maxRecDepth 100000
set_option maxHeartbeats 2000000
namespace Dc
open PySem PySem.Spec PyProof.Rows L2
local macro_rules | `(tactic| walk_at "ne") => `(tactic| first | assumption | (refine Ne.symm ?_; assumption) | exact ne_of (by assumption) (by assumption) (by intro q; cases q) | exact ne_of_none (by assumption) (by assumption) | exact Ne.symm (ne_of_none (by assumption) (by assumption)))
local macro_rules | `(tactic| walk_at "hp") => `(tactic| first | assumption | exact upd_same | (refine upd_keep ?_ (by assumption); walk_at "hp") | (refine upd_other ?_ ?_; · walk_at "ne"; · walk_at "hp"))
local macro_rules | `(tactic| walk_at "hl") => `(tactic| first | assumption | exact SqL.of (by walk_at "hp"))
local macro_rules | `(tactic| walk_at "ht") => `(tactic| first | assumption | exact SqT.of (by walk_at "hp"))
local macro_rules | `(tactic| walk_at "rd1") => `(tactic| first
  | ((with_reducible apply rd_var); exact rfl)
  | ((with_reducible apply rd_eq); exact rfl) | ((with_reducible apply rd_ne); exact rfl)
  | with_reducible first
  | refine iteT ?_ | refine iteF ?_ | refine rd_nF ?_ | refine rd_nT ?_ | refine rd_yes ?_ | refine rd_c ?_ | refine rd_op ?_ | refine rd_un ?_ | refine rd_test ?_ | refine rd_B ?_ | refine rd_bl ?_ | refine rd_seq ?_ | refine rd_next ?_ | refine rd_ifs ?_ | refine rd_asg ?_ | refine rd_name ?_ | refine rd_ret ?_ | refine rd_drop ?_
  | refine rd_call ?_ | refine rd_cons ?_ | refine rd_nil ?_ | refine rd_cb ?_ | refine rd_I0 ?_ | refine rd_U ?_ | refine rd_gsub ?_ | refine rd_lst ?_ | refine rd_tup ?_ | refine rd_if ?_ | refine rd_not ?_ | refine rd_rng1 ?_ | refine rd_itup ?_ | refine rd_ilst ?_ | refine rd_bm ?_ | refine rd_bm0 ?_ | refine rd_andV ?_ | refine rd_orV ?_ | refine rd_notV ?_)
local macro_rules | `(tactic| walk_at "rd") => `(tactic| repeat walk_at "rd1")
local macro_rules | `(tactic| walk_at "ci") => `(tactic| first | assumption | (show (0 : Int) < _; first | decide | omega) | exact ⟨by decide, by decide⟩ | exact Or.inr ⟨by decide, by decide⟩ | exact Or.inl ⟨by decide, by decide⟩ | exact ⟨by decide, by decide, by decide⟩ | exact Or.inl ⟨by omega, by omega⟩ | exact Or.inr ⟨by omega, by omega⟩)
local macro_rules | `(tactic| walk_at "ix") => `(tactic| first
  | ((with_reducible apply rd_ixL); (walk_at "hl"); exact rfl)
  | ((with_reducible apply rd_ixT); (walk_at "ht"); exact rfl)
  | ((with_reducible apply rd_lenL); (walk_at "hl"))
  | ((with_reducible apply rd_lenT); (walk_at "ht"))
  | ((with_reducible apply rd_tupOf); (walk_at "hl"))
  | ((with_reducible apply rd_listOf); (walk_at "hl"))
  | (with_reducible refine rd_min2 ?_)
  | ((with_reducible apply rd_I); (walk_at "ci"))
  | ((with_reducible apply rd_setL); (walk_at "hp"); exact rfl))
local macro_rules | `(tactic| walk_at "gs") => `(tactic| repeat first | walk_at "rd1" | walk_at "ix")
local macro_rules | `(tactic| walk_at "go") => `(tactic| repeat first | walk_at "rd1" | walk_at "ix" | with_reducible refine rd_and ?_ | with_reducible refine rd_or ?_)
local macro_rules | `(tactic| walk_at "fo") => `(tactic| (with_reducible refine rd_for ?_))
local macro_rules | `(tactic| walk_at "pm") => `(tactic| repeat first
  | with_reducible first | refine rd_pcons ?_ | refine rd_pstr ?_ | refine rd_pcap ?_ | refine rd_pwild ?_ | refine rd_pnil ?_ | refine rd_por ?_ | refine rd_pno ?_
  | ((with_reducible refine rd_eq rfl ?_); refine ⟨_, rfl, ?_⟩; first | refine rd_T rfl ?_ | refine rd_F (by decide) ?_)
  | dsimp only [List.nil_append, List.singleton_append, List.cons_append, setAll])
local macro_rules | `(tactic| walk_at "pc") => `(tactic| (refine rd_case ?_); (first | (refine rd_phit (SqT.of (by assumption)) rfl ?_) | (refine rd_pmiss (SqT.of (by assumption)) (by simp) ?_)); (walk_at "pm"))

def spLRow (n : Nat) : Sp := fun vs H Q _ => ∃ (p : Addr) (c : Ch), vs = [.ref p] ∧ ChAt H p c ∧ c.ok ∧ c.rows ∧ c.nm ≤ n ∧
  (∀ xs, c.row = some xs → ∀ H' q, H' q = some (.lst (xs.map V.int)) → H q = none → Fr [] H H' → Q (.ref q) H') ∧ (c.row = none → ∀ H', Fr [] H H' → Q .non H')
def spLBehind (n : Nat) : Sp := fun vs H Q _ => ∃ (a x : Addr) (xs : List Int) (g : Sg), vs = [.ref x, .ref a] ∧ H a = some (.lst (xs.map V.int)) ∧ xs.length ≤ 10000 ∧ SgAt H x g ∧ g.ok ∧ g.rows ∧ g.nm ≤ n ∧
  (∀ ys, g.row xs = some ys → ∀ H' q, H' q = some (.lst (ys.map V.int)) → H q = none → Fr [] H H' → Q (.ref q) H') ∧ (g.row xs = none → ∀ H', Fr [] H H' → Q .non H')
theorem row_nil (k : Kd) (xs : List Int) : k.row (xs.take 0) = [] := by cases k <;> simp [Kd.row, unl]
theorem ended_step {n : Int} {xs : List Int} {i : Nat} (hi : i < xs.length) : Kd.ended (.until n) xs (i + 1) = (Kd.ended (.until n) xs i || decide (n ≤ xs[i])) := by
  show (!(xs.take (i + 1)).all (fun x => decide (x < n))) = (!(xs.take i).all (fun x => decide (x < n)) || decide (n ≤ xs[i]))
  rw [take_snoc hi, List.all_append, getElem!_pos xs i hi]
  simp only [List.all_cons, List.all_nil, Bool.and_true, Bool.not_and]
  congr 1
  by_cases h : xs[i] < n
  · rw [decide_eq_true h, decide_eq_false (by omega)]; rfl
  · rw [decide_eq_false h, decide_eq_true (by omega)]; rfl
theorem flat_rep2 (n : Nat) (x : Int) : (List.replicate n [V.int x]).flatten = (List.replicate n x).map V.int := by
  induction n with
  | zero => rfl
  | succ n ih => rw [List.replicate_succ, List.flatten_cons, ih, List.replicate_succ]; rfl
theorem rd_inV {K : PySem.W.Frag} {H : Hp} {p : Addr} {xs : List V} {v : V} {b : Bool} {Q : VK} (h : H p = some (.tup xs)) (fv : flatV v = true) (fx : xs.all flatV = true) (e : inV v xs = b) (q : Q (.bl b) H) : rIn K false v (.ref p) H Q :=
  ⟨p, xs, rfl, .inr (SqT.of h), fv, fx, by rw [if_neg (by decide), e]; exact q⟩
theorem room2 {k : Nat} {A : Around} (r : Room k A) : A.units + 1 < cLine := by have := r.un; omega
section
variable {P : Program} {w : World} {K : PySem.W.Frag} {mg : Str → Option Value} {base : Heap} {f : Addr} {fd : FuncData}
theorem sc__law_behind : FnScope ["_law_stage", "_law_row_here", "_law_word", "_law_other", "_law_k", "_law_found", "_law_ended", "_law_number"] ["_law_stage", "_law_row_here"] (defScope s__law_behind) := ⟨rfl, rfl, rfl, by decide +kernel, rfl, by decide +kernel, by decide +kernel⟩
theorem ok_law_behind {n j : Nat} (hj : 1 ≤ j) (T : Txt K mg) (F : FnP K "_law_behind" "_law_behind" s__law_behind f fd) (G__law_row : Cal P w K mg base CX0 j "_law_row" ["_law_chain"] (spLRow n))
    (G__law_often : Cal P w K mg base CX0 1 "_law_often" ["_law_stage", "_law_row_here", "_law_k", "_law_ended"] spOften) : FnOk P w K mg base CX0 (j + 1) f fd ["_law_stage", "_law_row_here"] (spLBehind n) := by
  refine ok0 F sc__law_behind (fun vs H Q E h => ?_) (fun cdv A outer s H vs Q E hr h => ?_)
  · obtain ⟨a, x, xs, g, rfl, _⟩ := h
    rfl
  · obtain ⟨a, x, xs, g, rfl, e, hx, hg, gok, grow, gnm, k1, k2⟩ := h
    refine ⟨_, (pss_cons (ps_set (i := 2) sc__law_behind.nd rfl (Or.inl rfl) (pe_ix (ix_tupK K) (pv 0) pe_int (fun _ _ => rfl)))
  (pss_cons (ps_if (pt_cmpR (op_in_seqK K) (pv 2) (pe_tup (pa_cons pe_str (pa_cons pe_str pa_nil))) (by rfl))
    (pss_cons (ps_set (i := 3) sc__law_behind.nd rfl (Or.inr rfl) (pe_cal G__law_row (hr.mono (by omega)) pass0 (pa_cons (pe_ix (ix_tupK K) (pv 0) pe_int (fun _ _ => rfl)) pa_nil)))
    (pss_cons (ps_if (pt_cmpR op_isN (pv 3) pe_non (nomark _))
      (pss_one (ps_ret pe_non)) pss_nil)
    (pss_cons (ps_if (pt_cmpR op_eq (pv 2) pe_str (nomark _))
      (pss_one (ps_ret (pe_op op_cat (pv 1) (pv 3)))) pss_nil)
    (pss_one (ps_ret (pe_lc (own := [("_law_k", 4)]) (g := gName 4) rfl sc__law_behind.nd (pi_range1 (by rfl) T.free_range (pa_cons (pe_callB (call_min2n rfl) (by rfl) T.free_min (by decide +kernel) (pa_cons (pe_callB (call_len1K K) (by rfl) T.free_len (by decide +kernel) (pa_cons (pv 1) pa_nil)) (pa_cons (pe_callB (call_len1K K) (by rfl) T.free_len (by decide +kernel) (pa_cons (pv 3) pa_nil)) pa_nil))) pa_nil)) (blkOk_by (N := ["_law_stage", "_law_row_here", "_law_word", "_law_other", "_law_k", "_law_found", "_law_ended", "_law_number"]) (sc := defScope s__law_behind) (by decide +kernel)) (fun _ _ _ _ _ => pg_name (i := 4) sc__law_behind.nd rfl (Or.inl rfl)) (fun _ _ _ _ _ => pts_nil) (fun _ _ _ _ _ => (pe_op op_add (pe_ix (ix_listK K) (pv 1) (pv 4) (fun _ _ => rfl)) (pe_ix (ix_listK K) (pv 3) (pv 4) (fun _ _ => rfl)))))))))) pss_nil)
  (pss_cons (ps_set (i := 5) sc__law_behind.nd rfl (Or.inl rfl) (pe_lst pa_nil))
  (pss_cons (ps_set (i := 6) sc__law_behind.nd rfl (Or.inl rfl) pe_bl)
  (pss_cons (ps_for PassesOwn.never rfl (pi_range1 (by rfl) T.free_range (pa_cons (pe_callB (call_len1K K) (by rfl) T.free_len (by decide +kernel) (pa_cons (pv 1) pa_nil)) pa_nil)) (pg_name (i := 4) sc__law_behind.nd rfl (Or.inl rfl))
    (pss_cons (ps_set (i := 7) sc__law_behind.nd rfl (Or.inl rfl) (pe_ix (ix_listK K) (pv 1) (pv 4) (fun _ _ => rfl)))
    (pss_cons (ps_set (i := 6) sc__law_behind.nd rfl (Or.inl rfl) (pe_or (pv 6) (pe_one (pe_and (pe_cmpR op_eq (pv 2) pe_str (nomark _)) (pe_one (pe_cmpR op_ge (pv 7) (pe_ix (ix_tupK K) (pv 0) pe_int (fun _ _ => rfl)) (nomark _)))))))
    (pss_cons (ps_if (pt_cmpR op_eq (pv 2) pe_str (nomark _))
      (pss_one (ps_set (i := 7) sc__law_behind.nd rfl (Or.inl rfl) (pe_op op_add (pv 7) (pe_ix (ix_tupK K) (pv 0) pe_int (fun _ _ => rfl))))) pss_nil)
    (pss_cons (ps_if (pt_cmpR op_eq (pv 2) pe_str (nomark _))
      (pss_one (ps_set (i := 7) sc__law_behind.nd rfl (Or.inl rfl) (pe_op op_mul (pv 7) (pe_ix (ix_tupK K) (pv 0) pe_int (fun _ _ => rfl))))) pss_nil)
    (pss_one (ps_expr (pe_bm PySem.F.plainAttrs_list PySem.F.slot_list_extend PySem.F.type_list_extend mt_extend (pv 5) (pa_cons (pe_op op_rep (pe_lst (pa_cons (pv 7) pa_nil)) (pe_cal G__law_often (hr.mono (by omega)) pass0 (pa_cons (pv 0) (pa_cons (pv 1) (pa_cons (pv 4) (pa_cons (pv 6) pa_nil)))))) pa_nil)))))))))
  (pss_one (ps_ret (pv 5)))))))), ?_⟩
    try dsimp only [cxOf, Cx.nox, Cx.wish]
    refine rd_at (σ' := [some (.ref x), some (.ref a), none, none, none, none, none, none]) rfl ?_
    have body : ∀ (kd : Kd), g = .one kd → ∀ (l : Addr) (H1 : Hp), H1 l = some (.lst ((kd.row xs).map V.int)) → H l = none → Fr [] H H1 → Q (.ref l) H1 := fun kd eg l H1 el hl f => k1 (kd.row xs) (by rw [eg]; rfl) H1 l el hl f
    cases g with
    | one kd =>
      cases kd with
      | add n =>
        have ex : H x = some (.tup [.str "add", .int n]) := hg
        walk_at "go"
        refine ⟨by show 2 ≤ sizeLine; decide, fun p0 hp0 => ?_⟩
        have f0 : Fr [] H (upd H p0 (.tup [.str "both", .str "then"])) := Fr.new hp0
        refine rd_inV (b := false) upd_same rfl rfl (by decide +kernel) ?_
        walk_at "go"
        refine ⟨Nat.zero_le _, fun l hl => ?_⟩
        have hl0 : H l = none := f0.free (by simp) hl
        have el : upd (upd H p0 (.tup [.str "both", .str "then"])) l (.lst []) l = some (.lst []) := upd_same
        replace f0 := f0.newN (o := .lst []) hl
        generalize upd (upd H p0 (.tup [.str "both", .str "then"])) l (.lst []) = H1 at *
        clear hl hp0
        walk_at "go"
        walk_at "fo"
        have ea1 := f0.at e (by simp)
        walk_at "go"
        rw [List.length_map]
        refine ⟨_, rfl, by omega, by omega, ?_⟩
        rw [Int.toNat_natCast]
        refine for_range (lo := 0) (n := xs.length) (fun i σ H2 => ∃ (v3 v4 v7 : Option V), σ = [some (.ref x), some (.ref a), some (.str "add"), v3, v4, some (.ref l), some (.bl (Kd.ended (.add n) xs i)), v7] ∧ H2 l = some (.lst ((Kd.row (.add n) (xs.take i)).map V.int)) ∧ (Kd.row (.add n) (xs.take i)).length ≤ i * 10 ∧ Fr [] H H2) ⟨_, _, _, rfl, by rw [row_nil]; exact el, by rw [row_nil]; exact Nat.zero_le _, f0⟩ ?_ ?_
        · clear el f0 ea1 H1
          rintro i σ H2 hi ⟨v3, v4, v7, rfl, el, hlen, f2⟩
          have ea2 := f2.at e (by simp)
          have ex2 := f2.tp ex
          have gi : xs[i]! = xs[i] := getElem!_pos xs i hi
          have ai : atI (xs.map V.int) (0 + (i : Int)) = some (.int xs[i]) := at_of (j := i) (by omega) (by rw [List.getElem?_map, List.getElem?_eq_getElem hi]; rfl)
          walk_at "go"
          refine rd_ixL (SqL.of ea2) ai ?_
          walk_at "go"
          refine iteF ?_
          walk_at "go"
          refine rd_F (by decide) ?_
          walk_at "go"
          refine rd_T rfl ?_
          walk_at "go"
          refine rd_F (by decide) ?_
          walk_at "go"
          refine ⟨tyl el, ?_⟩
          walk_at "go"
          refine ⟨by show 1 ≤ sizeLine; decide, fun p1 hp1 => ?_⟩
          have f3 : Fr [] H2 (upd H2 p1 (.lst [.int (xs[i] + n)])) := Fr.new hp1
          walk_at "go"
          refine ⟨x, a, (.add n), xs, i, by rw [Int.zero_add]; rfl, f3.tp ex2, f3.at ea2 (by simp), hi, gok, ?_⟩
          have hob : Kd.often (.add n) xs i ≤ 10 := (show 1 ≤ 10 by decide)
          have st : Kd.row (.add n) (xs.take (i + 1)) = Kd.row (.add n) (xs.take i) ++ List.replicate (Kd.often (.add n) xs i) (xs[i] + n) := by have h := row_step (.add n) xs hi; rw [gi] at h; exact h
          generalize Kd.often (.add n) xs i = oo at *
          refine ⟨p1, (oo : Int), [.int (xs[i] + n)], rfl, rfl, upd_same, by omega, by omega, by rw [Int.toNat_natCast]; show 1 * oo ≤ sizeLine; rw [Nat.one_mul]; exact Nat.le_trans hob (by decide), fun p2 hp2 => ?_⟩
          have f4 := f3.newN (o := .lst (List.replicate (oo : Int).toNat [V.int (xs[i] + n)]).flatten) hp2
          have el4 := f4.at el (by simp)
          have e2 : (upd (upd H2 p1 (.lst [.int (xs[i] + n)])) p2 (.lst (List.replicate (oo : Int).toNat [V.int (xs[i] + n)]).flatten)) p2 = some (.lst ((List.replicate oo (xs[i] + n)).map V.int)) := by rw [upd_same, Int.toNat_natCast, flat_rep2]
          generalize upd (upd H2 p1 (.lst [.int (xs[i] + n)])) p2 (.lst (List.replicate (oo : Int).toNat [V.int (xs[i] + n)]).flatten) = H4 at *
          walk_at "go"
          refine ⟨l, p2, _, _, rfl, rfl, el4, e2, ?_, ?_⟩
          · rw [List.length_map, List.length_map, List.length_replicate]
            exact Nat.le_trans (show (Kd.row (.add n) (xs.take i)).length + oo ≤ 200000 by omega) (by decide)
          · walk_at "go"
            refine ⟨_, _, _, rfl, ?_, ?_, (f2.tr f4).putN (.inr hl0) (nt el4)⟩
            · rw [upd_same, st, List.map_append]
            · rw [st, List.length_append, List.length_replicate]; omega
        · rintro σ H2 ⟨v3, v4, v7, rfl, el2, _, f2⟩
          rw [List.take_length] at el2
          walk_at "go"
          exact body _ rfl l H2 el2 hl0 f2
      | times n =>
        have ex : H x = some (.tup [.str "times", .int n]) := hg
        walk_at "go"
        refine ⟨by show 2 ≤ sizeLine; decide, fun p0 hp0 => ?_⟩
        have f0 : Fr [] H (upd H p0 (.tup [.str "both", .str "then"])) := Fr.new hp0
        refine rd_inV (b := false) upd_same rfl rfl (by decide +kernel) ?_
        walk_at "go"
        refine ⟨Nat.zero_le _, fun l hl => ?_⟩
        have hl0 : H l = none := f0.free (by simp) hl
        have el : upd (upd H p0 (.tup [.str "both", .str "then"])) l (.lst []) l = some (.lst []) := upd_same
        replace f0 := f0.newN (o := .lst []) hl
        generalize upd (upd H p0 (.tup [.str "both", .str "then"])) l (.lst []) = H1 at *
        clear hl hp0
        walk_at "go"
        walk_at "fo"
        have ea1 := f0.at e (by simp)
        walk_at "go"
        rw [List.length_map]
        refine ⟨_, rfl, by omega, by omega, ?_⟩
        rw [Int.toNat_natCast]
        refine for_range (lo := 0) (n := xs.length) (fun i σ H2 => ∃ (v3 v4 v7 : Option V), σ = [some (.ref x), some (.ref a), some (.str "times"), v3, v4, some (.ref l), some (.bl (Kd.ended (.times n) xs i)), v7] ∧ H2 l = some (.lst ((Kd.row (.times n) (xs.take i)).map V.int)) ∧ (Kd.row (.times n) (xs.take i)).length ≤ i * 10 ∧ Fr [] H H2) ⟨_, _, _, rfl, by rw [row_nil]; exact el, by rw [row_nil]; exact Nat.zero_le _, f0⟩ ?_ ?_
        · clear el f0 ea1 H1
          rintro i σ H2 hi ⟨v3, v4, v7, rfl, el, hlen, f2⟩
          have ea2 := f2.at e (by simp)
          have ex2 := f2.tp ex
          have gi : xs[i]! = xs[i] := getElem!_pos xs i hi
          have ai : atI (xs.map V.int) (0 + (i : Int)) = some (.int xs[i]) := at_of (j := i) (by omega) (by rw [List.getElem?_map, List.getElem?_eq_getElem hi]; rfl)
          walk_at "go"
          refine rd_ixL (SqL.of ea2) ai ?_
          walk_at "go"
          refine iteF ?_
          walk_at "go"
          refine rd_F (by decide) ?_
          walk_at "go"
          refine rd_F (by decide) ?_
          walk_at "go"
          refine rd_T rfl ?_
          walk_at "go"
          refine rd_I (.inr ⟨by have := gok.2; omega, by have := gok.2; omega⟩) ?_
          walk_at "go"
          refine ⟨tyl el, ?_⟩
          walk_at "go"
          refine ⟨by show 1 ≤ sizeLine; decide, fun p1 hp1 => ?_⟩
          have f3 : Fr [] H2 (upd H2 p1 (.lst [.int (xs[i] * n)])) := Fr.new hp1
          walk_at "go"
          refine ⟨x, a, (.times n), xs, i, by rw [Int.zero_add]; rfl, f3.tp ex2, f3.at ea2 (by simp), hi, gok, ?_⟩
          have hob : Kd.often (.times n) xs i ≤ 10 := (show 1 ≤ 10 by decide)
          have st : Kd.row (.times n) (xs.take (i + 1)) = Kd.row (.times n) (xs.take i) ++ List.replicate (Kd.often (.times n) xs i) (xs[i] * n) := by have h := row_step (.times n) xs hi; rw [gi] at h; exact h
          generalize Kd.often (.times n) xs i = oo at *
          refine ⟨p1, (oo : Int), [.int (xs[i] * n)], rfl, rfl, upd_same, by omega, by omega, by rw [Int.toNat_natCast]; show 1 * oo ≤ sizeLine; rw [Nat.one_mul]; exact Nat.le_trans hob (by decide), fun p2 hp2 => ?_⟩
          have f4 := f3.newN (o := .lst (List.replicate (oo : Int).toNat [V.int (xs[i] * n)]).flatten) hp2
          have el4 := f4.at el (by simp)
          have e2 : (upd (upd H2 p1 (.lst [.int (xs[i] * n)])) p2 (.lst (List.replicate (oo : Int).toNat [V.int (xs[i] * n)]).flatten)) p2 = some (.lst ((List.replicate oo (xs[i] * n)).map V.int)) := by rw [upd_same, Int.toNat_natCast, flat_rep2]
          generalize upd (upd H2 p1 (.lst [.int (xs[i] * n)])) p2 (.lst (List.replicate (oo : Int).toNat [V.int (xs[i] * n)]).flatten) = H4 at *
          walk_at "go"
          refine ⟨l, p2, _, _, rfl, rfl, el4, e2, ?_, ?_⟩
          · rw [List.length_map, List.length_map, List.length_replicate]
            exact Nat.le_trans (show (Kd.row (.times n) (xs.take i)).length + oo ≤ 200000 by omega) (by decide)
          · walk_at "go"
            refine ⟨_, _, _, rfl, ?_, ?_, (f2.tr f4).putN (.inr hl0) (nt el4)⟩
            · rw [upd_same, st, List.map_append]
            · rw [st, List.length_append, List.length_replicate]; omega
        · rintro σ H2 ⟨v3, v4, v7, rfl, el2, _, f2⟩
          rw [List.take_length] at el2
          walk_at "go"
          exact body _ rfl l H2 el2 hl0 f2
      | keep r wh =>
        have ex : H x = some (.tup [.str "keep", .int r, .int wh]) := hg
        walk_at "go"
        refine ⟨by show 2 ≤ sizeLine; decide, fun p0 hp0 => ?_⟩
        have f0 : Fr [] H (upd H p0 (.tup [.str "both", .str "then"])) := Fr.new hp0
        refine rd_inV (b := false) upd_same rfl rfl (by decide +kernel) ?_
        walk_at "go"
        refine ⟨Nat.zero_le _, fun l hl => ?_⟩
        have hl0 : H l = none := f0.free (by simp) hl
        have el : upd (upd H p0 (.tup [.str "both", .str "then"])) l (.lst []) l = some (.lst []) := upd_same
        replace f0 := f0.newN (o := .lst []) hl
        generalize upd (upd H p0 (.tup [.str "both", .str "then"])) l (.lst []) = H1 at *
        clear hl hp0
        walk_at "go"
        walk_at "fo"
        have ea1 := f0.at e (by simp)
        walk_at "go"
        rw [List.length_map]
        refine ⟨_, rfl, by omega, by omega, ?_⟩
        rw [Int.toNat_natCast]
        refine for_range (lo := 0) (n := xs.length) (fun i σ H2 => ∃ (v3 v4 v7 : Option V), σ = [some (.ref x), some (.ref a), some (.str "keep"), v3, v4, some (.ref l), some (.bl (Kd.ended (.keep r wh) xs i)), v7] ∧ H2 l = some (.lst ((Kd.row (.keep r wh) (xs.take i)).map V.int)) ∧ (Kd.row (.keep r wh) (xs.take i)).length ≤ i * 10 ∧ Fr [] H H2) ⟨_, _, _, rfl, by rw [row_nil]; exact el, by rw [row_nil]; exact Nat.zero_le _, f0⟩ ?_ ?_
        · clear el f0 ea1 H1
          rintro i σ H2 hi ⟨v3, v4, v7, rfl, el, hlen, f2⟩
          have ea2 := f2.at e (by simp)
          have ex2 := f2.tp ex
          have gi : xs[i]! = xs[i] := getElem!_pos xs i hi
          have ai : atI (xs.map V.int) (0 + (i : Int)) = some (.int xs[i]) := at_of (j := i) (by omega) (by rw [List.getElem?_map, List.getElem?_eq_getElem hi]; rfl)
          walk_at "go"
          refine rd_ixL (SqL.of ea2) ai ?_
          walk_at "go"
          refine iteF ?_
          walk_at "go"
          refine rd_F (by decide) ?_
          walk_at "go"
          refine rd_F (by decide) ?_
          walk_at "go"
          refine rd_F (by decide) ?_
          walk_at "go"
          refine ⟨tyl el, ?_⟩
          walk_at "go"
          refine ⟨by show 1 ≤ sizeLine; decide, fun p1 hp1 => ?_⟩
          have f3 : Fr [] H2 (upd H2 p1 (.lst [.int xs[i]])) := Fr.new hp1
          walk_at "go"
          refine ⟨x, a, (.keep r wh), xs, i, by rw [Int.zero_add]; rfl, f3.tp ex2, f3.at ea2 (by simp), hi, gok, ?_⟩
          have hob : Kd.often (.keep r wh) xs i ≤ 10 := (by show (if _ then 1 else 0) ≤ 10; split <;> decide)
          have st : Kd.row (.keep r wh) (xs.take (i + 1)) = Kd.row (.keep r wh) (xs.take i) ++ List.replicate (Kd.often (.keep r wh) xs i) xs[i] := by have h := row_step (.keep r wh) xs hi; rw [gi] at h; exact h
          generalize Kd.often (.keep r wh) xs i = oo at *
          refine ⟨p1, (oo : Int), [.int xs[i]], rfl, rfl, upd_same, by omega, by omega, by rw [Int.toNat_natCast]; show 1 * oo ≤ sizeLine; rw [Nat.one_mul]; exact Nat.le_trans hob (by decide), fun p2 hp2 => ?_⟩
          have f4 := f3.newN (o := .lst (List.replicate (oo : Int).toNat [V.int xs[i]]).flatten) hp2
          have el4 := f4.at el (by simp)
          have e2 : (upd (upd H2 p1 (.lst [.int xs[i]])) p2 (.lst (List.replicate (oo : Int).toNat [V.int xs[i]]).flatten)) p2 = some (.lst ((List.replicate oo xs[i]).map V.int)) := by rw [upd_same, Int.toNat_natCast, flat_rep2]
          generalize upd (upd H2 p1 (.lst [.int xs[i]])) p2 (.lst (List.replicate (oo : Int).toNat [V.int xs[i]]).flatten) = H4 at *
          walk_at "go"
          refine ⟨l, p2, _, _, rfl, rfl, el4, e2, ?_, ?_⟩
          · rw [List.length_map, List.length_map, List.length_replicate]
            exact Nat.le_trans (show (Kd.row (.keep r wh) (xs.take i)).length + oo ≤ 200000 by omega) (by decide)
          · walk_at "go"
            refine ⟨_, _, _, rfl, ?_, ?_, (f2.tr f4).putN (.inr hl0) (nt el4)⟩
            · rw [upd_same, st, List.map_append]
            · rw [st, List.length_append, List.length_replicate]; omega
        · rintro σ H2 ⟨v3, v4, v7, rfl, el2, _, f2⟩
          rw [List.take_length] at el2
          walk_at "go"
          exact body _ rfl l H2 el2 hl0 f2
      | drop n =>
        have ex : H x = some (.tup [.str "drop", .int n]) := hg
        walk_at "go"
        refine ⟨by show 2 ≤ sizeLine; decide, fun p0 hp0 => ?_⟩
        have f0 : Fr [] H (upd H p0 (.tup [.str "both", .str "then"])) := Fr.new hp0
        refine rd_inV (b := false) upd_same rfl rfl (by decide +kernel) ?_
        walk_at "go"
        refine ⟨Nat.zero_le _, fun l hl => ?_⟩
        have hl0 : H l = none := f0.free (by simp) hl
        have el : upd (upd H p0 (.tup [.str "both", .str "then"])) l (.lst []) l = some (.lst []) := upd_same
        replace f0 := f0.newN (o := .lst []) hl
        generalize upd (upd H p0 (.tup [.str "both", .str "then"])) l (.lst []) = H1 at *
        clear hl hp0
        walk_at "go"
        walk_at "fo"
        have ea1 := f0.at e (by simp)
        walk_at "go"
        rw [List.length_map]
        refine ⟨_, rfl, by omega, by omega, ?_⟩
        rw [Int.toNat_natCast]
        refine for_range (lo := 0) (n := xs.length) (fun i σ H2 => ∃ (v3 v4 v7 : Option V), σ = [some (.ref x), some (.ref a), some (.str "drop"), v3, v4, some (.ref l), some (.bl (Kd.ended (.drop n) xs i)), v7] ∧ H2 l = some (.lst ((Kd.row (.drop n) (xs.take i)).map V.int)) ∧ (Kd.row (.drop n) (xs.take i)).length ≤ i * 10 ∧ Fr [] H H2) ⟨_, _, _, rfl, by rw [row_nil]; exact el, by rw [row_nil]; exact Nat.zero_le _, f0⟩ ?_ ?_
        · clear el f0 ea1 H1
          rintro i σ H2 hi ⟨v3, v4, v7, rfl, el, hlen, f2⟩
          have ea2 := f2.at e (by simp)
          have ex2 := f2.tp ex
          have gi : xs[i]! = xs[i] := getElem!_pos xs i hi
          have ai : atI (xs.map V.int) (0 + (i : Int)) = some (.int xs[i]) := at_of (j := i) (by omega) (by rw [List.getElem?_map, List.getElem?_eq_getElem hi]; rfl)
          walk_at "go"
          refine rd_ixL (SqL.of ea2) ai ?_
          walk_at "go"
          refine iteF ?_
          walk_at "go"
          refine rd_F (by decide) ?_
          walk_at "go"
          refine rd_F (by decide) ?_
          walk_at "go"
          refine rd_F (by decide) ?_
          walk_at "go"
          refine ⟨tyl el, ?_⟩
          walk_at "go"
          refine ⟨by show 1 ≤ sizeLine; decide, fun p1 hp1 => ?_⟩
          have f3 : Fr [] H2 (upd H2 p1 (.lst [.int xs[i]])) := Fr.new hp1
          walk_at "go"
          refine ⟨x, a, (.drop n), xs, i, by rw [Int.zero_add]; rfl, f3.tp ex2, f3.at ea2 (by simp), hi, gok, ?_⟩
          have hob : Kd.often (.drop n) xs i ≤ 10 := (by show (if _ then 1 else 0) ≤ 10; split <;> decide)
          have st : Kd.row (.drop n) (xs.take (i + 1)) = Kd.row (.drop n) (xs.take i) ++ List.replicate (Kd.often (.drop n) xs i) xs[i] := by have h := row_step (.drop n) xs hi; rw [gi] at h; exact h
          generalize Kd.often (.drop n) xs i = oo at *
          refine ⟨p1, (oo : Int), [.int xs[i]], rfl, rfl, upd_same, by omega, by omega, by rw [Int.toNat_natCast]; show 1 * oo ≤ sizeLine; rw [Nat.one_mul]; exact Nat.le_trans hob (by decide), fun p2 hp2 => ?_⟩
          have f4 := f3.newN (o := .lst (List.replicate (oo : Int).toNat [V.int xs[i]]).flatten) hp2
          have el4 := f4.at el (by simp)
          have e2 : (upd (upd H2 p1 (.lst [.int xs[i]])) p2 (.lst (List.replicate (oo : Int).toNat [V.int xs[i]]).flatten)) p2 = some (.lst ((List.replicate oo xs[i]).map V.int)) := by rw [upd_same, Int.toNat_natCast, flat_rep2]
          generalize upd (upd H2 p1 (.lst [.int xs[i]])) p2 (.lst (List.replicate (oo : Int).toNat [V.int xs[i]]).flatten) = H4 at *
          walk_at "go"
          refine ⟨l, p2, _, _, rfl, rfl, el4, e2, ?_, ?_⟩
          · rw [List.length_map, List.length_map, List.length_replicate]
            exact Nat.le_trans (show (Kd.row (.drop n) (xs.take i)).length + oo ≤ 200000 by omega) (by decide)
          · walk_at "go"
            refine ⟨_, _, _, rfl, ?_, ?_, (f2.tr f4).putN (.inr hl0) (nt el4)⟩
            · rw [upd_same, st, List.map_append]
            · rw [st, List.length_append, List.length_replicate]; omega
        · rintro σ H2 ⟨v3, v4, v7, rfl, el2, _, f2⟩
          rw [List.take_length] at el2
          walk_at "go"
          exact body _ rfl l H2 el2 hl0 f2
      | take n =>
        have ex : H x = some (.tup [.str "take", .int n]) := hg
        walk_at "go"
        refine ⟨by show 2 ≤ sizeLine; decide, fun p0 hp0 => ?_⟩
        have f0 : Fr [] H (upd H p0 (.tup [.str "both", .str "then"])) := Fr.new hp0
        refine rd_inV (b := false) upd_same rfl rfl (by decide +kernel) ?_
        walk_at "go"
        refine ⟨Nat.zero_le _, fun l hl => ?_⟩
        have hl0 : H l = none := f0.free (by simp) hl
        have el : upd (upd H p0 (.tup [.str "both", .str "then"])) l (.lst []) l = some (.lst []) := upd_same
        replace f0 := f0.newN (o := .lst []) hl
        generalize upd (upd H p0 (.tup [.str "both", .str "then"])) l (.lst []) = H1 at *
        clear hl hp0
        walk_at "go"
        walk_at "fo"
        have ea1 := f0.at e (by simp)
        walk_at "go"
        rw [List.length_map]
        refine ⟨_, rfl, by omega, by omega, ?_⟩
        rw [Int.toNat_natCast]
        refine for_range (lo := 0) (n := xs.length) (fun i σ H2 => ∃ (v3 v4 v7 : Option V), σ = [some (.ref x), some (.ref a), some (.str "take"), v3, v4, some (.ref l), some (.bl (Kd.ended (.take n) xs i)), v7] ∧ H2 l = some (.lst ((Kd.row (.take n) (xs.take i)).map V.int)) ∧ (Kd.row (.take n) (xs.take i)).length ≤ i * 10 ∧ Fr [] H H2) ⟨_, _, _, rfl, by rw [row_nil]; exact el, by rw [row_nil]; exact Nat.zero_le _, f0⟩ ?_ ?_
        · clear el f0 ea1 H1
          rintro i σ H2 hi ⟨v3, v4, v7, rfl, el, hlen, f2⟩
          have ea2 := f2.at e (by simp)
          have ex2 := f2.tp ex
          have gi : xs[i]! = xs[i] := getElem!_pos xs i hi
          have ai : atI (xs.map V.int) (0 + (i : Int)) = some (.int xs[i]) := at_of (j := i) (by omega) (by rw [List.getElem?_map, List.getElem?_eq_getElem hi]; rfl)
          walk_at "go"
          refine rd_ixL (SqL.of ea2) ai ?_
          walk_at "go"
          refine iteF ?_
          walk_at "go"
          refine rd_F (by decide) ?_
          walk_at "go"
          refine rd_F (by decide) ?_
          walk_at "go"
          refine rd_F (by decide) ?_
          walk_at "go"
          refine ⟨tyl el, ?_⟩
          walk_at "go"
          refine ⟨by show 1 ≤ sizeLine; decide, fun p1 hp1 => ?_⟩
          have f3 : Fr [] H2 (upd H2 p1 (.lst [.int xs[i]])) := Fr.new hp1
          walk_at "go"
          refine ⟨x, a, (.take n), xs, i, by rw [Int.zero_add]; rfl, f3.tp ex2, f3.at ea2 (by simp), hi, gok, ?_⟩
          have hob : Kd.often (.take n) xs i ≤ 10 := (by show (if _ then 1 else 0) ≤ 10; split <;> decide)
          have st : Kd.row (.take n) (xs.take (i + 1)) = Kd.row (.take n) (xs.take i) ++ List.replicate (Kd.often (.take n) xs i) xs[i] := by have h := row_step (.take n) xs hi; rw [gi] at h; exact h
          generalize Kd.often (.take n) xs i = oo at *
          refine ⟨p1, (oo : Int), [.int xs[i]], rfl, rfl, upd_same, by omega, by omega, by rw [Int.toNat_natCast]; show 1 * oo ≤ sizeLine; rw [Nat.one_mul]; exact Nat.le_trans hob (by decide), fun p2 hp2 => ?_⟩
          have f4 := f3.newN (o := .lst (List.replicate (oo : Int).toNat [V.int xs[i]]).flatten) hp2
          have el4 := f4.at el (by simp)
          have e2 : (upd (upd H2 p1 (.lst [.int xs[i]])) p2 (.lst (List.replicate (oo : Int).toNat [V.int xs[i]]).flatten)) p2 = some (.lst ((List.replicate oo xs[i]).map V.int)) := by rw [upd_same, Int.toNat_natCast, flat_rep2]
          generalize upd (upd H2 p1 (.lst [.int xs[i]])) p2 (.lst (List.replicate (oo : Int).toNat [V.int xs[i]]).flatten) = H4 at *
          walk_at "go"
          refine ⟨l, p2, _, _, rfl, rfl, el4, e2, ?_, ?_⟩
          · rw [List.length_map, List.length_map, List.length_replicate]
            exact Nat.le_trans (show (Kd.row (.take n) (xs.take i)).length + oo ≤ 200000 by omega) (by decide)
          · walk_at "go"
            refine ⟨_, _, _, rfl, ?_, ?_, (f2.tr f4).putN (.inr hl0) (nt el4)⟩
            · rw [upd_same, st, List.map_append]
            · rw [st, List.length_append, List.length_replicate]; omega
        · rintro σ H2 ⟨v3, v4, v7, rfl, el2, _, f2⟩
          rw [List.take_length] at el2
          walk_at "go"
          exact body _ rfl l H2 el2 hl0 f2
      | each n =>
        have ex : H x = some (.tup [.str "each", .int n]) := hg
        walk_at "go"
        refine ⟨by show 2 ≤ sizeLine; decide, fun p0 hp0 => ?_⟩
        have f0 : Fr [] H (upd H p0 (.tup [.str "both", .str "then"])) := Fr.new hp0
        refine rd_inV (b := false) upd_same rfl rfl (by decide +kernel) ?_
        walk_at "go"
        refine ⟨Nat.zero_le _, fun l hl => ?_⟩
        have hl0 : H l = none := f0.free (by simp) hl
        have el : upd (upd H p0 (.tup [.str "both", .str "then"])) l (.lst []) l = some (.lst []) := upd_same
        replace f0 := f0.newN (o := .lst []) hl
        generalize upd (upd H p0 (.tup [.str "both", .str "then"])) l (.lst []) = H1 at *
        clear hl hp0
        walk_at "go"
        walk_at "fo"
        have ea1 := f0.at e (by simp)
        walk_at "go"
        rw [List.length_map]
        refine ⟨_, rfl, by omega, by omega, ?_⟩
        rw [Int.toNat_natCast]
        refine for_range (lo := 0) (n := xs.length) (fun i σ H2 => ∃ (v3 v4 v7 : Option V), σ = [some (.ref x), some (.ref a), some (.str "each"), v3, v4, some (.ref l), some (.bl (Kd.ended (.each n) xs i)), v7] ∧ H2 l = some (.lst ((Kd.row (.each n) (xs.take i)).map V.int)) ∧ (Kd.row (.each n) (xs.take i)).length ≤ i * 10 ∧ Fr [] H H2) ⟨_, _, _, rfl, by rw [row_nil]; exact el, by rw [row_nil]; exact Nat.zero_le _, f0⟩ ?_ ?_
        · clear el f0 ea1 H1
          rintro i σ H2 hi ⟨v3, v4, v7, rfl, el, hlen, f2⟩
          have ea2 := f2.at e (by simp)
          have ex2 := f2.tp ex
          have gi : xs[i]! = xs[i] := getElem!_pos xs i hi
          have ai : atI (xs.map V.int) (0 + (i : Int)) = some (.int xs[i]) := at_of (j := i) (by omega) (by rw [List.getElem?_map, List.getElem?_eq_getElem hi]; rfl)
          walk_at "go"
          refine rd_ixL (SqL.of ea2) ai ?_
          walk_at "go"
          refine iteF ?_
          walk_at "go"
          refine rd_F (by decide) ?_
          walk_at "go"
          refine rd_F (by decide) ?_
          walk_at "go"
          refine rd_F (by decide) ?_
          walk_at "go"
          refine ⟨tyl el, ?_⟩
          walk_at "go"
          refine ⟨by show 1 ≤ sizeLine; decide, fun p1 hp1 => ?_⟩
          have f3 : Fr [] H2 (upd H2 p1 (.lst [.int xs[i]])) := Fr.new hp1
          walk_at "go"
          refine ⟨x, a, (.each n), xs, i, by rw [Int.zero_add]; rfl, f3.tp ex2, f3.at ea2 (by simp), hi, gok, ?_⟩
          have hob : Kd.often (.each n) xs i ≤ 10 := (by have h := gok.2; show n.toNat ≤ 10; omega)
          have st : Kd.row (.each n) (xs.take (i + 1)) = Kd.row (.each n) (xs.take i) ++ List.replicate (Kd.often (.each n) xs i) xs[i] := by have h := row_step (.each n) xs hi; rw [gi] at h; exact h
          generalize Kd.often (.each n) xs i = oo at *
          refine ⟨p1, (oo : Int), [.int xs[i]], rfl, rfl, upd_same, by omega, by omega, by rw [Int.toNat_natCast]; show 1 * oo ≤ sizeLine; rw [Nat.one_mul]; exact Nat.le_trans hob (by decide), fun p2 hp2 => ?_⟩
          have f4 := f3.newN (o := .lst (List.replicate (oo : Int).toNat [V.int xs[i]]).flatten) hp2
          have el4 := f4.at el (by simp)
          have e2 : (upd (upd H2 p1 (.lst [.int xs[i]])) p2 (.lst (List.replicate (oo : Int).toNat [V.int xs[i]]).flatten)) p2 = some (.lst ((List.replicate oo xs[i]).map V.int)) := by rw [upd_same, Int.toNat_natCast, flat_rep2]
          generalize upd (upd H2 p1 (.lst [.int xs[i]])) p2 (.lst (List.replicate (oo : Int).toNat [V.int xs[i]]).flatten) = H4 at *
          walk_at "go"
          refine ⟨l, p2, _, _, rfl, rfl, el4, e2, ?_, ?_⟩
          · rw [List.length_map, List.length_map, List.length_replicate]
            exact Nat.le_trans (show (Kd.row (.each n) (xs.take i)).length + oo ≤ 200000 by omega) (by decide)
          · walk_at "go"
            refine ⟨_, _, _, rfl, ?_, ?_, (f2.tr f4).putN (.inr hl0) (nt el4)⟩
            · rw [upd_same, st, List.map_append]
            · rw [st, List.length_append, List.length_replicate]; omega
        · rintro σ H2 ⟨v3, v4, v7, rfl, el2, _, f2⟩
          rw [List.take_length] at el2
          walk_at "go"
          exact body _ rfl l H2 el2 hl0 f2
      | «until» n =>
        have ex : H x = some (.tup [.str "until", .int n]) := hg
        walk_at "go"
        refine ⟨by show 2 ≤ sizeLine; decide, fun p0 hp0 => ?_⟩
        have f0 : Fr [] H (upd H p0 (.tup [.str "both", .str "then"])) := Fr.new hp0
        refine rd_inV (b := false) upd_same rfl rfl (by decide +kernel) ?_
        walk_at "go"
        refine ⟨Nat.zero_le _, fun l hl => ?_⟩
        have hl0 : H l = none := f0.free (by simp) hl
        have el : upd (upd H p0 (.tup [.str "both", .str "then"])) l (.lst []) l = some (.lst []) := upd_same
        replace f0 := f0.newN (o := .lst []) hl
        generalize upd (upd H p0 (.tup [.str "both", .str "then"])) l (.lst []) = H1 at *
        clear hl hp0
        walk_at "go"
        walk_at "fo"
        have ea1 := f0.at e (by simp)
        walk_at "go"
        rw [List.length_map]
        refine ⟨_, rfl, by omega, by omega, ?_⟩
        rw [Int.toNat_natCast]
        refine for_range (lo := 0) (n := xs.length) (fun i σ H2 => ∃ (v3 v4 v7 : Option V), σ = [some (.ref x), some (.ref a), some (.str "until"), v3, v4, some (.ref l), some (.bl (Kd.ended (.until n) xs i)), v7] ∧ H2 l = some (.lst ((Kd.row (.until n) (xs.take i)).map V.int)) ∧ (Kd.row (.until n) (xs.take i)).length ≤ i * 10 ∧ Fr [] H H2) ⟨_, _, _, rfl, by rw [row_nil]; exact el, by rw [row_nil]; exact Nat.zero_le _, f0⟩ ?_ ?_
        · clear el f0 ea1 H1
          rintro i σ H2 hi ⟨v3, v4, v7, rfl, el, hlen, f2⟩
          have ea2 := f2.at e (by simp)
          have ex2 := f2.tp ex
          have gi : xs[i]! = xs[i] := getElem!_pos xs i hi
          have ai : atI (xs.map V.int) (0 + (i : Int)) = some (.int xs[i]) := at_of (j := i) (by omega) (by rw [List.getElem?_map, List.getElem?_eq_getElem hi]; rfl)
          walk_at "go"
          refine rd_ixL (SqL.of ea2) ai ?_
          walk_at "go"
          have hst : Kd.ended (.until n) xs (i + 1) = (Kd.ended (.until n) xs i || decide (n ≤ xs[i])) := ended_step hi
          cases he : Kd.ended (.until n) xs i with
          | true =>
            refine iteT ?_
            walk_at "go"
            rw [he, Bool.true_or] at hst
            refine rd_F (by decide) ?_
            walk_at "go"
            refine rd_F (by decide) ?_
            dsimp only
            refine rd_at (σ' := [some (.ref x), some (.ref a), some (.str "until"), v3, some (.int (0 + (i : Int))), some (.ref l), some (.bl (Kd.ended (.until n) xs (i + 1))), some (.int xs[i])]) (by rw [hst]; rfl) ?_
            walk_at "go"
            refine ⟨tyl el, ?_⟩
            walk_at "go"
            refine ⟨by show 1 ≤ sizeLine; decide, fun p1 hp1 => ?_⟩
            have f3 : Fr [] H2 (upd H2 p1 (.lst [.int xs[i]])) := Fr.new hp1
            walk_at "go"
            refine ⟨x, a, (.until n), xs, i, by rw [Int.zero_add]; rfl, f3.tp ex2, f3.at ea2 (by simp), hi, gok, ?_⟩
            have hob : Kd.often (.until n) xs i ≤ 10 := (by show (if _ then 1 else 0) ≤ 10; split <;> decide)
            have st : Kd.row (.until n) (xs.take (i + 1)) = Kd.row (.until n) (xs.take i) ++ List.replicate (Kd.often (.until n) xs i) xs[i] := by have h := row_step (.until n) xs hi; rw [gi] at h; exact h
            generalize Kd.often (.until n) xs i = oo at *
            refine ⟨p1, (oo : Int), [.int xs[i]], rfl, rfl, upd_same, by omega, by omega, by rw [Int.toNat_natCast]; show 1 * oo ≤ sizeLine; rw [Nat.one_mul]; exact Nat.le_trans hob (by decide), fun p2 hp2 => ?_⟩
            have f4 := f3.newN (o := .lst (List.replicate (oo : Int).toNat [V.int xs[i]]).flatten) hp2
            have el4 := f4.at el (by simp)
            have e2 : (upd (upd H2 p1 (.lst [.int xs[i]])) p2 (.lst (List.replicate (oo : Int).toNat [V.int xs[i]]).flatten)) p2 = some (.lst ((List.replicate oo xs[i]).map V.int)) := by rw [upd_same, Int.toNat_natCast, flat_rep2]
            generalize upd (upd H2 p1 (.lst [.int xs[i]])) p2 (.lst (List.replicate (oo : Int).toNat [V.int xs[i]]).flatten) = H4 at *
            walk_at "go"
            refine ⟨l, p2, _, _, rfl, rfl, el4, e2, ?_, ?_⟩
            · rw [List.length_map, List.length_map, List.length_replicate]
              exact Nat.le_trans (show (Kd.row (.until n) (xs.take i)).length + oo ≤ 200000 by omega) (by decide)
            · walk_at "go"
              refine ⟨_, _, _, rfl, ?_, ?_, (f2.tr f4).putN (.inr hl0) (nt el4)⟩
              · rw [upd_same, st, List.map_append]
              · rw [st, List.length_append, List.length_replicate]; omega
          | false =>
            refine iteF ?_
            walk_at "go"
            refine rd_T rfl ?_
            walk_at "go"
            rw [he, Bool.false_or] at hst
            refine rd_F (by decide) ?_
            walk_at "go"
            refine rd_F (by decide) ?_
            dsimp only
            refine rd_at (σ' := [some (.ref x), some (.ref a), some (.str "until"), v3, some (.int (0 + (i : Int))), some (.ref l), some (.bl (Kd.ended (.until n) xs (i + 1))), some (.int xs[i])]) (by rw [hst]; rfl) ?_
            walk_at "go"
            refine ⟨tyl el, ?_⟩
            walk_at "go"
            refine ⟨by show 1 ≤ sizeLine; decide, fun p1 hp1 => ?_⟩
            have f3 : Fr [] H2 (upd H2 p1 (.lst [.int xs[i]])) := Fr.new hp1
            walk_at "go"
            refine ⟨x, a, (.until n), xs, i, by rw [Int.zero_add]; rfl, f3.tp ex2, f3.at ea2 (by simp), hi, gok, ?_⟩
            have hob : Kd.often (.until n) xs i ≤ 10 := (by show (if _ then 1 else 0) ≤ 10; split <;> decide)
            have st : Kd.row (.until n) (xs.take (i + 1)) = Kd.row (.until n) (xs.take i) ++ List.replicate (Kd.often (.until n) xs i) xs[i] := by have h := row_step (.until n) xs hi; rw [gi] at h; exact h
            generalize Kd.often (.until n) xs i = oo at *
            refine ⟨p1, (oo : Int), [.int xs[i]], rfl, rfl, upd_same, by omega, by omega, by rw [Int.toNat_natCast]; show 1 * oo ≤ sizeLine; rw [Nat.one_mul]; exact Nat.le_trans hob (by decide), fun p2 hp2 => ?_⟩
            have f4 := f3.newN (o := .lst (List.replicate (oo : Int).toNat [V.int xs[i]]).flatten) hp2
            have el4 := f4.at el (by simp)
            have e2 : (upd (upd H2 p1 (.lst [.int xs[i]])) p2 (.lst (List.replicate (oo : Int).toNat [V.int xs[i]]).flatten)) p2 = some (.lst ((List.replicate oo xs[i]).map V.int)) := by rw [upd_same, Int.toNat_natCast, flat_rep2]
            generalize upd (upd H2 p1 (.lst [.int xs[i]])) p2 (.lst (List.replicate (oo : Int).toNat [V.int xs[i]]).flatten) = H4 at *
            walk_at "go"
            refine ⟨l, p2, _, _, rfl, rfl, el4, e2, ?_, ?_⟩
            · rw [List.length_map, List.length_map, List.length_replicate]
              exact Nat.le_trans (show (Kd.row (.until n) (xs.take i)).length + oo ≤ 200000 by omega) (by decide)
            · walk_at "go"
              refine ⟨_, _, _, rfl, ?_, ?_, (f2.tr f4).putN (.inr hl0) (nt el4)⟩
              · rw [upd_same, st, List.map_append]
              · rw [st, List.length_append, List.length_replicate]; omega
        · rintro σ H2 ⟨v3, v4, v7, rfl, el2, _, f2⟩
          rw [List.take_length] at el2
          walk_at "go"
          exact body _ rfl l H2 el2 hl0 f2
      | unlike  =>
        have ex : H x = some (.tup [.str "unlike"]) := hg
        walk_at "go"
        refine ⟨by show 2 ≤ sizeLine; decide, fun p0 hp0 => ?_⟩
        have f0 : Fr [] H (upd H p0 (.tup [.str "both", .str "then"])) := Fr.new hp0
        refine rd_inV (b := false) upd_same rfl rfl (by decide +kernel) ?_
        walk_at "go"
        refine ⟨Nat.zero_le _, fun l hl => ?_⟩
        have hl0 : H l = none := f0.free (by simp) hl
        have el : upd (upd H p0 (.tup [.str "both", .str "then"])) l (.lst []) l = some (.lst []) := upd_same
        replace f0 := f0.newN (o := .lst []) hl
        generalize upd (upd H p0 (.tup [.str "both", .str "then"])) l (.lst []) = H1 at *
        clear hl hp0
        walk_at "go"
        walk_at "fo"
        have ea1 := f0.at e (by simp)
        walk_at "go"
        rw [List.length_map]
        refine ⟨_, rfl, by omega, by omega, ?_⟩
        rw [Int.toNat_natCast]
        refine for_range (lo := 0) (n := xs.length) (fun i σ H2 => ∃ (v3 v4 v7 : Option V), σ = [some (.ref x), some (.ref a), some (.str "unlike"), v3, v4, some (.ref l), some (.bl (Kd.ended (.unlike) xs i)), v7] ∧ H2 l = some (.lst ((Kd.row (.unlike) (xs.take i)).map V.int)) ∧ (Kd.row (.unlike) (xs.take i)).length ≤ i * 10 ∧ Fr [] H H2) ⟨_, _, _, rfl, by rw [row_nil]; exact el, by rw [row_nil]; exact Nat.zero_le _, f0⟩ ?_ ?_
        · clear el f0 ea1 H1
          rintro i σ H2 hi ⟨v3, v4, v7, rfl, el, hlen, f2⟩
          have ea2 := f2.at e (by simp)
          have ex2 := f2.tp ex
          have gi : xs[i]! = xs[i] := getElem!_pos xs i hi
          have ai : atI (xs.map V.int) (0 + (i : Int)) = some (.int xs[i]) := at_of (j := i) (by omega) (by rw [List.getElem?_map, List.getElem?_eq_getElem hi]; rfl)
          walk_at "go"
          refine rd_ixL (SqL.of ea2) ai ?_
          walk_at "go"
          refine iteF ?_
          walk_at "go"
          refine rd_F (by decide) ?_
          walk_at "go"
          refine rd_F (by decide) ?_
          walk_at "go"
          refine rd_F (by decide) ?_
          walk_at "go"
          refine ⟨tyl el, ?_⟩
          walk_at "go"
          refine ⟨by show 1 ≤ sizeLine; decide, fun p1 hp1 => ?_⟩
          have f3 : Fr [] H2 (upd H2 p1 (.lst [.int xs[i]])) := Fr.new hp1
          walk_at "go"
          refine ⟨x, a, (.unlike), xs, i, by rw [Int.zero_add]; rfl, f3.tp ex2, f3.at ea2 (by simp), hi, gok, ?_⟩
          have hob : Kd.often (.unlike) xs i ≤ 10 := (by show (if _ then 1 else 0) ≤ 10; split <;> decide)
          have st : Kd.row (.unlike) (xs.take (i + 1)) = Kd.row (.unlike) (xs.take i) ++ List.replicate (Kd.often (.unlike) xs i) xs[i] := by have h := row_step (.unlike) xs hi; rw [gi] at h; exact h
          generalize Kd.often (.unlike) xs i = oo at *
          refine ⟨p1, (oo : Int), [.int xs[i]], rfl, rfl, upd_same, by omega, by omega, by rw [Int.toNat_natCast]; show 1 * oo ≤ sizeLine; rw [Nat.one_mul]; exact Nat.le_trans hob (by decide), fun p2 hp2 => ?_⟩
          have f4 := f3.newN (o := .lst (List.replicate (oo : Int).toNat [V.int xs[i]]).flatten) hp2
          have el4 := f4.at el (by simp)
          have e2 : (upd (upd H2 p1 (.lst [.int xs[i]])) p2 (.lst (List.replicate (oo : Int).toNat [V.int xs[i]]).flatten)) p2 = some (.lst ((List.replicate oo xs[i]).map V.int)) := by rw [upd_same, Int.toNat_natCast, flat_rep2]
          generalize upd (upd H2 p1 (.lst [.int xs[i]])) p2 (.lst (List.replicate (oo : Int).toNat [V.int xs[i]]).flatten) = H4 at *
          walk_at "go"
          refine ⟨l, p2, _, _, rfl, rfl, el4, e2, ?_, ?_⟩
          · rw [List.length_map, List.length_map, List.length_replicate]
            exact Nat.le_trans (show (Kd.row (.unlike) (xs.take i)).length + oo ≤ 200000 by omega) (by decide)
          · walk_at "go"
            refine ⟨_, _, _, rfl, ?_, ?_, (f2.tr f4).putN (.inr hl0) (nt el4)⟩
            · rw [upd_same, st, List.map_append]
            · rw [st, List.length_append, List.length_replicate]; omega
        · rintro σ H2 ⟨v3, v4, v7, rfl, el2, _, f2⟩
          rw [List.take_length] at el2
          walk_at "go"
          exact body _ rfl l H2 el2 hl0 f2
    | both o =>
      obtain ⟨pi, ex, hpi⟩ := hg
      walk_at "go"
      refine ⟨by show 2 ≤ sizeLine; decide, fun p0 hp0 => ?_⟩
      have f0 : Fr [] H (upd H p0 (.tup [.str "both", .str "then"])) := Fr.new hp0
      refine rd_inV (b := true) upd_same rfl rfl (by decide +kernel) ?_
      generalize upd H p0 (.tup [.str "both", .str "then"]) = H1 at *
      walk_at "go"
      refine rd_ixT (SqT.of (f0.tp ex)) rfl ?_
      walk_at "go"
      refine ⟨pi, o, rfl, hpi.fr f0, gok, grow, gnm, fun ys ey H2 q eq hq f2 => ?_, fun en H2 f2 => ?_⟩
      · have f := f0.tr f2
        have ea := f.at e (by simp)
        walk_at "go"
        refine ⟨rfl, ?_⟩
        walk_at "go"
        refine rd_F (by intro z; cases z) ?_
        walk_at "go"
        refine rd_F (by decide) ?_
        walk_at "go"
        show iRng1 _ _ _ _
        walk_at "go"
        have hmin : (if ((ys.map V.int).length : Int) < ((xs.map V.int).length : Int) then ((ys.map V.int).length : Int) else ((xs.map V.int).length : Int)) = ((List.zipWith (· + ·) xs ys).length : Int) := by
          rw [List.length_map, List.length_map, List.length_zipWith]
          split <;> omega
        rw [hmin]
        have hzl : (List.zipWith (· + ·) xs ys).length = min xs.length ys.length := List.length_zipWith
        refine ⟨_, rfl, by omega, by omega, fun D hD => ?_⟩
        rw [Int.toNat_natCast]
        have kk := k1 (List.zipWith (· + ·) xs ys) (by show o.row.map _ = _; rw [ey]; rfl)
        refine lc_range (lo := 0) (n := (List.zipWith (· + ·) xs ys).length) (fun i H3 => H3 D = some (.lst (((List.zipWith (· + ·) xs ys).take i).map V.int)) ∧ Fr [] H2 H3) ⟨upd_same, Fr.new hD⟩ ?_ ?_
        · rintro i H3 hi ⟨e3, f3⟩
          have i1 : i < xs.length := by omega
          have i2 : i < ys.length := by omega
          refine rd_name ?_
          refine ⟨rfl, ?_⟩
          refine rd_yes ?_
          refine iteT ?_
          walk_at "go"
          refine rd_ixL (SqL.of (f3.at ea (by simp))) (at_of (j := i) (v := .int xs[i]) (by omega) (by rw [List.getElem?_map, List.getElem?_eq_getElem i1]; rfl)) ?_
          walk_at "go"
          refine rd_ixL (SqL.of (f3.at eq (by simp))) (at_of (j := i) (v := .int ys[i]) (by omega) (by rw [List.getElem?_map, List.getElem?_eq_getElem i2]; rfl)) ?_
          walk_at "go"
          refine ⟨_, e3, ?_, ?_, f3.putN (.inr hD) (nt e3)⟩
          · rw [List.length_map, List.length_take]; exact Nat.lt_of_le_of_lt (show _ ≤ 10000 by omega) (by decide)
          · rw [upd_same, take_snoc hi, List.map_append, getElem!_pos _ i hi, List.getElem_zipWith]; rfl
        · rintro H3 ⟨e3, f3⟩
          rw [List.take_length] at e3
          exact kk H3 D e3 (f.free (by simp) hD) (f.tr f3)
      · walk_at "go"
        refine ⟨rfl, ?_⟩
        walk_at "go"
        refine rd_T rfl ?_
        walk_at "go"
        exact k2 (by show o.row.map _ = none; rw [en]; rfl) H2 (f0.tr f2)
    | thn o =>
      obtain ⟨pi, ex, hpi⟩ := hg
      walk_at "go"
      refine ⟨by show 2 ≤ sizeLine; decide, fun p0 hp0 => ?_⟩
      have f0 : Fr [] H (upd H p0 (.tup [.str "both", .str "then"])) := Fr.new hp0
      refine rd_inV (b := true) upd_same rfl rfl (by decide +kernel) ?_
      generalize upd H p0 (.tup [.str "both", .str "then"]) = H1 at *
      walk_at "go"
      refine rd_ixT (SqT.of (f0.tp ex)) rfl ?_
      walk_at "go"
      refine ⟨pi, o, rfl, hpi.fr f0, gok, grow, gnm, fun ys ey H2 q eq hq f2 => ?_, fun en H2 f2 => ?_⟩
      · have f := f0.tr f2
        have ea := f.at e (by simp)
        walk_at "go"
        refine ⟨rfl, ?_⟩
        walk_at "go"
        refine rd_F (by intro z; cases z) ?_
        walk_at "go"
        refine rd_T rfl ?_
        walk_at "go"
        have hyl := Ch.row_len ey gok
        refine ⟨a, q, _, _, rfl, rfl, ea, eq, ?_, fun p hp => ?_⟩
        · rw [List.length_map, List.length_map]
          exact Nat.le_trans (show xs.length + ys.length ≤ 20000 by omega) (by decide)
        · exact k1 (xs ++ ys) (by show o.row.map _ = _; rw [ey]; rfl) _ p (by rw [upd_same, List.map_append]) (f.free (by simp) hp) (f.newN hp)
      · walk_at "go"
        refine ⟨rfl, ?_⟩
        walk_at "go"
        refine rd_T rfl ?_
        walk_at "go"
        exact k2 (by show o.row.map _ = none; rw [en]; rfl) H2 (f0.tr f2)
end
end Dc

set_option Elab.async false
set_option linter.all false
set_option maxRecDepth 100000
set_option maxHeartbeats 2000000
namespace Dc
open PySem PySem.Spec PyProof.Rows L2
local macro_rules | `(tactic| walk_at "ne") => `(tactic| first | assumption | (refine Ne.symm ?_; assumption) | exact ne_of (by assumption) (by assumption) (by intro q; cases q) | exact ne_of_none (by assumption) (by assumption) | exact Ne.symm (ne_of_none (by assumption) (by assumption)))
local macro_rules | `(tactic| walk_at "hp") => `(tactic| first | assumption | exact upd_same | (refine upd_keep ?_ (by assumption); walk_at "hp") | (refine upd_other ?_ ?_; · walk_at "ne"; · walk_at "hp"))
local macro_rules | `(tactic| walk_at "hl") => `(tactic| first | assumption | exact SqL.of (by walk_at "hp"))
local macro_rules | `(tactic| walk_at "ht") => `(tactic| first | assumption | exact SqT.of (by walk_at "hp"))
local macro_rules | `(tactic| walk_at "rd1") => `(tactic| first
  | ((with_reducible apply rd_var); exact rfl)
  | ((with_reducible apply rd_eq); exact rfl) | ((with_reducible apply rd_ne); exact rfl)
  | with_reducible first
  | refine iteT ?_ | refine iteF ?_ | refine rd_nF ?_ | refine rd_nT ?_ | refine rd_yes ?_ | refine rd_c ?_ | refine rd_op ?_ | refine rd_un ?_ | refine rd_test ?_ | refine rd_B ?_ | refine rd_bl ?_ | refine rd_seq ?_ | refine rd_next ?_ | refine rd_ifs ?_ | refine rd_asg ?_ | refine rd_name ?_ | refine rd_ret ?_ | refine rd_drop ?_
  | refine rd_call ?_ | refine rd_cons ?_ | refine rd_nil ?_ | refine rd_cb ?_ | refine rd_I0 ?_ | refine rd_U ?_ | refine rd_gsub ?_ | refine rd_lst ?_ | refine rd_tup ?_ | refine rd_if ?_ | refine rd_not ?_ | refine rd_rng1 ?_ | refine rd_itup ?_ | refine rd_ilst ?_ | refine rd_bm ?_ | refine rd_bm0 ?_ | refine rd_andV ?_ | refine rd_orV ?_ | refine rd_notV ?_)
local macro_rules | `(tactic| walk_at "rd") => `(tactic| repeat walk_at "rd1")
local macro_rules | `(tactic| walk_at "ci") => `(tactic| first | assumption | (show (0 : Int) < _; first | decide | omega) | exact ⟨by decide, by decide⟩ | exact Or.inr ⟨by decide, by decide⟩ | exact Or.inl ⟨by decide, by decide⟩ | exact ⟨by decide, by decide, by decide⟩ | exact Or.inl ⟨by omega, by omega⟩ | exact Or.inr ⟨by omega, by omega⟩)
local macro_rules | `(tactic| walk_at "ix") => `(tactic| first
  | ((with_reducible apply rd_ixL); (walk_at "hl"); exact rfl)
  | ((with_reducible apply rd_ixT); (walk_at "ht"); exact rfl)
  | ((with_reducible apply rd_lenL); (walk_at "hl"))
  | ((with_reducible apply rd_lenT); (walk_at "ht"))
  | ((with_reducible apply rd_tupOf); (walk_at "hl"))
  | ((with_reducible apply rd_listOf); (walk_at "hl"))
  | (with_reducible refine rd_min2 ?_)
  | ((with_reducible apply rd_I); (walk_at "ci"))
  | ((with_reducible apply rd_setL); (walk_at "hp"); exact rfl))
local macro_rules | `(tactic| walk_at "gs") => `(tactic| repeat first | walk_at "rd1" | walk_at "ix")
local macro_rules | `(tactic| walk_at "go") => `(tactic| repeat first | walk_at "rd1" | walk_at "ix" | with_reducible refine rd_and ?_ | with_reducible refine rd_or ?_)
local macro_rules | `(tactic| walk_at "fo") => `(tactic| (with_reducible refine rd_for ?_))
local macro_rules | `(tactic| walk_at "pm") => `(tactic| repeat first
  | with_reducible first | refine rd_pcons ?_ | refine rd_pstr ?_ | refine rd_pcap ?_ | refine rd_pwild ?_ | refine rd_pnil ?_ | refine rd_por ?_ | refine rd_pno ?_
  | ((with_reducible refine rd_eq rfl ?_); refine ⟨_, rfl, ?_⟩; first | refine rd_T rfl ?_ | refine rd_F (by decide) ?_)
  | dsimp only [List.nil_append, List.singleton_append, List.cons_append, setAll])
local macro_rules | `(tactic| walk_at "pc") => `(tactic| (refine rd_case ?_); (first | (refine rd_phit (SqT.of (by assumption)) rfl ?_) | (refine rd_pmiss (SqT.of (by assumption)) (by simp) ?_)); (walk_at "pm"))

/-! ### a good chain is let by -/
theorem rd_chain {r r' : R2} {ta tb tc : TE} {σ : L2.St} {H : Hp} {Q : VK} (h : ta σ H fun x H1 => tb σ H1 fun y H2 => r x y H2 fun z H3 => ∃ k, z = .bl k ∧ (if k = true then tc σ H3 fun w' H4 => r' y w' H4 Q else Q (.bl false) H3)) : tChain r r' ta tb tc σ H Q := h
theorem isi_int_bool : kitB "int" "bool" = some false := by decide +kernel
theorem isi_int_int : kitB "int" "int" = some true := by decide +kernel
theorem isi_tuple : kitB "tuple" "tuple" = some true := by decide +kernel
theorem tyx_tup {K : PySem.W.Frag} {H : Hp} {a : Addr} {xs : List V} (h : H a = some (.tup xs)) : TyX K H (.ref a) (.type "tuple") := .base (.tup h)
theorem tyx_int {K : PySem.W.Frag} {H : Hp} {n : Int} : TyX K H (.int n) (.type "int") := .base (.int n)
def spIsNumber : Sp := fun vs H Q _ => ∃ n : Int, vs = [.int n] ∧ numOk n ∧ Q (.bl true) H
def spIsWithin : Sp := fun vs H Q _ => ∃ n lo hi : Int, vs = [.int n, .int lo, .int hi] ∧ numOk n ∧ lo ≤ n ∧ n ≤ hi ∧ Q (.bl true) H
def spIsRow : Sp := fun vs H Q _ => ∃ (r : Addr) (ns : List Int), vs = [.ref r] ∧ H r = some (.tup (ns.map V.int)) ∧ ns.length ≤ 100 ∧ (∀ n ∈ ns, numOk n) ∧ ∀ H', Fr [] H H' → Q (.bl true) H'
def spIsMaker : Sp := fun vs H Q _ => ∃ (a : Addr) (k : Mkr), vs = [.ref a] ∧ MkAt H a k ∧ k.ok ∧ ∀ H', Fr [] H H' → Q (.bl true) H'
section
variable {P : Program} {w : World} {K : PySem.W.Frag} {mg : Str → Option Value} {base : Heap} {f f2 : Addr} {fd fd2 : FuncData}
theorem sc_is_number : FnScope ["number"] ["number"] (defScope s_is_number) := ⟨rfl, rfl, rfl, by decide +kernel, rfl, by decide +kernel, by decide +kernel⟩
theorem ok_is_number (T : Txt K mg) (F : FnP K "is_number" "is_number" s_is_number f fd) : FnOk P w K mg base CX0 1 f fd ["number"] spIsNumber := by
  refine ok0 F sc_is_number (fun vs H Q E h => ?_) (fun cdv A outer s H vs Q E hr h => ?_)
  · obtain ⟨n, rfl, _⟩ := h
    rfl
  · obtain ⟨n, rfl, hn, k⟩ := h
    refine ⟨_, (pss_cons (ps_if (PW.pt (pw_or (pt_val (pe_callB (call_isiK1 K) (by rfl) T.free_isinstance (by decide +kernel) (pa_cons (pv 0) (pa_cons (pe_bltn (v := .ty "bool") (u := .type "bool") (by rfl) T.free_bool (by decide +kernel) rfl) pa_nil)))) (pw_or1 (pt_not (pt_val (pe_callB (call_isiK1 K) (by rfl) T.free_isinstance (by decide +kernel) (pa_cons (pv 0) (pa_cons (pe_bltn (v := .ty "int") (u := .type "int") (by rfl) T.free_int (by decide +kernel) rfl) pa_nil))))))))
    (pss_one (ps_ret pe_bl)) pss_nil)
  (pss_one (ps_ret (pe_chain op_lt op_lt (pe_un un_neg (pe_cint T.c_FIRST_TOO_LARGE)) (pv 0) (pe_cint T.c_FIRST_TOO_LARGE))))), ?_⟩
    try dsimp only [cxOf, Cx.nox, Cx.wish]
    refine rd_at (σ' := [some (.int n)]) rfl ?_
    walk_at "go"
    refine rd_isi tyx_int isi_int_bool ?_
    walk_at "go"
    refine rd_isi tyx_int isi_int_int ?_
    walk_at "go"
    refine rd_chain ?_
    walk_at "go"
    refine rd_T hn.1 ?_
    walk_at "go"
    have h2 : n < 1000000000000000000000000000000 := by have := hn.2; omega
    rw [decide_eq_true h2]
    exact k
theorem sc_is_within : FnScope ["number", "low", "high"] ["number", "low", "high"] (defScope s_is_within) := ⟨rfl, rfl, rfl, by decide +kernel, rfl, by decide +kernel, by decide +kernel⟩
theorem ok_is_within (T : Txt K mg) (F : FnP K "is_within" "is_within" s_is_within f fd) (G_is_number : Cal P w K mg base CX0 1 "is_number" ["number"] spIsNumber) : FnOk P w K mg base CX0 2 f fd ["number", "low", "high"] spIsWithin := by
  refine ok0 F sc_is_within (fun vs H Q E h => ?_) (fun cdv A outer s H vs Q E hr h => ?_)
  · obtain ⟨n, lo, hi, rfl, _⟩ := h
    rfl
  · obtain ⟨n, lo, hi, rfl, hn, h1, h2, k⟩ := h
    refine ⟨_, (pss_one (ps_ret (pe_and (pe_cal G_is_number (hr.mono (by omega)) pass0 (pa_cons (pv 0) pa_nil)) (pe_one (pe_chain op_le op_le (pv 1) (pv 0) (pv 2)))))), ?_⟩
    try dsimp only [cxOf, Cx.nox, Cx.wish]
    refine rd_at (σ' := [some (.int n), some (.int lo), some (.int hi)]) rfl ?_
    walk_at "go"
    refine ⟨n, rfl, hn, ?_⟩
    walk_at "go"
    refine rd_chain ?_
    walk_at "go"
    refine rd_T h1 ?_
    walk_at "go"
    rw [decide_eq_true h2]
    exact k
theorem sc_is_row : FnScope ["numbers", "number"] ["numbers"] (defScope s_is_row) := ⟨rfl, rfl, rfl, by decide +kernel, rfl, by decide +kernel, by decide +kernel⟩
theorem ok_is_row (T : Txt K mg) (F : FnP K "is_row" "is_row" s_is_row f fd) (G_is_number : Cal P w K mg base CX0 1 "is_number" ["number"] spIsNumber) : FnOk P w K mg base CX0 2 f fd ["numbers"] spIsRow := by
  refine ok0 F sc_is_row (fun vs H Q E h => ?_) (fun cdv A outer s H vs Q E hr h => ?_)
  · obtain ⟨r, ns, rfl, _⟩ := h
    rfl
  · obtain ⟨r, ns, rfl, er, hl, hn, k⟩ := h
    refine ⟨_, (pss_cons (ps_if (PW.pt (pw_or (pt_not (pt_val (pe_callB (call_isiK1 K) (by rfl) T.free_isinstance (by decide +kernel) (pa_cons (pv 0) (pa_cons (pe_bltn (v := .ty "tuple") (u := .type "tuple") (by rfl) T.free_tuple (by decide +kernel) rfl) pa_nil))))) (pw_or1 (pt_cmpR op_gt (pe_callB (call_len1K K) (by rfl) T.free_len (by decide +kernel) (pa_cons (pv 0) pa_nil)) (pe_cint T.c_ROW_AT_MOST) (nomark _)))))
    (pss_one (ps_ret pe_bl)) pss_nil)
  (pss_one (ps_ret (pe_callB (cr_allK K rfl) (by rfl) T.free_all (by decide +kernel) (pa_cons (pe_lc (own := [("number", 1)]) (g := gName 1) rfl sc_is_row.nd (pi_tup (pv 0)) (blkOk_by (N := ["numbers", "number"]) (sc := defScope s_is_row) (by decide +kernel)) (fun _ _ _ _ _ => pg_name (i := 1) sc_is_row.nd rfl (Or.inl rfl)) (fun _ _ _ _ _ => pts_nil) (fun _ _ _ _ _ => (pe_cal G_is_number (hr.mono (by omega)) pass0 (pa_cons (pv 1) pa_nil)))) pa_nil))))), ?_⟩
    try dsimp only [cxOf, Cx.nox, Cx.wish]
    refine rd_at (σ' := [some (.ref r), none]) rfl ?_
    walk_at "go"
    refine rd_isi (tyx_tup er) isi_tuple ?_
    walk_at "go"
    refine rd_F (by rw [List.length_map]; omega) ?_
    walk_at "go"
    refine ⟨_, rfl, r, rfl, ⟨_, SqT.of er⟩, fun D hD => ?_⟩
    refine lc_tup (K := K) (a := r) (xs := ns.map V.int) (fun i H1 => H1 D = some (.lst ((List.replicate i true).map V.bl)) ∧ Fr [] H H1) ⟨upd_same, Fr.new hD⟩ (fun i H1 _ ⟨_, fr⟩ => SqT.of (fr.tp er)) ?_ ?_
    · rintro i y H1 hi ⟨e1, f1⟩
      obtain ⟨n, rfl, hn'⟩ : ∃ n, y = V.int n ∧ numOk n := by
        rw [List.getElem?_map] at hi
        cases e : ns[i]? with
        | none => rw [e] at hi; cases hi
        | some z => rw [e] at hi; exact ⟨z, (Option.some.inj hi).symm, hn z (List.mem_of_getElem? e)⟩
      have il : i < ns.length := by have := (List.getElem?_eq_some_iff.mp hi).1; rwa [List.length_map] at this
      walk_at "go"
      refine ⟨rfl, ?_⟩
      walk_at "go"
      refine ⟨n, rfl, hn', _, e1, by rw [List.length_map, List.length_replicate]; exact Nat.lt_of_lt_of_le il (Nat.le_trans hl (by decide)), ?_, f1.trans (Fr.put (S := [D]) (by simp) (nt e1)) fun b hb => ?_⟩
      · rw [upd_same, List.replicate_succ', List.map_append]
        rfl
      · rw [List.mem_singleton] at hb
        rw [hb]; exact .inr hD
    · rintro H1 ⟨e1, f1⟩
      walk_at "go"
      refine ⟨D, _, rfl, SqL.of e1, ?_⟩
      have z : (List.replicate (ns.map V.int).length true).all id = true := by simp
      rw [z]
      exact k _ f1
theorem sc_is_maker : FnScope ["maker", "begin", "step", "numbers"] ["maker"] (defScope s_is_maker) := ⟨rfl, rfl, rfl, by decide +kernel, rfl, by decide +kernel, by decide +kernel⟩
theorem ok_is_maker (T : Txt K mg) (F : FnP K "is_maker" "is_maker" s_is_maker f fd) (G_is_number : Cal P w K mg base CX0 1 "is_number" ["number"] spIsNumber) (G_is_row : Cal P w K mg base CX0 2 "is_row" ["numbers"] spIsRow) : FnOk P w K mg base CX0 3 f fd ["maker"] spIsMaker := by
  refine ok0 F sc_is_maker (fun vs H Q E h => ?_) (fun cdv A outer s H vs Q E hr h => ?_)
  · obtain ⟨a, kk, rfl, _⟩ := h
    rfl
  · obtain ⟨a, kk, rfl, ea, hk, k⟩ := h
    refine ⟨_, (pss_cons (ps_if (pt_not (pt_val (pe_callB (call_isiK1 K) (by rfl) T.free_isinstance (by decide +kernel) (pa_cons (pv 0) (pa_cons (pe_bltn (v := .ty "tuple") (u := .type "tuple") (by rfl) T.free_tuple (by decide +kernel) rfl) pa_nil)))))
    (pss_one (ps_ret pe_bl)) pss_nil)
  (pss_cons (ps_match (pv 0)
    (pc_cons (is := [1, 2]) sc_is_maker.nd (pat_seq rfl (pp_cons (pat_str op_eq) (pp_cons pat_cap (pp_cons pat_cap pp_nil)))) rfl (all_local (by rfl))
      (pss_one (ps_ret (pe_and (pe_cal G_is_number (hr.mono (by omega)) pass0 (pa_cons (pv 1) pa_nil)) (pe_one (pe_cal G_is_number (hr.mono (by omega)) pass0 (pa_cons (pv 2) pa_nil))))))
    (pc_cons (is := [3]) sc_is_maker.nd (pat_seq rfl (pp_cons (pat_str op_eq) (pp_cons pat_cap pp_nil))) rfl (all_local (by rfl))
      (pss_one (ps_ret (pe_cal G_is_row (hr.mono (by omega)) pass0 (pa_cons (pv 3) pa_nil))))
    pc_nil)))
  (pss_one (ps_ret pe_bl)))), ?_⟩
    try dsimp only [cxOf, Cx.nox, Cx.wish]
    refine rd_at (σ' := [some (.ref a)] ++ List.replicate (["maker", "begin", "step", "numbers"].length - 1) none) rfl ?_
    cases kk with
    | count b st =>
      simp only [MkAt] at ea
      walk_at "go"
      refine rd_isi (tyx_tup ea) isi_tuple ?_
      walk_at "go"
      refine rd_match ?_
      walk_at "go"
      repeat walk_at "pc"
      walk_at "go"
      refine ⟨b, rfl, hk.1, ?_⟩
      walk_at "go"
      refine ⟨st, rfl, hk.2, ?_⟩
      exact k _ (Fr.refl _ _)
    | row ns =>
      obtain ⟨r, ea, er⟩ := ea
      walk_at "go"
      refine rd_isi (tyx_tup ea) isi_tuple ?_
      walk_at "go"
      refine rd_match ?_
      walk_at "go"
      repeat walk_at "pc"
      walk_at "go"
      exact ⟨r, ns, rfl, er, hk.1, hk.2, k⟩
end
end Dc

set_option Elab.async false
set_option linter.all false
set_option maxRecDepth 100000
set_option maxHeartbeats 2000000
namespace Dc
open PySem PySem.Spec PyProof.Rows L2
local macro_rules | `(tactic| walk_at "ne") => `(tactic| first | assumption | (refine Ne.symm ?_; assumption) | exact ne_of (by assumption) (by assumption) (by intro q; cases q) | exact ne_of_none (by assumption) (by assumption) | exact Ne.symm (ne_of_none (by assumption) (by assumption)))
local macro_rules | `(tactic| walk_at "hp") => `(tactic| first | assumption | exact upd_same | (refine upd_keep ?_ (by assumption); walk_at "hp") | (refine upd_other ?_ ?_; · walk_at "ne"; · walk_at "hp"))
local macro_rules | `(tactic| walk_at "hl") => `(tactic| first | assumption | exact SqL.of (by walk_at "hp"))
local macro_rules | `(tactic| walk_at "ht") => `(tactic| first | assumption | exact SqT.of (by walk_at "hp"))
local macro_rules | `(tactic| walk_at "rd1") => `(tactic| first
  | ((with_reducible apply rd_var); exact rfl)
  | ((with_reducible apply rd_eq); exact rfl) | ((with_reducible apply rd_ne); exact rfl)
  | with_reducible first
  | refine iteT ?_ | refine iteF ?_ | refine rd_nF ?_ | refine rd_nT ?_ | refine rd_yes ?_ | refine rd_c ?_ | refine rd_op ?_ | refine rd_un ?_ | refine rd_test ?_ | refine rd_B ?_ | refine rd_bl ?_ | refine rd_seq ?_ | refine rd_next ?_ | refine rd_ifs ?_ | refine rd_asg ?_ | refine rd_name ?_ | refine rd_ret ?_ | refine rd_drop ?_
  | refine rd_call ?_ | refine rd_cons ?_ | refine rd_nil ?_ | refine rd_cb ?_ | refine rd_I0 ?_ | refine rd_U ?_ | refine rd_gsub ?_ | refine rd_lst ?_ | refine rd_tup ?_ | refine rd_if ?_ | refine rd_not ?_ | refine rd_rng1 ?_ | refine rd_itup ?_ | refine rd_ilst ?_ | refine rd_bm ?_ | refine rd_bm0 ?_ | refine rd_andV ?_ | refine rd_orV ?_ | refine rd_notV ?_)
local macro_rules | `(tactic| walk_at "rd") => `(tactic| repeat walk_at "rd1")
local macro_rules | `(tactic| walk_at "ci") => `(tactic| first | assumption | (show (0 : Int) < _; first | decide | omega) | exact ⟨by decide, by decide⟩ | exact Or.inr ⟨by decide, by decide⟩ | exact Or.inl ⟨by decide, by decide⟩ | exact ⟨by decide, by decide, by decide⟩ | exact Or.inl ⟨by omega, by omega⟩ | exact Or.inr ⟨by omega, by omega⟩)
local macro_rules | `(tactic| walk_at "ix") => `(tactic| first
  | ((with_reducible apply rd_ixL); (walk_at "hl"); exact rfl)
  | ((with_reducible apply rd_ixT); (walk_at "ht"); exact rfl)
  | ((with_reducible apply rd_lenL); (walk_at "hl"))
  | ((with_reducible apply rd_lenT); (walk_at "ht"))
  | ((with_reducible apply rd_tupOf); (walk_at "hl"))
  | ((with_reducible apply rd_listOf); (walk_at "hl"))
  | (with_reducible refine rd_min2 ?_)
  | ((with_reducible apply rd_I); (walk_at "ci"))
  | ((with_reducible apply rd_setL); (walk_at "hp"); exact rfl))
local macro_rules | `(tactic| walk_at "gs") => `(tactic| repeat first | walk_at "rd1" | walk_at "ix")
local macro_rules | `(tactic| walk_at "go") => `(tactic| repeat first | walk_at "rd1" | walk_at "ix" | with_reducible refine rd_and ?_ | with_reducible refine rd_or ?_)
local macro_rules | `(tactic| walk_at "fo") => `(tactic| (with_reducible refine rd_for ?_))
local macro_rules | `(tactic| walk_at "pm") => `(tactic| repeat first
  | with_reducible first | refine rd_pcons ?_ | refine rd_pstr ?_ | refine rd_pcap ?_ | refine rd_pwild ?_ | refine rd_pnil ?_ | refine rd_por ?_ | refine rd_pno ?_
  | ((with_reducible refine rd_eq rfl ?_); refine ⟨_, rfl, ?_⟩; first | refine rd_T rfl ?_ | refine rd_F (by decide) ?_)
  | dsimp only [List.nil_append, List.singleton_append, List.cons_append, setAll])
local macro_rules | `(tactic| walk_at "pc") => `(tactic| (refine rd_case ?_); (first | (refine rd_phit (SqT.of (by assumption)) rfl ?_) | (refine rd_pmiss (SqT.of (by assumption)) (by simp) ?_)); (walk_at "pm"))

def Sg.nest : Sg → Bool
  | .one _ => false
  | _ => true
def spIsStage : Sp := fun vs H Q _ => ∃ (x : Addr) (g : Sg), vs = [.ref x] ∧ SgAt H x g ∧ g.ok ∧ Q (.bl true) H
def spHasChain : Sp := fun vs H Q _ => ∃ (x : Addr) (g : Sg), vs = [.ref x] ∧ SgAt H x g ∧ ∀ H', Fr [] H H' → Q (.bl g.nest) H'
def spIsPair : Sp := fun vs H Q _ => ∃ (p m ss : Addr) (bs : List Addr), vs = [.ref p] ∧ H p = some (.tup [.ref m, .ref ss]) ∧ H ss = some (.tup (bs.map V.ref)) ∧ Q (.bl true) H
section
variable {P : Program} {w : World} {K : PySem.W.Frag} {mg : Str → Option Value} {base : Heap} {f f2 : Addr} {fd fd2 : FuncData}
theorem sc_is_stage : FnScope ["stage", "n", "rest", "wheel", "many"] ["stage"] (defScope s_is_stage) := ⟨rfl, rfl, rfl, by decide +kernel, rfl, by decide +kernel, by decide +kernel⟩
theorem ok_is_stage (T : Txt K mg) (F : FnP K "is_stage" "is_stage" s_is_stage f fd) (G_is_number : Cal P w K mg base CX0 1 "is_number" ["number"] spIsNumber) (G_is_within : Cal P w K mg base CX0 2 "is_within" ["number", "low", "high"] spIsWithin) : FnOk P w K mg base CX0 3 f fd ["stage"] spIsStage := by
  refine ok0 F sc_is_stage (fun vs H Q E h => ?_) (fun cdv A outer s H vs Q E hr h => ?_)
  · obtain ⟨x, g, rfl, _⟩ := h
    rfl
  · obtain ⟨x, g, rfl, ea, hg, k⟩ := h
    refine ⟨_, (pss_cons (ps_if (pt_not (pt_val (pe_callB (call_isiK1 K) (by rfl) T.free_isinstance (by decide +kernel) (pa_cons (pv 0) (pa_cons (pe_bltn (v := .ty "tuple") (u := .type "tuple") (by rfl) T.free_tuple (by decide +kernel) rfl) pa_nil)))))
    (pss_one (ps_ret pe_bl)) pss_nil)
  (pss_cons (ps_match (pv 0)
    (pc_cons (is := [1]) sc_is_stage.nd (pat_seq rfl (pp_cons (pat_or (pf_cons (pat_str op_eq) (pf_cons (pat_str op_eq) (pf_cons (pat_str op_eq) pf_nil)))) (pp_cons pat_cap pp_nil))) rfl (all_local (by rfl))
      (pss_one (ps_ret (pe_cal G_is_number (hr.mono (by omega)) pass0 (pa_cons (pv 1) pa_nil))))
    (pc_cons (is := [2, 3]) sc_is_stage.nd (pat_seq rfl (pp_cons (pat_str op_eq) (pp_cons pat_cap (pp_cons pat_cap pp_nil)))) rfl (all_local (by rfl))
      (pss_one (ps_ret (pe_and (pe_cal G_is_within (hr.mono (by omega)) pass0 (pa_cons (pv 3) (pa_cons pe_int (pa_cons pe_int pa_nil)))) (pe_one (pe_cal G_is_within (hr.mono (by omega)) pass0 (pa_cons (pv 2) (pa_cons pe_int (pa_cons (pe_op op_sub (pv 3) pe_int) pa_nil))))))))
    (pc_cons (is := [4]) sc_is_stage.nd (pat_seq rfl (pp_cons (pat_or (pf_cons (pat_str op_eq) (pf_cons (pat_str op_eq) pf_nil))) (pp_cons pat_cap pp_nil))) rfl (all_local (by rfl))
      (pss_one (ps_ret (pe_cal G_is_within (hr.mono (by omega)) pass0 (pa_cons (pv 4) (pa_cons pe_int (pa_cons pe_int pa_nil))))))
    (pc_cons (is := [4]) sc_is_stage.nd (pat_seq rfl (pp_cons (pat_str op_eq) (pp_cons pat_cap pp_nil))) rfl (all_local (by rfl))
      (pss_one (ps_ret (pe_cal G_is_within (hr.mono (by omega)) pass0 (pa_cons (pv 4) (pa_cons pe_int (pa_cons pe_int pa_nil))))))
    (pc_cons (is := []) sc_is_stage.nd (pat_seq rfl (pp_cons (pat_str op_eq) pp_nil)) rfl (all_local (by rfl))
      (pss_one (ps_ret pe_bl))
    (pc_cons (is := []) sc_is_stage.nd (pat_seq rfl (pp_cons (pat_or (pf_cons (pat_str op_eq) (pf_cons (pat_str op_eq) pf_nil))) (pp_cons pat_wild pp_nil))) rfl (all_local (by rfl))
      (pss_one (ps_ret pe_bl))
    pc_nil)))))))
  (pss_one (ps_ret pe_bl)))), ?_⟩
    try dsimp only [cxOf, Cx.nox, Cx.wish]
    refine rd_at (σ' := [some (.ref x)] ++ List.replicate (["stage", "n", "rest", "wheel", "many"].length - 1) none) rfl ?_
    obtain ⟨vs, ev⟩ : ∃ vs, H x = some (.tup vs) := by
      cases g with
      | one kd => exact ⟨_, ea⟩
      | both o => obtain ⟨p, h, _⟩ := ea; exact ⟨_, h⟩
      | thn o => obtain ⟨p, h, _⟩ := ea; exact ⟨_, h⟩
    walk_at "go"
    refine rd_isi (tyx_tup ev) isi_tuple ?_
    walk_at "go"
    clear ev vs
    refine rd_match ?_
    walk_at "go"
    cases g with
    | one kd =>
      cases kd with
      | add n =>
        simp only [SgAt, Kd.vals] at ea
        repeat walk_at "pc"
        walk_at "go"
        exact ⟨n, rfl, hg, k⟩
      | times n =>
        simp only [SgAt, Kd.vals] at ea
        repeat walk_at "pc"
        walk_at "go"
        exact ⟨n, rfl, hg.1, k⟩
      | keep r wh =>
        simp only [SgAt, Kd.vals] at ea
        repeat walk_at "pc"
        walk_at "go"
        refine ⟨wh, 2, 1000, rfl, by have := hg.1; have := hg.2.1; unfold numOk; omega, hg.1, hg.2.1, ?_⟩
        walk_at "go"
        exact ⟨r, 0, wh - 1, rfl, by have := hg.1; have := hg.2; unfold numOk; omega, hg.2.2.1, by have := hg.2.2.2; omega, k⟩
      | drop n =>
        simp only [SgAt, Kd.vals] at ea
        repeat walk_at "pc"
        walk_at "go"
        exact ⟨n, 0, 100, rfl, by have := hg.1; have := hg.2; unfold numOk; omega, hg.1, hg.2, k⟩
      | take n =>
        simp only [SgAt, Kd.vals] at ea
        repeat walk_at "pc"
        walk_at "go"
        exact ⟨n, 0, 100, rfl, by have := hg.1; have := hg.2; unfold numOk; omega, hg.1, hg.2, k⟩
      | each n =>
        simp only [SgAt, Kd.vals] at ea
        repeat walk_at "pc"
        walk_at "go"
        exact ⟨n, 1, 10, rfl, by have := hg.1; have := hg.2; unfold numOk; omega, hg.1, hg.2, k⟩
      | «until» n =>
        simp only [SgAt, Kd.vals] at ea
        repeat walk_at "pc"
        walk_at "go"
        exact ⟨n, rfl, hg, k⟩
      | unlike =>
        simp only [SgAt, Kd.vals] at ea
        repeat walk_at "pc"
        walk_at "go"
        exact k
    | both o =>
      obtain ⟨p, ea, _⟩ := ea
      repeat walk_at "pc"
      walk_at "go"
      exact k
    | thn o =>
      obtain ⟨p, ea, _⟩ := ea
      repeat walk_at "pc"
      walk_at "go"
      exact k
theorem sc_has_chain : FnScope ["stage"] ["stage"] (defScope s_has_chain) := ⟨rfl, rfl, rfl, by decide +kernel, rfl, by decide +kernel, by decide +kernel⟩
theorem ok_has_chain (T : Txt K mg) (F : FnP K "has_chain" "has_chain" s_has_chain f fd) : FnOk P w K mg base CX0 1 f fd ["stage"] spHasChain := by
  refine ok0 F sc_has_chain (fun vs H Q E h => ?_) (fun cdv A outer s H vs Q E hr h => ?_)
  · obtain ⟨x, g, rfl, _⟩ := h
    rfl
  · obtain ⟨x, g, rfl, ea, k⟩ := h
    refine ⟨_, (pss_one (ps_ret (pe_cmpR (op_in_seqK K) (pe_ix (ix_tupK K) (pv 0) pe_int (fun _ _ => rfl)) (pe_tup (pa_cons pe_str (pa_cons pe_str pa_nil))) (by rfl)))), ?_⟩
    try dsimp only [cxOf, Cx.nox, Cx.wish]
    refine rd_at (σ' := [some (.ref x)]) rfl ?_
    walk_at "go"
    obtain ⟨vs, nm, ev, e0, hb⟩ : ∃ vs nm, H x = some (.tup vs) ∧ atI vs 0 = some (.str nm) ∧ inV (.str nm) [.str "both", .str "then"] = g.nest := by
      cases g with
      | one kd => exact ⟨_, kd.name, ea, kd.at0, by cases kd <;> (simp only [Kd.name, Sg.nest]; decide +kernel)⟩
      | both o => obtain ⟨p, h, _⟩ := ea; exact ⟨_, "both", h, rfl, by show inV _ _ = true; decide +kernel⟩
      | thn o => obtain ⟨p, h, _⟩ := ea; exact ⟨_, "then", h, rfl, by show inV _ _ = true; decide +kernel⟩
    refine rd_ixT (SqT.of ev) e0 ?_
    walk_at "go"
    refine ⟨by show 2 ≤ sizeLine; decide, fun p hp => ?_⟩
    refine ⟨p, _, rfl, .inr (SqT.of upd_same), rfl, rfl, ?_⟩
    rw [if_neg (by decide), hb]
    exact k _ (Fr.new hp)
theorem sc_is_pair : FnScope ["part"] ["part"] (defScope s_is_pair) := ⟨rfl, rfl, rfl, by decide +kernel, rfl, by decide +kernel, by decide +kernel⟩
theorem ok_is_pair (T : Txt K mg) (F : FnP K "is_pair" "is_pair" s_is_pair f fd) : FnOk P w K mg base CX0 1 f fd ["part"] spIsPair := by
  refine ok0 F sc_is_pair (fun vs H Q E h => ?_) (fun cdv A outer s H vs Q E hr h => ?_)
  · obtain ⟨p, m, ss, bs, rfl, _⟩ := h
    rfl
  · obtain ⟨p, m, ss, bs, rfl, ep, es, k⟩ := h
    refine ⟨_, (pss_one (ps_ret (pe_and (pe_callB (call_isiK1 K) (by rfl) T.free_isinstance (by decide +kernel) (pa_cons (pv 0) (pa_cons (pe_bltn (v := .ty "tuple") (u := .type "tuple") (by rfl) T.free_tuple (by decide +kernel) rfl) pa_nil))) (pe_and (pe_cmpR op_eq (pe_callB (call_len1K K) (by rfl) T.free_len (by decide +kernel) (pa_cons (pv 0) pa_nil)) pe_int (nomark _)) (pe_one (pe_callB (call_isiK1 K) (by rfl) T.free_isinstance (by decide +kernel) (pa_cons (pe_ix (ix_tupK K) (pv 0) pe_int (fun _ _ => rfl)) (pa_cons (pe_bltn (v := .ty "tuple") (u := .type "tuple") (by rfl) T.free_tuple (by decide +kernel) rfl) pa_nil)))))))), ?_⟩
    try dsimp only [cxOf, Cx.nox, Cx.wish]
    refine rd_at (σ' := [some (.ref p)]) rfl ?_
    walk_at "go"
    refine rd_isi (tyx_tup ep) isi_tuple ?_
    walk_at "go"
    refine rd_T rfl ?_
    walk_at "go"
    exact rd_isi (tyx_tup es) isi_tuple k
end
end Dc

set_option Elab.async false
set_option linter.all false
set_option maxRecDepth 100000
set_option maxHeartbeats 2000000
namespace Dc
open PySem PySem.Spec PyProof.Rows L2
local macro_rules | `(tactic| walk_at "ne") => `(tactic| first | assumption | (refine Ne.symm ?_; assumption) | exact ne_of (by assumption) (by assumption) (by intro q; cases q) | exact ne_of_none (by assumption) (by assumption) | exact Ne.symm (ne_of_none (by assumption) (by assumption)))
local macro_rules | `(tactic| walk_at "hp") => `(tactic| first | assumption | exact upd_same | (refine upd_keep ?_ (by assumption); walk_at "hp") | (refine upd_other ?_ ?_; · walk_at "ne"; · walk_at "hp"))
local macro_rules | `(tactic| walk_at "hl") => `(tactic| first | assumption | exact SqL.of (by walk_at "hp"))
local macro_rules | `(tactic| walk_at "ht") => `(tactic| first | assumption | exact SqT.of (by walk_at "hp"))
local macro_rules | `(tactic| walk_at "rd1") => `(tactic| first
  | ((with_reducible apply rd_var); exact rfl)
  | ((with_reducible apply rd_eq); exact rfl) | ((with_reducible apply rd_ne); exact rfl)
  | with_reducible first
  | refine iteT ?_ | refine iteF ?_ | refine rd_nF ?_ | refine rd_nT ?_ | refine rd_yes ?_ | refine rd_c ?_ | refine rd_op ?_ | refine rd_un ?_ | refine rd_test ?_ | refine rd_B ?_ | refine rd_bl ?_ | refine rd_seq ?_ | refine rd_next ?_ | refine rd_ifs ?_ | refine rd_asg ?_ | refine rd_name ?_ | refine rd_ret ?_ | refine rd_drop ?_
  | refine rd_call ?_ | refine rd_cons ?_ | refine rd_nil ?_ | refine rd_cb ?_ | refine rd_I0 ?_ | refine rd_U ?_ | refine rd_gsub ?_ | refine rd_lst ?_ | refine rd_tup ?_ | refine rd_if ?_ | refine rd_not ?_ | refine rd_rng1 ?_ | refine rd_itup ?_ | refine rd_ilst ?_ | refine rd_bm ?_ | refine rd_bm0 ?_ | refine rd_andV ?_ | refine rd_orV ?_ | refine rd_notV ?_)
local macro_rules | `(tactic| walk_at "rd") => `(tactic| repeat walk_at "rd1")
local macro_rules | `(tactic| walk_at "ci") => `(tactic| first | assumption | (show (0 : Int) < _; first | decide | omega) | exact ⟨by decide, by decide⟩ | exact Or.inr ⟨by decide, by decide⟩ | exact Or.inl ⟨by decide, by decide⟩ | exact ⟨by decide, by decide, by decide⟩ | exact Or.inl ⟨by omega, by omega⟩ | exact Or.inr ⟨by omega, by omega⟩)
local macro_rules | `(tactic| walk_at "ix") => `(tactic| first
  | ((with_reducible apply rd_ixL); (walk_at "hl"); exact rfl)
  | ((with_reducible apply rd_ixT); (walk_at "ht"); exact rfl)
  | ((with_reducible apply rd_lenL); (walk_at "hl"))
  | ((with_reducible apply rd_lenT); (walk_at "ht"))
  | ((with_reducible apply rd_tupOf); (walk_at "hl"))
  | ((with_reducible apply rd_listOf); (walk_at "hl"))
  | (with_reducible refine rd_min2 ?_)
  | ((with_reducible apply rd_I); (walk_at "ci"))
  | ((with_reducible apply rd_setL); (walk_at "hp"); exact rfl))
local macro_rules | `(tactic| walk_at "gs") => `(tactic| repeat first | walk_at "rd1" | walk_at "ix")
local macro_rules | `(tactic| walk_at "go") => `(tactic| repeat first | walk_at "rd1" | walk_at "ix" | with_reducible refine rd_and ?_ | with_reducible refine rd_or ?_)
local macro_rules | `(tactic| walk_at "fo") => `(tactic| (with_reducible refine rd_for ?_))
local macro_rules | `(tactic| walk_at "pm") => `(tactic| repeat first
  | with_reducible first | refine rd_pcons ?_ | refine rd_pstr ?_ | refine rd_pcap ?_ | refine rd_pwild ?_ | refine rd_pnil ?_ | refine rd_por ?_ | refine rd_pno ?_
  | ((with_reducible refine rd_eq rfl ?_); refine ⟨_, rfl, ?_⟩; first | refine rd_T rfl ?_ | refine rd_F (by decide) ?_)
  | dsimp only [List.nil_append, List.singleton_append, List.cons_append, setAll])
local macro_rules | `(tactic| walk_at "pc") => `(tactic| (refine rd_case ?_); (first | (refine rd_phit (SqT.of (by assumption)) rfl ?_) | (refine rd_pmiss (SqT.of (by assumption)) (by simp) ?_)); (walk_at "pm"))

def spIsChain : Sp := fun vs H Q _ => ∃ (p : Addr) (c : Ch), vs = [.ref p] ∧ ChAt H p c ∧ c.ok ∧ c.nm ≤ 4 ∧ c.ns ≤ 12 ∧ ∀ H', Fr [] H H' → Q (.bl true) H'
def spCheck : Sp := fun vs H Q _ => ∃ (p : Addr) (c : Ch), vs = [.ref p] ∧ ChAt H p c ∧ c.ok ∧ c.nm ≤ 4 ∧ c.ns ≤ 12 ∧ ∀ H', Fr [] H H' → Q .non H'
/-- a statement that is not come to -/
theorem ps_dead {X : Cx} {st : Stmt} : PS X st (fun _ _ _ => False) := ⟨fun _ _ _ _ _ _ h => h.elim⟩
abbrev PL := List (Addr × Ch)
def PL.nm (L : PL) : Nat := (L.map fun x => x.2.nm).sum
def PL.ns (L : PL) : Nat := (L.map fun x => x.2.ns).sum
def PL.vs (L : PL) : List V := L.map fun x => V.ref x.1
theorem PL.nm_app (L M : PL) : PL.nm (L ++ M) = PL.nm L + PL.nm M := by unfold PL.nm; rw [List.map_append, List.sum_append]
theorem PL.ns_app (L M : PL) : PL.ns (L ++ M) = PL.ns L + PL.ns M := by unfold PL.ns; rw [List.map_append, List.sum_append]
theorem PL.nm_one (x : Addr × Ch) : PL.nm [x] = x.2.nm := by simp [PL.nm]
theorem PL.ns_one (x : Addr × Ch) : PL.ns [x] = x.2.ns := by simp [PL.ns]
theorem PL.len_le : ∀ L : PL, L.length ≤ PL.nm L
  | [] => Nat.le_refl _
  | x :: L => by
    have h1 := PL.len_le L
    have h2 := x.2.nm_pos
    have := PL.nm_app [x] L
    rw [PL.nm_one] at this
    have e : PL.nm (x :: L) = PL.nm ([x] ++ L) := rfl
    rw [List.length_cons, e, this]
    omega
theorem PL.vs_app (L M : PL) : PL.vs (L ++ M) = PL.vs L ++ PL.vs M := List.map_append
theorem Ch.of_sgs_len (c : Ch) : c.sgs.length = c.len := by
  induction c with
  | mkr m => rfl
  | st c k ih => show (c.sgs ++ [Sg.one k]).length = c.len + 1; rw [List.length_append, ih]; rfl
  | both c o ih _ => show (c.sgs ++ [Sg.both o]).length = c.len + 1; rw [List.length_append, ih]; rfl
  | thn c o ih _ => show (c.sgs ++ [Sg.thn o]).length = c.len + 1; rw [List.length_append, ih]; rfl
section
variable {P : Program} {w : World} {K : PySem.W.Frag} {mg : Str → Option Value} {base : Heap} {f f2 : Addr} {fd fd2 : FuncData}
theorem sc_is_chain : FnScope ["chain", "maker_count", "stage_count", "waiting", "part", "stage"] ["chain"] (defScope s_is_chain) := ⟨rfl, rfl, rfl, by decide +kernel, rfl, by decide +kernel, by decide +kernel⟩
theorem ok_is_chain (T : Txt K mg) (F : FnP K "is_chain" "is_chain" s_is_chain f fd) (G_is_pair : Cal P w K mg base CX0 1 "is_pair" ["part"] spIsPair) (G_is_maker : Cal P w K mg base CX0 3 "is_maker" ["maker"] spIsMaker)
    (G_is_stage : Cal P w K mg base CX0 3 "is_stage" ["stage"] spIsStage) (G_has_chain : Cal P w K mg base CX0 1 "has_chain" ["stage"] spHasChain) : FnOk P w K mg base CX0 4 f fd ["chain"] spIsChain := by
  refine ok0 F sc_is_chain (fun vs H Q E h => ?_) (fun cdv A outer s H vs Q E hr h => ?_)
  · obtain ⟨p, c, rfl, _⟩ := h
    rfl
  · obtain ⟨p, c, rfl, hc, hok, hm, hs, k⟩ := h
    refine ⟨_, (pss_cons (ps_set (i := 1) sc_is_chain.nd rfl (Or.inl rfl) pe_int)
  (pss_cons (ps_set (i := 2) sc_is_chain.nd rfl (Or.inl rfl) pe_int)
  (pss_cons (ps_set (i := 3) sc_is_chain.nd rfl (Or.inl rfl) (pe_lst (pa_cons (pv 0) pa_nil)))
  (pss_cons (ps_while PassesOwn.never (pt_truth (pv 3) (by intro _; rfl))
    (pss_cons (ps_set (i := 4) sc_is_chain.nd rfl (Or.inl rfl) (pe_bm0 PySem.F.plainAttrs_list PySem.F.slot_list_pop PySem.F.type_list_pop mt_pop (pv 3)))
    (pss_cons (ps_if (PW.pt (pw_or (pt_not (pt_val (pe_cal G_is_pair (hr.mono (by omega)) pass0 (pa_cons (pv 4) pa_nil)))) (pw_or1 (pt_not (pt_val (pe_cal G_is_maker (hr.mono (by omega)) pass0 (pa_cons (pe_ix (ix_tupK K) (pv 4) pe_int (fun _ _ => rfl)) pa_nil)))))))
      (pss_one (ps_ret pe_bl)) pss_nil)
    (pss_cons (ps_aug (i := 1) sc_is_chain.nd rfl (Or.inl rfl) pe_int ip_add)
    (pss_cons (ps_aug (i := 2) sc_is_chain.nd rfl (Or.inl rfl) (pe_callB (call_len1K K) (by rfl) T.free_len (by decide +kernel) (pa_cons (pe_ix (ix_tupK K) (pv 4) pe_int (fun _ _ => rfl)) pa_nil)) ip_add)
    (pss_cons (ps_if (PW.pt (pw_or (pt_cmpR op_gt (pv 1) (pe_cint T.c_MAKERS_AT_MOST) (nomark _)) (pw_or1 (pt_cmpR op_gt (pv 2) (pe_cint T.c_STAGES_AT_MOST) (nomark _)))))
      (pss_one (ps_ret pe_bl)) pss_nil)
    (pss_one (ps_for PassesOwn.never rfl (pi_tup (pe_ix (ix_tupK K) (pv 4) pe_int (fun _ _ => rfl))) (pg_name (i := 5) sc_is_chain.nd rfl (Or.inl rfl))
      (pss_cons (ps_if (pt_not (pt_val (pe_cal G_is_stage (hr.mono (by omega)) pass0 (pa_cons (pv 5) pa_nil))))
        (pss_one (ps_ret pe_bl)) pss_nil)
      (pss_one (ps_if (pt_val (pe_cal G_has_chain (hr.mono (by omega)) pass0 (pa_cons (pv 5) pa_nil)))
        (pss_one (ps_expr (pe_bm PySem.F.plainAttrs_list PySem.F.slot_list_append PySem.F.type_list_append mt_append (pv 3) (pa_cons (pe_ix (ix_tupK K) (pv 5) pe_int (fun _ _ => rfl)) pa_nil)))) pss_nil)))))))))))
  (pss_one (ps_ret pe_bl)))))), ?_⟩
    try dsimp only [cxOf, Cx.nox, Cx.wish]
    refine rd_at (σ' := [some (.ref p), none, none, none, none, none]) rfl ?_
    walk_at "go"
    refine ⟨by show 1 ≤ sizeLine; decide, fun l hl => ?_⟩
    walk_at "go"
    refine ⟨fun μ σ H' => ∃ (L : PL) (mc sc : Nat) (v1 v2 : Option V), σ = [some (.ref p), some (.int mc), some (.int sc), some (.ref l), v1, v2] ∧ H' l = some (.lst L.vs) ∧ (∀ x ∈ L, ChAt H' x.1 x.2 ∧ x.2.ok) ∧ mc + L.nm = c.nm ∧ sc + L.ns = c.ns ∧ Fr [] H H' ∧ μ = L.nm,
      ⟨c.nm, [(p, c)], 0, 0, none, none, rfl, upd_same, fun x hx => by rw [List.mem_singleton] at hx; subst hx; exact ⟨hc.fr (Fr.new (S := []) hl), hok⟩, by rw [PL.nm_one]; simp, by rw [PL.ns_one]; simp, Fr.new hl, by rw [PL.nm_one]⟩, ?_⟩
    rintro μ σ H' ⟨L, mc, sc, v1, v2, rfl, el, hL, h1, h2, fr, rfl⟩
    walk_at "go"
    rcases List.eq_nil_or_concat L with rfl | ⟨L', x, e⟩
    · refine ⟨false, .inl ⟨_, SqL.of el, rfl⟩, ?_⟩
      walk_at "go"
      exact k _ fr
    · rw [List.concat_eq_append] at e
      subst e
      refine ⟨true, .inl ⟨_, SqL.of el, by rw [PL.vs_app]; simp [PL.vs]⟩, ?_⟩
      rw [PL.nm_app, PL.nm_one] at h1
      rw [PL.ns_app, PL.ns_one] at h2
      obtain ⟨⟨mk, ss, bs, ep, ess, hst⟩, xok⟩ := hL x (by simp)
      have hg := hst.get
      have hxs := Ch.ok_sgs xok
      have xm := x.2.nm_pos
      have xl := x.2.len_le
      have bl : bs.length = x.2.len := by rw [hg.1, Ch.of_sgs_len]
      dsimp only
      refine iteT ?_
      refine ⟨fun σ' H' => ∃ μ', μ' < PL.nm (L' ++ [x]) ∧ _, fun σ' H' z => z, ?_⟩
      walk_at "go"
      refine ⟨.inl ⟨rfl, _, SqL.of el⟩, l, _, .ref x.1, rfl, rfl, el, by rw [PL.vs_app]; simp [PL.vs], ?_⟩
      have el1 : upd H' l (.lst (PL.vs (L' ++ [x])).dropLast) l = some (.lst (PL.vs L')) := by rw [upd_same, PL.vs_app]; simp [PL.vs]
      have f1 : Fr [l] H' (upd H' l (.lst (PL.vs (L' ++ [x])).dropLast)) := Fr.put (by simp) (nt el)
      have fr1 := fr.putN (o := .lst (PL.vs (L' ++ [x])).dropLast) (.inr hl) (nt el)
      have hL1 : ∀ y ∈ L', ChAt (upd H' l (.lst (PL.vs (L' ++ [x])).dropLast)) y.1 y.2 ∧ y.2.ok := fun y hy => ⟨(hL y (by simp [hy])).1.fr f1, (hL y (by simp [hy])).2⟩
      replace ep := f1.tp ep
      replace ess := f1.tp ess
      replace hst := hst.fr f1
      clear hL f1 fr el
      generalize upd H' l (.lst (PL.vs (L' ++ [x])).dropLast) = H1 at *
      walk_at "go"
      refine ⟨x.1, mk, ss, bs, rfl, ep, ess, ?_⟩
      walk_at "go"
      refine ⟨mk, x.2.root, rfl, hst.root, hxs.1, fun H2 f2 => ?_⟩
      replace ep := f2.tp ep
      replace ess := f2.tp ess
      replace hg := (hst.fr f2).get
      have fr2 := fr1.tr f2
      have el2 := f2.at el1 (by simp)
      have hL2 : ∀ y ∈ L', ChAt H2 y.1 y.2 ∧ y.2.ok := fun y hy => ⟨(hL1 y hy).1.fr f2, (hL1 y hy).2⟩
      clear hst f2 fr1 el1 hL1
      walk_at "go"
      refine ⟨_, rfl, ?_⟩
      walk_at "go"
      refine ⟨_, _, rfl, rfl, ?_⟩
      have e1 : (mc : Int) + 1 = ((mc + 1 : Nat) : Int) := by omega
      dsimp only
      rw [e1]
      refine ⟨_, rfl, ?_⟩
      walk_at "go"
      refine ⟨_, _, rfl, rfl, ?_⟩
      have e2 : (sc : Int) + ((bs.map V.ref).length : Nat) = ((sc + x.2.len : Nat) : Int) := by rw [List.length_map, bl]; omega
      dsimp only
      rw [e2]
      refine rd_at (σ' := [some (.ref p), some (.int ((mc + 1 : Nat) : Int)), some (.int ((sc + x.2.len : Nat) : Int)), some (.ref l), some (.ref x.1), v2]) rfl ?_
      walk_at "go"
      refine rd_F (by omega) ?_
      walk_at "go"
      refine rd_F (by omega) ?_
      walk_at "go"
      walk_at "fo"
      walk_at "go"
      have len12 : ∀ {M : PL} {i : Nat}, PL.nm M + 1 = (Ch.of x.2.root (x.2.sgs.take i)).nm → (PL.vs (L' ++ M)).length < sizeLine := fun {M i} h => by
        have q1 := Ch.of_take_nm x.2 i
        have q2 := PL.len_le (L' ++ M)
        rw [PL.nm_app] at q2
        have q3 : (PL.vs (L' ++ M)).length = (L' ++ M).length := List.length_map _
        rw [q3]
        exact Nat.lt_of_le_of_lt (show (L' ++ M).length ≤ 4 by omega) (by decide)
      refine ⟨ss, rfl, ⟨_, SqT.of ess⟩, for_tup (K := K) (a := ss) (xs := bs.map V.ref) (fun i σ H' => ∃ (M : PL) (v : Option V), σ = [some (.ref p), some (.int ((mc + 1 : Nat) : Int)), some (.int ((sc + x.2.len : Nat) : Int)), some (.ref l), some (.ref x.1), v] ∧
        H' l = some (.lst (PL.vs (L' ++ M))) ∧ (∀ y ∈ M, ChAt H2 y.1 y.2 ∧ y.2.ok) ∧ PL.nm M + 1 = (Ch.of x.2.root (x.2.sgs.take i)).nm ∧ PL.ns M + i = (Ch.of x.2.root (x.2.sgs.take i)).ns ∧ Fr [l] H2 H')
        ⟨[], v2, rfl, by rw [List.append_nil]; exact el2, fun y hy => (by cases hy), rfl, rfl, Fr.refl _ _⟩ (fun i σ H' _ ⟨_, _, _, _, _, _, _, fr⟩ => SqT.of (fr.tp ess)) ?_ ?_⟩
      · rintro i y σ H3 hi ⟨M, v, rfl, el3, hM, m1, m2, f3⟩
        obtain ⟨sx, hsx, rfl⟩ : ∃ sx, bs[i]? = some sx ∧ y = .ref sx := by
          rw [List.getElem?_map] at hi
          cases e : bs[i]? with
          | none => rw [e] at hi; cases hi
          | some z => rw [e] at hi; exact ⟨z, rfl, (Option.some.inj hi).symm⟩
        obtain ⟨g, hgi, gat⟩ := hg.2 i sx hsx
        have gok := hxs.2 g (List.mem_of_getElem? hgi)
        have nn := Ch.of_take x.2.root hgi
        walk_at "go"
        refine ⟨sx, g, rfl, gat.fr f3, gok, ?_⟩
        walk_at "go"
        refine ⟨sx, g, rfl, gat.fr f3, fun H4 f4 => ?_⟩
        walk_at "go"
        have f24 := f3.trans f4 (fun b hb => by cases hb)
        have el4 := f4.at el3 (by simp)
        refine rd_b (fun cg => ?_) (fun cg => ?_)
        · obtain ⟨o, q, eq, ho, hok2, gnm, gns⟩ : ∃ (o : Ch) (q : Addr), (∃ nm : Str, H4 sx = some (.tup [.str nm, .ref q])) ∧ ChAt H2 q o ∧ o.ok ∧ g.nm = o.nm ∧ g.ns = o.ns := by
            cases g with
            | one k => cases cg
            | both o => obtain ⟨q, e1, e2⟩ := gat; exact ⟨o, q, ⟨_, f24.tp e1⟩, e2, gok, rfl, rfl⟩
            | thn o => obtain ⟨q, e1, e2⟩ := gat; exact ⟨o, q, ⟨_, f24.tp e1⟩, e2, gok, rfl, rfl⟩
          obtain ⟨nm, eq⟩ := eq
          walk_at "go"
          refine ⟨tyl el4, ?_⟩
          walk_at "go"
          refine rd_append el4 (len12 m1) ?_
          walk_at "go"
          refine ⟨M ++ [(q, o)], _, rfl, ?_, fun y hy => ?_, ?_, ?_, f24.putN (.inl (by simp)) (nt el4)⟩
          · rw [upd_same, ← List.append_assoc, PL.vs_app (L' ++ M)]
            rfl
          · rcases List.mem_append.mp hy with z | z
            · exact hM y z
            · rw [List.mem_singleton] at z
              subst z
              exact ⟨ho, hok2⟩
          · rw [nn, Ch.snoc_nm, PL.nm_app, PL.nm_one, gnm, ← m1]; show _ + o.nm + 1 = _; omega
          · rw [nn, Ch.snoc_ns, PL.ns_app, PL.ns_one, gns, ← m2]; show _ + o.ns + (i + 1) = _; omega
        · obtain ⟨gnm, gns⟩ : g.nm = 0 ∧ g.ns = 0 := by
            cases g with
            | one k => exact ⟨rfl, rfl⟩
            | both o => cases cg
            | thn o => cases cg
          walk_at "go"
          refine ⟨M, _, rfl, el4, hM, ?_, ?_, f24⟩
          · rw [nn, Ch.snoc_nm, gnm, ← m1]
          · rw [nn, Ch.snoc_ns, gns, ← m2]; omega
      · rintro σ H3 ⟨M, v, rfl, el3, hM, m1, m2, f3⟩
        rw [List.length_map, hg.1, List.take_length, Ch.of_sgs] at m1 m2
        rw [Ch.of_sgs_len] at m2
        refine ⟨PL.nm (L' ++ M), ?_, L' ++ M, mc + 1, sc + x.2.len, _, _, rfl, el3, fun y hy => ?_, ?_, ?_, ?_, rfl⟩
        · rw [PL.nm_app, PL.nm_app, PL.nm_one]; omega
        · rcases List.mem_append.mp hy with z | z
          · exact ⟨(hL2 y z).1.fr f3, (hL2 y z).2⟩
          · exact ⟨(hM y z).1.fr f3, (hM y z).2⟩
        · rw [PL.nm_app]; omega
        · rw [PL.ns_app]; omega
        · exact fr2.trans f3 fun b hb => by rw [List.mem_singleton] at hb; rw [hb]; exact .inr hl
theorem sc_check_chain : FnScope ["chain"] ["chain"] (defScope s_check_chain) := ⟨rfl, rfl, rfl, by decide +kernel, rfl, by decide +kernel, by decide +kernel⟩
theorem ok_check_chain (T : Txt K mg) (F : FnP K "check_chain" "check_chain" s_check_chain f fd) (G_is_chain : Cal P w K mg base CX0 4 "is_chain" ["chain"] spIsChain) : FnOk P w K mg base CX0 5 f fd ["chain"] spCheck := by
  refine ok0 F sc_check_chain (fun vs H Q E h => ?_) (fun cdv A outer s H vs Q E hr h => ?_)
  · obtain ⟨p, c, rfl, _⟩ := h
    rfl
  · obtain ⟨p, c, rfl, hc, hok, hm, hs, k⟩ := h
    refine ⟨_, (pss_one (ps_if (pt_not (pt_val (pe_cal G_is_chain (hr.mono (by omega)) pass0 (pa_cons (pv 0) pa_nil))))
    (pss_one ps_dead) pss_nil)), ?_⟩
    try dsimp only [cxOf, Cx.nox, Cx.wish]
    refine rd_at (σ' := [some (.ref p)]) rfl ?_
    walk_at "go"
    refine ⟨p, c, rfl, hc, hok, hm, hs, fun H' f' => ?_⟩
    walk_at "go"
    exact k H' f'
end
end Dc

set_option Elab.async false
set_option linter.all false
set_option maxRecDepth 100000
set_option maxHeartbeats 2000000
namespace Dc
open PySem PySem.Spec PyProof.Rows L2
local macro_rules | `(tactic| walk_at "ne") => `(tactic| first | assumption | (refine Ne.symm ?_; assumption) | exact ne_of (by assumption) (by assumption) (by intro q; cases q) | exact ne_of_none (by assumption) (by assumption) | exact Ne.symm (ne_of_none (by assumption) (by assumption)))
local macro_rules | `(tactic| walk_at "hp") => `(tactic| first | assumption | exact upd_same | (refine upd_keep ?_ (by assumption); walk_at "hp") | (refine upd_other ?_ ?_; · walk_at "ne"; · walk_at "hp"))
local macro_rules | `(tactic| walk_at "hl") => `(tactic| first | assumption | exact SqL.of (by walk_at "hp"))
local macro_rules | `(tactic| walk_at "ht") => `(tactic| first | assumption | exact SqT.of (by walk_at "hp"))
local macro_rules | `(tactic| walk_at "rd1") => `(tactic| first
  | ((with_reducible apply rd_var); exact rfl)
  | ((with_reducible apply rd_eq); exact rfl) | ((with_reducible apply rd_ne); exact rfl)
  | with_reducible first
  | refine iteT ?_ | refine iteF ?_ | refine rd_nF ?_ | refine rd_nT ?_ | refine rd_yes ?_ | refine rd_c ?_ | refine rd_op ?_ | refine rd_un ?_ | refine rd_test ?_ | refine rd_B ?_ | refine rd_bl ?_ | refine rd_seq ?_ | refine rd_next ?_ | refine rd_ifs ?_ | refine rd_asg ?_ | refine rd_name ?_ | refine rd_ret ?_ | refine rd_drop ?_
  | refine rd_call ?_ | refine rd_cons ?_ | refine rd_nil ?_ | refine rd_cb ?_ | refine rd_I0 ?_ | refine rd_U ?_ | refine rd_gsub ?_ | refine rd_lst ?_ | refine rd_tup ?_ | refine rd_if ?_ | refine rd_not ?_ | refine rd_rng1 ?_ | refine rd_itup ?_ | refine rd_ilst ?_ | refine rd_bm ?_ | refine rd_bm0 ?_ | refine rd_andV ?_ | refine rd_orV ?_ | refine rd_notV ?_)
local macro_rules | `(tactic| walk_at "rd") => `(tactic| repeat walk_at "rd1")
local macro_rules | `(tactic| walk_at "ci") => `(tactic| first | assumption | (show (0 : Int) < _; first | decide | omega) | exact ⟨by decide, by decide⟩ | exact Or.inr ⟨by decide, by decide⟩ | exact Or.inl ⟨by decide, by decide⟩ | exact ⟨by decide, by decide, by decide⟩ | exact Or.inl ⟨by omega, by omega⟩ | exact Or.inr ⟨by omega, by omega⟩)
local macro_rules | `(tactic| walk_at "ix") => `(tactic| first
  | ((with_reducible apply rd_ixL); (walk_at "hl"); exact rfl)
  | ((with_reducible apply rd_ixT); (walk_at "ht"); exact rfl)
  | ((with_reducible apply rd_lenL); (walk_at "hl"))
  | ((with_reducible apply rd_lenT); (walk_at "ht"))
  | ((with_reducible apply rd_tupOf); (walk_at "hl"))
  | ((with_reducible apply rd_listOf); (walk_at "hl"))
  | (with_reducible refine rd_min2 ?_)
  | ((with_reducible apply rd_I); (walk_at "ci"))
  | ((with_reducible apply rd_setL); (walk_at "hp"); exact rfl))
local macro_rules | `(tactic| walk_at "gs") => `(tactic| repeat first | walk_at "rd1" | walk_at "ix")
local macro_rules | `(tactic| walk_at "go") => `(tactic| repeat first | walk_at "rd1" | walk_at "ix" | with_reducible refine rd_and ?_ | with_reducible refine rd_or ?_)
local macro_rules | `(tactic| walk_at "fo") => `(tactic| (with_reducible refine rd_for ?_))
local macro_rules | `(tactic| walk_at "pm") => `(tactic| repeat first
  | with_reducible first | refine rd_pcons ?_ | refine rd_pstr ?_ | refine rd_pcap ?_ | refine rd_pwild ?_ | refine rd_pnil ?_ | refine rd_por ?_ | refine rd_pno ?_
  | ((with_reducible refine rd_eq rfl ?_); refine ⟨_, rfl, ?_⟩; first | refine rd_T rfl ?_ | refine rd_F (by decide) ?_)
  | dsimp only [List.nil_append, List.singleton_append, List.cons_append, setAll])
local macro_rules | `(tactic| walk_at "pc") => `(tactic| (refine rd_case ?_); (first | (refine rd_phit (SqT.of (by assumption)) rfl ?_) | (refine rd_pmiss (SqT.of (by assumption)) (by simp) ?_)); (walk_at "pm"))

section
variable {X : Cx}
theorem assign_allV {pins : List (Addr × Obj)} (hN : X.N.Nodup) : ∀ {ns : List Str} {is : List Nat} {bs : List (Str × Value)} {vs : List V} {σ : L2.St} {H : Hp} {s : Shared} {Q : Unit → Shared → Prop} {E : Value → Shared → Prop}, Inv X pins σ H s → bs.map (·.1) = ns → Vals vs (bs.map (·.2)) →
    (is.map fun i => X.N[i]?) = ns.map some → (∀ n ∈ ns, Loc X.env.scope n ∧ (X.fn n = true ∨ X.env.scope.names.lookup n = some .local)) → (∀ s', Inv X pins (setAll σ is vs) H s' → Q () s') → wpAny (model X.prog X.w) X.A (assignInOrder (bs.map fun (n, _) => bindName X.env n) (bs.map (·.2))) Q E s
  | ns, is, [], vs, σ, H, s, Q, E, I, e, rv, hi, hl, q => by
    cases rv
    subst e
    cases is with
    | nil => exact wpAny_assignInOrder_none (q s I)
    | cons i is => cases hi
  | ns, is, (n, u) :: bs, vs, σ, H, s, Q, E, I, e, rv, hi, hl, q => by
    subst e
    cases is with
    | nil => cases hi
    | cons i is =>
      cases rv with
      | @cons v _ vs _ r1 r2 =>
        simp only [List.map_cons, List.cons.injEq] at hi
        refine wpAny_assignInOrder_more ?_
        show wpAny _ _ (bindName X.env n u) _ _ _
        unfold bindName
        refine wpAny_bind (wpAny_holding (wpAny_point ?_))
        refine wpAny_bind (store_ok (v := v) I hN hi.1 (hl n (by simp)).1 r1 (fun s1 I1 => wpAny_point ?_) (hl n (by simp)).2)
        exact assign_allV hN I1 rfl r2 hi.2 (fun m hm => hl m (by simp at hm ⊢; exact .inr hm)) q
theorem pc_consV {p : Pattern} {body : List Stmt} {cs : List MatchCase} {ns : List Str} {is : List Nat} {pt : TP} {tb : TS} {rest : V → TS} (hN : X.N.Nodup) (hp : PPat X p ns pt) (hi : (is.map fun i => X.N[i]?) = ns.map some) (hl : ∀ n ∈ ns, Loc X.env.scope n ∧ (X.fn n = true ∨ X.env.scope.names.lookup n = some .local))
    (hb : PSs X body tb) (hr : PCs X cs rest) : PCs X (⟨p, none, body⟩ :: cs) (tCase pt is tb rest) := by
  refine ⟨fun first pins s σ H v u D I rv h => ?_⟩
  refine wpAny_matchCases_cons (wpAny_mono (hp.run pins s σ H v u _ I rv h) (fun r s1 hr1 => ?_) fun _ _ z => z)
  cases r with
  | none =>
    obtain ⟨H1, I1, q1⟩ := hr1
    exact hr.run false pins s1 σ H1 v u D I1 rv q1
  | some bs =>
    obtain ⟨vs, H1, I1, e, rr, q1⟩ := hr1
    exact assign_allV hN I1 e rr hi hl fun s2 I2 => hb.run pins s2 _ H1 D I2 q1
theorem all_loc {ns : List Str} (h : (ns.all fun n => decide (X.env.scope.names.lookup n = some .local) || (decide (X.env.scope.names.lookup n = some .cell) && X.fn n)) = true) : ∀ n ∈ ns, Loc X.env.scope n ∧ (X.fn n = true ∨ X.env.scope.names.lookup n = some .local) := fun n hn => by
  have := List.all_eq_true.mp h n hn
  rw [Bool.or_eq_true, Bool.and_eq_true] at this
  rcases this with z | ⟨z, y⟩
  · exact ⟨.inl (of_decide_eq_true z), .inr (of_decide_eq_true z)⟩
  · exact ⟨.inr (of_decide_eq_true z), .inl y⟩
end
theorem cut_to {xs : List V} {k : Int} (h : 0 ≤ k) : cutV xs none (some k) = xs.take k.toNat := by
  obtain ⟨j, rfl⟩ := Int.eq_ofNat_of_zero_le h
  unfold cutV
  rw [HT.sIx_none, HT.sIx_nat, List.drop_zero, Nat.sub_zero, Int.toNat_natCast]
  rcases Nat.le_total j xs.length with q | q
  · rw [Nat.min_eq_left q]
  · rw [Nat.min_eq_right q, List.take_length, List.take_of_length_le q]
theorem cut_from {xs : List V} {k : Int} (h : 0 ≤ k) : cutV xs (some k) none = xs.drop k.toNat := by
  obtain ⟨j, rfl⟩ := Int.eq_ofNat_of_zero_le h
  unfold cutV
  rw [HT.sIx_none, HT.sIx_nat, Int.toNat_natCast]
  rcases Nat.le_total j xs.length with q | q
  · rw [Nat.min_eq_left q, List.take_of_length_le (by rw [List.length_drop]; omega)]
  · rw [Nat.min_eq_right q, List.drop_length, List.drop_of_length_le q, List.take_nil]
theorem rd_slTo {K : PySem.W.Frag} {i j : Nat} {σ : L2.St} {H : Hp} {Q : VK} {a : Addr} {xs : List V} {k : Int} (hs : SqL K H a xs) (hk : 0 ≤ k) (q : ∀ p, H p = none → Q (.ref p) (upd H p (.lst (xs.take k.toNat)))) (h1 : σ[i]? = some (some (.ref a)) := by rfl) (h2 : σ[j]? = some (some (.int k)) := by rfl) :
    tSl (rSlL K) (tVar i) tNoPart (tPart (tVar j)) σ H Q := ⟨_, h1, _, h2, k, rfl, a, xs, rfl, hs, fun p hp => by rw [cut_to hk]; exact q p hp⟩
theorem rd_slFrom {K : PySem.W.Frag} {i j : Nat} {σ : L2.St} {H : Hp} {Q : VK} {a : Addr} {xs : List V} {k : Int} (hs : SqL K H a xs) (hk : 0 ≤ k) (q : ∀ p, H p = none → Q (.ref p) (upd H p (.lst (xs.drop k.toNat)))) (h1 : σ[i]? = some (some (.ref a)) := by rfl) (h2 : σ[j]? = some (some (.int k)) := by rfl) :
    tSl (rSlL K) (tVar i) (tPart (tVar j)) tNoPart σ H Q := ⟨_, h1, _, h2, k, rfl, a, xs, rfl, hs, fun p hp => by rw [cut_from hk]; exact q p hp⟩
theorem tw_all {n : Int} : ∀ {l : List Int}, l.all (fun x => decide (x < n)) = true → l.takeWhile (fun x => decide (x < n)) = l
  | [], _ => rfl
  | y :: l, h => by
    rw [List.all_cons, Bool.and_eq_true] at h
    rw [List.takeWhile_cons_of_pos (p := fun x => decide (x < n)) h.1, tw_all h.2]
theorem tw_at {n : Int} : ∀ {l : List Int} {i : Nat}, (l.take i).all (fun x => decide (x < n)) = true → (hi : i < l.length) → n ≤ l[i] → l.takeWhile (fun x => decide (x < n)) = l.take i
  | y :: l, 0, _, _, h => by rw [List.takeWhile_cons_of_neg (p := fun x => decide (x < n)) (by simp only [List.getElem_cons_zero] at h; simp; omega)]; rfl
  | y :: l, i + 1, ha, hi, h => by
    rw [List.take_succ_cons, List.all_cons, Bool.and_eq_true] at ha
    rw [List.takeWhile_cons_of_pos (p := fun x => decide (x < n)) ha.1, tw_at ha.2 (Nat.lt_of_succ_lt_succ hi) h]; rfl
def spUntil : Sp := fun vs H Q _ => ∃ (a : Addr) (xs : List Int) (n : Int), vs = [.ref a, .int n] ∧ H a = some (.lst (xs.map V.int)) ∧ ∀ H' q, H' q = some (.lst ((Kd.row (.until n) xs).map V.int)) → (q = a ∨ H q = none) → Fr [] H H' → Q (.ref q) H'
def spUnlike : Sp := fun vs H Q _ => ∃ (a : Addr) (xs : List Int), vs = [.ref a] ∧ H a = some (.lst (xs.map V.int)) ∧ xs.length ≤ 100000 ∧ ∀ H' q, H' q = some (.lst ((Kd.row .unlike xs).map V.int)) → H q = none → Fr [] H H' → Q (.ref q) H'
section
variable {P : Program} {w : World} {K : PySem.W.Frag} {mg : Str → Option Value} {base : Heap} {f : Addr} {fd : FuncData}
theorem sc_row_until : FnScope ["numbers", "n", "at", "number"] ["numbers", "n"] (defScope s_row_until) := ⟨rfl, rfl, rfl, by decide +kernel, rfl, by decide +kernel, by decide +kernel⟩
theorem ok_row_until (T : Txt K mg) (F : FnP K "row_until" "row_until" s_row_until f fd) : FnOk P w K mg base CX0 1 f fd ["numbers", "n"] spUntil := by
  refine ok0 F sc_row_until (fun vs H Q E h => ?_) (fun cdv A outer s H vs Q E hr h => ?_)
  · obtain ⟨a, xs, n, rfl, _⟩ := h
    rfl
  · obtain ⟨a, xs, n, rfl, e, k⟩ := h
    refine ⟨_, (pss_cons (ps_for PassesOwn.never rfl (pi_enum (by rfl) T.free_enumerate (pa_cons (pv 0) pa_nil)) (pg_tup (by rfl) (pgs_cons (pg_name (i := 2) sc_row_until.nd rfl (Or.inl rfl)) (pgs_cons (pg_name (i := 3) sc_row_until.nd rfl (Or.inl rfl)) pgs_nil)))
    (pss_one (ps_if (pt_cmpR op_ge (pv 3) (pv 1) (nomark _))
      (pss_one (ps_ret (pe_slice sl_list (pv 0) po_none (po_some (pv 2))))) pss_nil)))
  (pss_one (ps_ret (pv 0)))), ?_⟩
    try dsimp only [cxOf, Cx.nox, Cx.wish]
    refine rd_at (σ' := [some (.ref a), some (.int n), none, none]) rfl ?_
    walk_at "go"
    walk_at "fo"
    refine ⟨_, rfl, ?_⟩
    refine ⟨a, _, rfl, SqL.of e, ?_⟩
    refine for_it (walk_enum (K := K) (a := a) (xs := xs.map V.int)) (fun i σ H1 => ∃ v2 v3 : Option V, σ = [some (.ref a), some (.int n), v2, v3] ∧ (xs.take i).all (fun x => decide (x < n)) = true ∧ Fr [] H H1) ⟨_, _, rfl, rfl, Fr.refl _ _⟩ (fun i σ H1 _ ⟨_, _, _, _, f⟩ => SqL.of (f.at e (by simp))) ?_ ?_
    · rintro i x σ H1 H2 hi ⟨v2, v3, rfl, ha, f1⟩ ⟨T0, y1, y2, rfl, hT, rfl, hy1, hy2⟩
      rw [List.length_map] at hi
      cases hy1
      have hy3 : (xs.map V.int)[i]? = some y2 := hy2
      rw [List.getElem?_map, List.getElem?_eq_getElem hi] at hy3
      cases hy3
      have f2 : Fr [] H1 (upd H1 T0 (.tup [.int (i : Nat), .int xs[i]])) := Fr.new hT
      refine ⟨T0, _, rfl, SqT.of upd_same, rfl, ?_⟩
      refine ⟨_, _, rfl, ?_⟩
      refine rd_name ?_
      refine ⟨_, _, rfl, ?_⟩
      refine rd_name ?_
      refine ⟨rfl, ?_⟩
      walk_at "go"
      refine rd_dec (fun c => ?_) (fun c => ?_)
      · walk_at "go"
        refine rd_slTo (k := (i : Int)) (SqL.of ((f1.tr f2).at e (by simp))) (by omega) fun q hq => ?_
        have f3 : Fr [] H1 (upd (upd H1 T0 (.tup [.int (i : Nat), .int xs[i]])) q (.lst ((xs.map V.int).take (i : Int).toNat))) := f2.newN hq
        refine k _ q ?_ (.inr ((f1.tr f2).free (by simp) hq)) (f1.tr f3)
        rw [upd_same]
        show some (HO.lst ((xs.map V.int).take i)) = some (HO.lst ((xs.takeWhile fun x => decide (x < n)).map V.int))
        rw [tw_at ha hi c, List.map_take]
      · walk_at "go"
        refine ⟨_, _, rfl, ?_, f1.tr f2⟩
        rw [take_snoc hi, List.all_append, ha, getElem!_pos xs i hi]
        simpa using c
    · rintro σ H1 ⟨v2, v3, rfl, ha, f1⟩
      walk_at "go"
      refine k _ a ?_ (.inl rfl) f1
      have hl : ((xs.map V.int).length) = xs.length := List.length_map ..
      rw [f1.at e (by simp)]
      show some (HO.lst (xs.map V.int)) = some (HO.lst ((xs.takeWhile fun x => decide (x < n)).map V.int))
      rw [hl, List.take_length] at ha
      rw [tw_all ha]
theorem sc_row_unlike : FnScope ["numbers", "at", "number"] ["numbers"] (defScope s_row_unlike) := ⟨rfl, rfl, rfl, by decide +kernel, rfl, by decide +kernel, by decide +kernel⟩
theorem ok_row_unlike (T : Txt K mg) (F : FnP K "row_unlike" "row_unlike" s_row_unlike f fd) : FnOk P w K mg base CX0 1 f fd ["numbers"] spUnlike := by
  refine ok0 F sc_row_unlike (fun vs H Q E h => ?_) (fun cdv A outer s H vs Q E hr h => ?_)
  · obtain ⟨a, xs, rfl, _⟩ := h
    rfl
  · obtain ⟨a, xs, rfl, e, hx, k⟩ := h
    refine ⟨_, (pss_one (ps_ret (pe_lc (own := [("at", 1), ("number", 2)]) (g := gTup K 2 (gCons (gName 1) (gCons (gName 2) gNil))) rfl sc_row_unlike.nd (pi_enum (by rfl) T.free_enumerate (pa_cons (pv 0) pa_nil)) (blkOk_by (N := ["numbers", "at", "number"]) (sc := defScope s_row_unlike) (by decide +kernel)) (fun _ _ _ _ _ => pg_tup (by rfl) (pgs_cons (pg_name (i := 1) sc_row_unlike.nd rfl (Or.inl rfl)) (pgs_cons (pg_name (i := 2) sc_row_unlike.nd rfl (Or.inl rfl)) pgs_nil))) (fun _ _ _ _ _ => pts_one (PW.pt (pw_or (pt_cmpR op_eq (pv 1) pe_int (nomark _)) (pw_or1 (pt_cmpR op_ne (pv 2) (pe_ix (ix_listK K) (pv 0) (pe_op op_sub (pv 1) pe_int) (fun _ _ => rfl)) (nomark _)))))) (fun _ _ _ _ _ => (pv 2))))), ?_⟩
    try dsimp only [cxOf, Cx.nox, Cx.wish]
    refine rd_at (σ' := [some (.ref a), none, none]) rfl ?_
    walk_at "go"
    show iEnum _ _ _ _ _
    refine ⟨_, rfl, ?_⟩
    refine ⟨a, _, rfl, SqL.of e, fun D hD => ?_⟩
    refine lc_it (walk_enum (K := K) (a := a) (xs := xs.map V.int)) (fun i H1 => H1 D = some (.lst ((Kd.row .unlike (xs.take i)).map V.int)) ∧ (Kd.row .unlike (xs.take i)).length ≤ i ∧ Fr [] H H1) ⟨upd_same, Nat.le_refl _, Fr.new hD⟩ (fun i H1 _ h => SqL.of (h.2.2.at e (by simp))) ?_ ?_
    · rintro i x H1 H2 hi ⟨e1, hl1, f1⟩ ⟨T0, y1, y2, rfl, hT, rfl, hy1, hy2⟩
      rw [List.length_map] at hi
      cases hy1
      have hy3 : (xs.map V.int)[i]? = some y2 := hy2
      rw [List.getElem?_map, List.getElem?_eq_getElem hi] at hy3
      cases hy3
      have f2 : Fr [] H1 (upd H1 T0 (.tup [.int (i : Nat), .int xs[i]])) := Fr.new hT
      have e2 := f2.at e1 (by simp)
      have ea := (f1.tr f2).at e (by simp)
      have st := row_step .unlike xs hi
      have hfr : ∀ (ws : List V), Fr [] H (upd (upd H1 T0 (.tup [.int (i : Nat), .int xs[i]])) D (.lst ws)) := fun ws => (f1.tr f2).putN (.inr hD) (nt e2)
      refine ⟨T0, _, rfl, SqT.of upd_same, rfl, ?_⟩
      refine ⟨_, _, rfl, ?_⟩
      refine rd_name ?_
      refine ⟨_, _, rfl, ?_⟩
      refine rd_name ?_
      refine ⟨rfl, ?_⟩
      refine ⟨rfl, ?_⟩
      have gi : xs[i]! = xs[i] := getElem!_pos xs i hi
      have yes : Kd.often .unlike xs i = 1 → (∃ acc, (upd H1 T0 (.tup [.int (i : Nat), .int xs[i]])) D = some (.lst acc) ∧ acc.length < sizeLine ∧ (upd (upd H1 T0 (.tup [.int (i : Nat), .int xs[i]])) D (.lst (acc ++ [.int xs[i]]))) D = some (.lst ((Kd.row .unlike (xs.take (i + 1))).map V.int)) ∧ (Kd.row .unlike (xs.take (i + 1))).length ≤ i + 1 ∧ Fr [] H (upd (upd H1 T0 (.tup [.int (i : Nat), .int xs[i]])) D (.lst (acc ++ [.int xs[i]])))) := fun ho => by
        rw [ho, gi] at st
        refine ⟨_, e2, by rw [List.length_map]; exact Nat.lt_of_le_of_lt (show _ ≤ 100000 by omega) (by decide), ?_, ?_, hfr _⟩
        · rw [upd_same, st, List.map_append]; rfl
        · rw [st, List.length_append]; exact Nat.add_le_add_right hl1 1
      have no : Kd.often .unlike xs i = 0 → (upd H1 T0 (.tup [.int (i : Nat), .int xs[i]])) D = some (.lst ((Kd.row .unlike (xs.take (i + 1))).map V.int)) ∧ (Kd.row .unlike (xs.take (i + 1))).length ≤ i + 1 ∧ Fr [] H (upd H1 T0 (.tup [.int (i : Nat), .int xs[i]])) := fun ho => by
        rw [ho] at st
        have st' : Kd.row .unlike (xs.take (i + 1)) = Kd.row .unlike (xs.take i) := by rw [st]; exact List.append_nil _
        rw [st']
        exact ⟨e2, Nat.le_succ_of_le hl1, f1.tr f2⟩
      walk_at "go"
      refine rd_dec (fun c => ?_) (fun c => ?_)
      · have hi0 : i = 0 := by have := V.int.inj c; omega
        refine iteT ?_
        refine ⟨_, rfl, ?_⟩
        exact yes (by show (if i = 0 ∨ xs[i]! ≠ xs[i - 1]! then 1 else 0) = 1; rw [if_pos (Or.inl hi0)])
      · have hi0 : i ≠ 0 := fun z => c (by rw [z]; rfl)
        have hp : i - 1 < xs.length := by omega
        have gp : xs[i - 1]! = xs[i - 1] := getElem!_pos xs (i - 1) hp
        walk_at "go"
        refine rd_ixL (SqL.of ea) (at_of (j := i - 1) (v := .int xs[i - 1]) (by omega) (by rw [List.getElem?_map, List.getElem?_eq_getElem hp]; rfl)) ?_
        walk_at "go"
        refine rd_ndec (fun c2 => ?_) (fun c2 => ?_)
        · refine ⟨_, rfl, ?_⟩
          exact yes (by show (if i = 0 ∨ xs[i]! ≠ xs[i - 1]! then 1 else 0) = 1; rw [if_pos (Or.inr (by rw [gi, gp]; exact fun z => c2 (congrArg V.int z)))])
        · exact no (by show (if i = 0 ∨ xs[i]! ≠ xs[i - 1]! then 1 else 0) = 0; rw [if_neg (by rintro (z | z); exact hi0 z; exact z (by rw [gi, gp]; exact V.int.inj c2))])
    · rintro H1 ⟨e1, _, f1⟩
      rw [List.length_map, List.take_length] at e1
      exact k H1 D e1 hD f1
theorem row_app {H H1 : Hp} {D : Addr} {k : Kd} {xs : List Int} {i : Nat} (hi : i < xs.length) (hx : xs.length ≤ 100000) (hD : H D = none) (h : H1 D = some (.lst ((k.row (xs.take i)).map V.int)) ∧ (k.row (xs.take i)).length ≤ i ∧ Fr [] H H1) (ho : k.often xs i = 1) :
    ∃ acc, H1 D = some (.lst acc) ∧ acc.length < sizeLine ∧ (upd H1 D (.lst (acc ++ [.int (k.val xs[i])]))) D = some (.lst ((k.row (xs.take (i + 1))).map V.int)) ∧ (k.row (xs.take (i + 1))).length ≤ i + 1 ∧ Fr [] H (upd H1 D (.lst (acc ++ [.int (k.val xs[i])]))) := by
  obtain ⟨e1, hl, f1⟩ := h
  have st := row_step k xs hi
  rw [ho, getElem!_pos xs i hi] at st
  refine ⟨_, e1, by rw [List.length_map]; exact Nat.lt_of_le_of_lt (show _ ≤ 100000 by omega) (by decide), ?_, ?_, f1.putN (.inr hD) (nt e1)⟩
  · rw [upd_same, st, List.map_append]; rfl
  · rw [st, List.length_append]; exact Nat.add_le_add_right hl 1
theorem row_skip {H H1 : Hp} {D : Addr} {k : Kd} {xs : List Int} {i : Nat} (hi : i < xs.length) (h : H1 D = some (.lst ((k.row (xs.take i)).map V.int)) ∧ (k.row (xs.take i)).length ≤ i ∧ Fr [] H H1) (ho : k.often xs i = 0) :
    H1 D = some (.lst ((k.row (xs.take (i + 1))).map V.int)) ∧ (k.row (xs.take (i + 1))).length ≤ i + 1 ∧ Fr [] H H1 := by
  have st := row_step k xs hi
  rw [ho] at st
  have st' : k.row (xs.take (i + 1)) = k.row (xs.take i) := by rw [st]; exact List.append_nil _
  rw [st']
  exact ⟨h.1, Nat.le_succ_of_le h.2.1, h.2.2⟩
theorem map_get {xs : List Int} {i : Nat} {z : V} (h : (xs.map V.int)[i]? = some z) : ∃ hi : i < xs.length, z = .int xs[i] := by
  have hi : i < xs.length := by have := (List.getElem?_eq_some_iff.mp h).1; rwa [List.length_map] at this
  rw [List.getElem?_map, List.getElem?_eq_getElem hi] at h
  exact ⟨hi, (Option.some.inj h).symm⟩
/-- what one stage makes of a row; whole rows, at most so many makers deep -/
def spWholeRow (nw : Addr) (n : Nat) : Sp := fun vs H Q E => ∃ (p : Addr) (c : Ch), vs = [.ref p] ∧ ChAt H p c ∧ c.ok ∧ c.rows ∧ c.nm ≤ n ∧
  (∀ xs, c.row = some xs → ∀ H' q, H' q = some (.lst (xs.map V.int)) → H q = none → Fr [] H H' → Q (.ref q) H') ∧ (c.row = none → ∀ H', Fr [] H H' → E (.ref nw) none H')
def spBehindR (nw : Addr) (n : Nat) : Sp := fun vs H Q E => ∃ (a x : Addr) (xs : List Int) (g : Sg), vs = [.ref a, .ref x] ∧ H a = some (.lst (xs.map V.int)) ∧ xs.length ≤ 10000 ∧ SgAt H x g ∧ g.ok ∧ g.rows ∧ g.nm ≤ n ∧
  (∀ ys, g.row xs = some ys → ∀ H' q, H' q = some (.lst (ys.map V.int)) → (q = a ∨ H q = none) → Fr [] H H' → Q (.ref q) H') ∧ (g.row xs = none → ∀ H', Fr [] H H' → E (.ref nw) none H')
theorem sc_row_behind : FnScope ["numbers", "stage", "n", "number", "rest", "wheel", "many", "_", "chain", "one", "other"] ["numbers", "stage"] (defScope s_row_behind) := ⟨rfl, rfl, rfl, by decide +kernel, rfl, by decide +kernel, by decide +kernel⟩
theorem ok_row_behind {nw : Addr} {n j : Nat} (hj : 1 ≤ j) (T : Txt K mg) (F : FnP K "row_behind" "row_behind" s_row_behind f fd)
    (G_row_until : Cal P w K mg base CX0 1 "row_until" ["numbers", "n"] spUntil) (G_row_unlike : Cal P w K mg base CX0 1 "row_unlike" ["numbers"] spUnlike)
    (G_whole_row : Cal P w K mg base (L2.CX P w) j "whole_row" ["chain"] (spWholeRow nw n)) : FnOk P w K mg base (L2.CX P w) (j + 1) f fd ["numbers", "stage"] (spBehindR nw n) := by
  refine okX F sc_row_behind (fun vs H Q E h => ?_) (fun cdv A outer s H vs Q E hr h px tk po => ?_)
  · obtain ⟨a, x, xs, g, rfl, _⟩ := h
    rfl
  · obtain ⟨a, x, xs, g, rfl, e, hx, hg, gok, grow, gnm, k1, k2⟩ := h
    have hu64 := hr.units
    refine ⟨_, (pss_one (ps_match (pv 1)
    (pc_consV (is := [2]) sc_row_behind.nd (pat_seq rfl (pp_cons (pat_str op_eq) (pp_cons pat_cap pp_nil))) rfl (all_loc (by rfl))
      (pss_one (ps_ret (pe_lc (own := [("number", 3)]) (g := gName 3) rfl sc_row_behind.nd (pi_list (pv 0)) (blkOk_by (N := ["numbers", "stage", "n", "number", "rest", "wheel", "many", "_", "chain", "one", "other"]) (sc := defScope s_row_behind) (by decide +kernel)) (fun _ _ _ _ _ => pg_name (i := 3) sc_row_behind.nd rfl (Or.inl rfl)) (fun _ _ _ _ _ => pts_nil) (fun _ _ _ _ _ => (pe_op op_add (pv 3) (pv 2))))))
    (pc_consV (is := [2]) sc_row_behind.nd (pat_seq rfl (pp_cons (pat_str op_eq) (pp_cons pat_cap pp_nil))) rfl (all_loc (by rfl))
      (pss_one (ps_ret (pe_lc (own := [("number", 3)]) (g := gName 3) rfl sc_row_behind.nd (pi_list (pv 0)) (blkOk_by (N := ["numbers", "stage", "n", "number", "rest", "wheel", "many", "_", "chain", "one", "other"]) (sc := defScope s_row_behind) (by decide +kernel)) (fun _ _ _ _ _ => pg_name (i := 3) sc_row_behind.nd rfl (Or.inl rfl)) (fun _ _ _ _ _ => pts_nil) (fun _ _ _ _ _ => (pe_op op_mul (pv 3) (pv 2))))))
    (pc_consV (is := [4, 5]) sc_row_behind.nd (pat_seq rfl (pp_cons (pat_str op_eq) (pp_cons pat_cap (pp_cons pat_cap pp_nil)))) rfl (all_loc (by rfl))
      (pss_one (ps_ret (pe_lc (own := [("number", 3)]) (g := gName 3) rfl sc_row_behind.nd (pi_list (pv 0)) (blkOk_by (N := ["numbers", "stage", "n", "number", "rest", "wheel", "many", "_", "chain", "one", "other"]) (sc := defScope s_row_behind) (by decide +kernel)) (fun _ _ _ _ _ => pg_name (i := 3) sc_row_behind.nd rfl (Or.inl rfl)) (fun _ _ _ _ _ => pts_one (pt_cmpR op_eq (pe_op op_mod (pv 3) (pv 5)) (pv 4) (nomark _))) (fun _ _ _ _ _ => (pv 3)))))
    (pc_consV (is := [6]) sc_row_behind.nd (pat_seq rfl (pp_cons (pat_str op_eq) (pp_cons pat_cap pp_nil))) rfl (all_loc (by rfl))
      (pss_one (ps_ret (pe_slice sl_list (pv 0) (po_some (pv 6)) po_none)))
    (pc_consV (is := [6]) sc_row_behind.nd (pat_seq rfl (pp_cons (pat_str op_eq) (pp_cons pat_cap pp_nil))) rfl (all_loc (by rfl))
      (pss_one (ps_ret (pe_slice sl_list (pv 0) po_none (po_some (pv 6)))))
    (pc_consV (is := [6]) sc_row_behind.nd (pat_seq rfl (pp_cons (pat_str op_eq) (pp_cons pat_cap pp_nil))) rfl (all_loc (by rfl))
      (pss_one (ps_ret (pe_lc2 (own := [("number", 3), ("_", 7)]) (vs1 := [7]) rfl sc_row_behind.nd (pi_list (pv 0)) (blkOk_by (N := ["numbers", "stage", "n", "number", "rest", "wheel", "many", "_", "chain", "one", "other"]) (sc := defScope s_row_behind) (by decide +kernel)) (by decide) (fun _ _ _ _ _ => pg_name (i := 3) sc_row_behind.nd rfl (Or.inl rfl)) (fun _ _ _ _ _ => pts_nil) (fun _ _ _ _ _ => (pi_range1 (by rfl) T.free_range (pa_cons (pv 6) pa_nil))) (fun _ _ _ _ _ => pg_name (i := 7) sc_row_behind.nd rfl (Or.inl rfl)) (fun _ _ _ _ _ => pts_nil) (fun _ _ _ _ _ => (pv 3)))))
    (pc_consV (is := [2]) sc_row_behind.nd (pat_seq rfl (pp_cons (pat_str op_eq) (pp_cons pat_cap pp_nil))) rfl (all_loc (by rfl))
      (pss_one (ps_ret (pe_cal G_row_until (hr.mono (by omega)) pass0 (pa_cons (pv 0) (pa_cons (pv 2) pa_nil)))))
    (pc_cons (is := []) sc_row_behind.nd (pat_seq rfl (pp_cons (pat_str op_eq) pp_nil)) rfl (all_local (by rfl))
      (pss_one (ps_ret (pe_cal G_row_unlike (hr.mono (by omega)) pass0 (pa_cons (pv 0) pa_nil))))
    (pc_cons (is := [8]) sc_row_behind.nd (pat_seq rfl (pp_cons (pat_str op_eq) (pp_cons pat_cap pp_nil))) rfl (all_local (by rfl))
      (pss_one (ps_ret (pe_lc (own := [("one", 9), ("other", 10)]) (g := gTup K 2 (gCons (gName 9) (gCons (gName 10) gNil))) rfl sc_row_behind.nd (pi_zip (by rfl) T.free_zip (pa_cons (pv 0) (pa_cons (pe_cal G_whole_row (hr.mono (by omega)) px (pa_cons (pv 8) pa_nil)) pa_nil))) (blkOk_by (N := ["numbers", "stage", "n", "number", "rest", "wheel", "many", "_", "chain", "one", "other"]) (sc := defScope s_row_behind) (by decide +kernel)) (fun _ _ _ _ _ => pg_tup (by rfl) (pgs_cons (pg_name (i := 9) sc_row_behind.nd rfl (Or.inl rfl)) (pgs_cons (pg_name (i := 10) sc_row_behind.nd rfl (Or.inl rfl)) pgs_nil))) (fun _ _ _ _ _ => pts_nil) (fun _ _ _ _ _ => (pe_op op_add (pv 9) (pv 10))))))
    (pc_cons (is := [8]) sc_row_behind.nd (pat_seq rfl (pp_cons (pat_str op_eq) (pp_cons pat_cap pp_nil))) rfl (all_local (by rfl))
      (pss_one (ps_ret (pe_op op_cat (pv 0) (pe_cal G_whole_row (hr.mono (by omega)) px (pa_cons (pv 8) pa_nil)))))
    pc_nil)))))))))))), ?_⟩
    try dsimp only [cxOf, Cx.nox, Cx.wish]
    refine rd_at (σ' := [some (.ref a), some (.ref x), none, none, none, none, none, none, none, none, none]) rfl ?_
    refine rd_match ?_
    walk_at "go"
    have k0 : ∀ k : Kd, g = .one k → ∀ H1 D, H1 D = some (.lst ((k.row xs).map V.int)) ∧ (k.row xs).length ≤ xs.length ∧ Fr [] H H1 → H D = none → Q (.ref D) H1 := fun k eg H1 D h hD => k1 (k.row xs) (by rw [eg]; rfl) H1 D h.1 (.inr hD) h.2.2
    have hx2 : xs.length ≤ 100000 := by omega
    have full : ∀ {k : Kd} {H1 : Hp} {D : Addr}, (H1 D = some (.lst ((k.row (xs.take (xs.map V.int).length)).map V.int)) ∧ (k.row (xs.take (xs.map V.int).length)).length ≤ (xs.map V.int).length ∧ Fr [] H H1) → H1 D = some (.lst ((k.row xs).map V.int)) ∧ (k.row xs).length ≤ xs.length ∧ Fr [] H H1 := fun h => by
      rw [List.length_map, List.take_length] at h; exact h
    cases g with
    | one kd =>
      cases kd with
      | add n =>
        simp only [SgAt, Kd.vals] at hg
        repeat walk_at "pc"
        walk_at "go"
        show iList K (tVar 0) _ _ _
        refine ⟨_, rfl, a, rfl, ⟨_, SqL.of e⟩, fun D hD => ?_⟩
        refine lc_list (K := K) (a := a) (xs := xs.map V.int) (fun i H1 => H1 D = some (.lst ((Kd.row (.add n) (xs.take i)).map V.int)) ∧ (Kd.row (.add n) (xs.take i)).length ≤ i ∧ Fr [] H H1) ⟨upd_same, Nat.le_refl _, Fr.new hD⟩ (fun i H1 _ h => SqL.of (h.2.2.at e (by simp))) ?_ (fun H1 h => k0 _ rfl _ _ (full h) hD)
        rintro i z H1 hz h
        obtain ⟨hi, rfl⟩ := map_get hz
        walk_at "go"
        refine ⟨rfl, ?_⟩
        walk_at "go"
        exact row_app hi hx2 hD h rfl
      | times n =>
        simp only [SgAt, Kd.vals] at hg
        repeat walk_at "pc"
        walk_at "go"
        show iList K (tVar 0) _ _ _
        refine ⟨_, rfl, a, rfl, ⟨_, SqL.of e⟩, fun D hD => ?_⟩
        refine lc_list (K := K) (a := a) (xs := xs.map V.int) (fun i H1 => H1 D = some (.lst ((Kd.row (.times n) (xs.take i)).map V.int)) ∧ (Kd.row (.times n) (xs.take i)).length ≤ i ∧ Fr [] H H1) ⟨upd_same, Nat.le_refl _, Fr.new hD⟩ (fun i H1 _ h => SqL.of (h.2.2.at e (by simp))) ?_ (fun H1 h => k0 _ rfl _ _ (full h) hD)
        rintro i z H1 hz h
        obtain ⟨hi, rfl⟩ := map_get hz
        walk_at "go"
        refine ⟨rfl, ?_⟩
        walk_at "go"
        refine rd_I (.inr ⟨by have := gok.2; omega, by have := gok.2; omega⟩) ?_
        exact row_app hi hx2 hD h rfl
      | keep r wh =>
        simp only [SgAt, Kd.vals] at hg
        repeat walk_at "pc"
        walk_at "go"
        show iList K (tVar 0) _ _ _
        refine ⟨_, rfl, a, rfl, ⟨_, SqL.of e⟩, fun D hD => ?_⟩
        refine lc_list (K := K) (a := a) (xs := xs.map V.int) (fun i H1 => H1 D = some (.lst ((Kd.row (.keep r wh) (xs.take i)).map V.int)) ∧ (Kd.row (.keep r wh) (xs.take i)).length ≤ i ∧ Fr [] H H1) ⟨upd_same, Nat.le_refl _, Fr.new hD⟩ (fun i H1 _ h => SqL.of (h.2.2.at e (by simp))) ?_ (fun H1 h => k0 _ rfl _ _ (full h) hD)
        rintro i z H1 hz h
        obtain ⟨hi, rfl⟩ := map_get hz
        have gi : xs[i]! = xs[i] := getElem!_pos xs i hi
        walk_at "go"
        refine ⟨rfl, ?_⟩
        walk_at "go"
        refine rd_I (show (0 : Int) < wh by have := gok.1; omega) ?_
        walk_at "go"
        refine rd_dec (fun c => ?_) (fun c => ?_)
        · walk_at "go"
          exact row_app hi hx2 hD h (by show (if xs[i]! % wh = r then 1 else 0) = 1; rw [if_pos (by rw [gi]; exact V.int.inj c)])
        · exact row_skip hi h (by show (if xs[i]! % wh = r then 1 else 0) = 0; rw [if_neg (by rw [gi]; exact fun z => c (congrArg V.int z))])
      | drop n =>
        simp only [SgAt, Kd.vals] at hg
        repeat walk_at "pc"
        walk_at "go"
        refine rd_slFrom (k := n) (SqL.of e) gok.1 fun q hq => ?_
        exact k1 _ rfl _ q (by rw [upd_same, ← List.map_drop]; rfl) (.inr hq) (Fr.new hq)
      | take n =>
        simp only [SgAt, Kd.vals] at hg
        repeat walk_at "pc"
        walk_at "go"
        refine rd_slTo (k := n) (SqL.of e) gok.1 fun q hq => ?_
        exact k1 _ rfl _ q (by rw [upd_same, ← List.map_take]; rfl) (.inr hq) (Fr.new hq)
      | each n =>
        simp only [SgAt, Kd.vals] at hg
        repeat walk_at "pc"
        walk_at "go"
        show iList K (tVar 0) _ _ _
        refine ⟨_, rfl, a, rfl, ⟨_, SqL.of e⟩, fun D hD => ?_⟩
        have n0 : 0 ≤ n := by have := gok.1; omega
        have n1 : n ≤ 10 := gok.2
        have st := fun {i : Nat} (hi : i < xs.length) => row_step (.each n) xs hi
        refine ⟨fun i m H1 => m = xs.length - i ∧ i ≤ xs.length ∧ H1 D = some (.lst ((Kd.row (.each n) (xs.take i)).map V.int)) ∧ (Kd.row (.each n) (xs.take i)).length ≤ i * 10 ∧ Fr [] H H1, ⟨_, rfl, Nat.zero_le _, upd_same, Nat.le_refl _, Fr.new hD⟩, ?_⟩
        rintro i m H1 ⟨rfl, hi, e1, hl, f1⟩
        have ea := f1.at e (by simp)
        rcases Nat.lt_or_ge i xs.length with hlt | hge
        · refine .inr ⟨(walk_list (K := K) (a := a) (xs := xs.map V.int)).goes i H1 (by rw [List.length_map]; exact hlt) (SqL.of ea), fun H2 => H2 D = some (.lst ((Kd.row (.each n) (xs.take (i + 1))).map V.int)) ∧ (Kd.row (.each n) (xs.take (i + 1))).length ≤ (i + 1) * 10 ∧ Fr [] H H2, fun H2 h2 => ⟨xs.length - (i + 1), by omega, rfl, hlt, h2.1, h2.2.1, h2.2.2⟩, fun z H2 hz => ?_⟩
          obtain ⟨hH, hz2⟩ := (walk_list (K := K) (a := a) (xs := xs.map V.int)).yields i H1 z H2 (by rw [List.length_map]; exact hlt) (SqL.of ea) hz
          subst hH
          obtain ⟨_, rfl⟩ := map_get hz2
          refine rd_name ?_
          refine ⟨rfl, ?_⟩
          refine rd_yes ?_
          refine iteT ?_
          show iRng1 (tCons (tVar 6) tNil) _ _ _
          walk_at "go"
          refine ⟨n, rfl, by omega, by omega, ?_⟩
          have s1 := st hlt
          rw [getElem!_pos xs i hlt] at s1
          have s2 : Kd.row (.each n) (xs.take (i + 1)) = Kd.row (.each n) (xs.take i) ++ List.replicate n.toNat xs[i] := s1
          refine ⟨fun j k H3 => k = n.toNat - j ∧ j ≤ n.toNat ∧ H3 D = some (.lst ((Kd.row (.each n) (xs.take i) ++ List.replicate j xs[i]).map V.int)) ∧ Fr [] H H3, ⟨_, rfl, Nat.zero_le _, by rw [List.replicate_zero, List.append_nil]; exact e1, f1⟩, ?_⟩
          rintro j k3 H3 ⟨rfl, hj, e3, f3⟩
          rcases Nat.lt_or_ge j n.toNat with jlt | jge
          · refine .inr ⟨jlt, fun H4 => H4 D = some (.lst ((Kd.row (.each n) (xs.take i) ++ List.replicate (j + 1) xs[i]).map V.int)) ∧ Fr [] H H4, fun H4 h4 => ⟨n.toNat - (j + 1), by omega, rfl, jlt, h4.1, h4.2⟩, fun z H4 hz => ?_⟩
            obtain ⟨hz1, hz2⟩ := hz
            subst hz1 hz2
            refine rd_name ?_
            refine ⟨rfl, ?_⟩
            refine rd_yes ?_
            refine iteT ?_
            walk_at "go"
            refine ⟨_, e3, ?_, ?_, f3.putN (.inr hD) (nt e3)⟩
            · rw [List.length_map, List.length_append, List.length_replicate]; exact Nat.lt_of_le_of_lt (show _ ≤ 200000 by omega) (by decide)
            · rw [upd_same]; simp only [List.replicate_succ', List.map_append, List.map_cons, List.map_nil, List.append_assoc]
          · have ej : j = n.toNat := by omega
            subst ej
            refine .inl ⟨Nat.le_refl _, ?_, ?_, f3⟩
            · rw [s2]; exact e3
            · rw [s2, List.length_append, List.length_replicate]; omega
        · have ei : i = xs.length := by omega
          subst ei
          rw [List.take_length] at e1 hl
          refine .inl ⟨(walk_list (K := K) (a := a) (xs := xs.map V.int)).stops H1 (SqL.of ea) |> (fun z => by rw [List.length_map] at z; exact z), ?_⟩
          exact k1 _ rfl H1 D e1 (.inr hD) f1
      | «until» n =>
        simp only [SgAt, Kd.vals] at hg
        repeat walk_at "pc"
        walk_at "go"
        exact ⟨a, xs, n, rfl, e, fun H' q eq hq f => k1 _ rfl H' q eq hq f⟩
      | unlike =>
        simp only [SgAt, Kd.vals] at hg
        repeat walk_at "pc"
        walk_at "go"
        exact ⟨a, xs, rfl, e, hx2, fun H' q eq hq f => k1 _ rfl H' q eq (.inr hq) f⟩
    | both o =>
      obtain ⟨pi, ex, hpi⟩ := hg
      repeat walk_at "pc"
      walk_at "go"
      show iZip K _ _ _ _
      refine ⟨_, rfl, _, rfl, ?_⟩
      refine ⟨pi, o, rfl, hpi, gok, grow, gnm, fun ys ey H' q eq hq f => ?_, fun en H' f => k2 (by show o.row.map _ = none; rw [en]; rfl) H' f⟩
      have ea := f.at e (by simp)
      refine ⟨a, q, _, _, rfl, SqL.of ea, SqL.of eq, fun D hD => ?_⟩
      have kk := k1 (List.zipWith (· + ·) xs ys) (by show o.row.map _ = _; rw [ey]; rfl)
      refine lc_it (walk_zip (K := K) (a := a) (b := q) (xs := xs.map V.int) (ys := ys.map V.int) (n := min xs.length ys.length) (by rw [List.length_map, List.length_map])) (fun i H1 => H1 D = some (.lst (((List.zipWith (· + ·) xs ys).take i).map V.int)) ∧ Fr [] H' H1) ⟨upd_same, Fr.new hD⟩ (fun i H1 _ h => ⟨SqL.of (h.2.at ea (by simp)), SqL.of (h.2.at eq (by simp))⟩) ?_ ?_
      · rintro i z H1 H2 hi ⟨e1, f1⟩ ⟨T0, y1, y2, rfl, hT, rfl, hy1, hy2⟩
        have hy1' : (xs.map V.int)[i]? = some y1 := hy1
        have hy2' : (ys.map V.int)[i]? = some y2 := hy2
        obtain ⟨i1, rfl⟩ := map_get hy1'
        obtain ⟨i2, rfl⟩ := map_get hy2'
        have f2 : Fr [] H1 (upd H1 T0 (.tup [.int xs[i], .int ys[i]])) := Fr.new hT
        have e2 := f2.at e1 (by simp)
        refine ⟨T0, _, rfl, SqT.of upd_same, rfl, ?_⟩
        refine ⟨_, _, rfl, ?_⟩
        refine rd_name ?_
        refine ⟨_, _, rfl, ?_⟩
        refine rd_name ?_
        refine ⟨rfl, ?_⟩
        refine ⟨rfl, ?_⟩
        walk_at "go"
        have hz : i < (List.zipWith (· + ·) xs ys).length := by rw [List.length_zipWith]; exact hi
        refine ⟨_, e2, ?_, ?_, (f1.tr f2).putN (.inr hD) (nt e2)⟩
        · rw [List.length_map, List.length_take]; exact Nat.lt_of_le_of_lt (show _ ≤ 10000 by omega) (by decide)
        · rw [upd_same, take_snoc hz, List.map_append, getElem!_pos _ i hz, List.getElem_zipWith]; rfl
      · rintro H1 ⟨e1, f1⟩
        rw [List.take_of_length_le (by rw [List.length_zipWith]; exact Nat.le_refl _)] at e1
        exact kk H1 D e1 (.inr (f.free (by simp) hD)) (f.tr f1)
    | thn o =>
      obtain ⟨pi, ex, hpi⟩ := hg
      repeat walk_at "pc"
      walk_at "go"
      refine ⟨pi, o, rfl, hpi, gok, grow, gnm, fun ys ey H' q eq hq f => ?_, fun en H' f => k2 (by show o.row.map _ = none; rw [en]; rfl) H' f⟩
      have ea := f.at e (by simp)
      refine ⟨a, q, _, _, rfl, rfl, ea, eq, ?_, fun p hp => ?_⟩
      · rw [List.length_map, List.length_map]
        have := Ch.row_len ey gok
        exact Nat.le_trans (show xs.length + ys.length ≤ 20000 by omega) (by decide)
      · refine k1 (xs ++ ys) (by show o.row.map _ = _; rw [ey]; rfl) _ p (by rw [upd_same, List.map_append]) (.inr (f.free (by simp) hp)) (f.newN hp)
end
end Dc

set_option Elab.async false
set_option linter.all false
set_option maxRecDepth 100000
set_option maxHeartbeats 2000000
namespace Dc
open PySem PySem.Spec PyProof.Rows L2
local macro_rules | `(tactic| walk_at "ne") => `(tactic| first | assumption | (refine Ne.symm ?_; assumption) | exact ne_of (by assumption) (by assumption) (by intro q; cases q) | exact ne_of_none (by assumption) (by assumption) | exact Ne.symm (ne_of_none (by assumption) (by assumption)))
local macro_rules | `(tactic| walk_at "hp") => `(tactic| first | assumption | exact upd_same | (refine upd_keep ?_ (by assumption); walk_at "hp") | (refine upd_other ?_ ?_; · walk_at "ne"; · walk_at "hp"))
local macro_rules | `(tactic| walk_at "hl") => `(tactic| first | assumption | exact SqL.of (by walk_at "hp"))
local macro_rules | `(tactic| walk_at "ht") => `(tactic| first | assumption | exact SqT.of (by walk_at "hp"))
local macro_rules | `(tactic| walk_at "rd1") => `(tactic| first
  | ((with_reducible apply rd_var); exact rfl)
  | ((with_reducible apply rd_eq); exact rfl) | ((with_reducible apply rd_ne); exact rfl)
  | with_reducible first
  | refine iteT ?_ | refine iteF ?_ | refine rd_nF ?_ | refine rd_nT ?_ | refine rd_yes ?_ | refine rd_c ?_ | refine rd_op ?_ | refine rd_un ?_ | refine rd_test ?_ | refine rd_B ?_ | refine rd_bl ?_ | refine rd_seq ?_ | refine rd_next ?_ | refine rd_ifs ?_ | refine rd_asg ?_ | refine rd_name ?_ | refine rd_ret ?_ | refine rd_drop ?_
  | refine rd_call ?_ | refine rd_cons ?_ | refine rd_nil ?_ | refine rd_cb ?_ | refine rd_I0 ?_ | refine rd_U ?_ | refine rd_gsub ?_ | refine rd_lst ?_ | refine rd_tup ?_ | refine rd_if ?_ | refine rd_not ?_ | refine rd_rng1 ?_ | refine rd_itup ?_ | refine rd_ilst ?_ | refine rd_bm ?_ | refine rd_bm0 ?_ | refine rd_andV ?_ | refine rd_orV ?_ | refine rd_notV ?_)
local macro_rules | `(tactic| walk_at "rd") => `(tactic| repeat walk_at "rd1")
local macro_rules | `(tactic| walk_at "ci") => `(tactic| first | assumption | (show (0 : Int) < _; first | decide | omega) | exact ⟨by decide, by decide⟩ | exact Or.inr ⟨by decide, by decide⟩ | exact Or.inl ⟨by decide, by decide⟩ | exact ⟨by decide, by decide, by decide⟩ | exact Or.inl ⟨by omega, by omega⟩ | exact Or.inr ⟨by omega, by omega⟩)
local macro_rules | `(tactic| walk_at "ix") => `(tactic| first
  | ((with_reducible apply rd_ixL); (walk_at "hl"); exact rfl)
  | ((with_reducible apply rd_ixT); (walk_at "ht"); exact rfl)
  | ((with_reducible apply rd_lenL); (walk_at "hl"))
  | ((with_reducible apply rd_lenT); (walk_at "ht"))
  | ((with_reducible apply rd_tupOf); (walk_at "hl"))
  | ((with_reducible apply rd_listOf); (walk_at "hl"))
  | (with_reducible refine rd_min2 ?_)
  | ((with_reducible apply rd_I); (walk_at "ci"))
  | ((with_reducible apply rd_setL); (walk_at "hp"); exact rfl))
local macro_rules | `(tactic| walk_at "gs") => `(tactic| repeat first | walk_at "rd1" | walk_at "ix")
local macro_rules | `(tactic| walk_at "go") => `(tactic| repeat first | walk_at "rd1" | walk_at "ix" | with_reducible refine rd_and ?_ | with_reducible refine rd_or ?_)
local macro_rules | `(tactic| walk_at "fo") => `(tactic| (with_reducible refine rd_for ?_))
local macro_rules | `(tactic| walk_at "pm") => `(tactic| repeat first
  | with_reducible first | refine rd_pcons ?_ | refine rd_pstr ?_ | refine rd_pcap ?_ | refine rd_pwild ?_ | refine rd_pnil ?_ | refine rd_por ?_ | refine rd_pno ?_
  | ((with_reducible refine rd_eq rfl ?_); refine ⟨_, rfl, ?_⟩; first | refine rd_T rfl ?_ | refine rd_F (by decide) ?_)
  | dsimp only [List.nil_append, List.singleton_append, List.cons_append, setAll])
local macro_rules | `(tactic| walk_at "pc") => `(tactic| (refine rd_case ?_); (first | (refine rd_phit (SqT.of (by assumption)) rfl ?_) | (refine rd_pmiss (SqT.of (by assumption)) (by simp) ?_)); (walk_at "pm"))

theorem rd_nFW {c A B : Prop} [Decidable c] (h : c) (h2 : B) : if (!decide c) = true then A else B := by rw [if_neg (by rw [decide_eq_true h]; decide)]; exact h2
structure NwF (K : PySem.W.Frag) (mg : Str → Option Value) (nw : Addr) : Prop where
  ex : PySem.W.excIn K nw [Value.type "ValueError", Value.type "Exception", Value.type "BaseException", Value.type "object"] "ValueError.__new__" = true
  g : mg "NoWhole" = some (.ref nw)
  kp : PySem.W.keepIn K (.ref nw) = true
  sub : PySem.W.subIn K (.ref nw) (.type "BaseException") = some true
  ty : PySem.W.typeIn K (.ref nw) = some (.type "type")
theorem Ch.rows_sgs : ∀ {c : Ch}, c.rows → c.root.isRow ∧ ∀ g ∈ c.sgs, g.rows
  | .mkr m, h => ⟨h, fun g hg => by cases hg⟩
  | .st c k, h => ⟨(Ch.rows_sgs (c := c) h).1, fun g hg => by
    rcases List.mem_append.mp (show g ∈ c.sgs ++ [.one k] from hg) with q | q
    · exact (Ch.rows_sgs (c := c) h).2 g q
    · rw [List.mem_singleton.mp q]; trivial⟩
  | .both c o, h => ⟨(Ch.rows_sgs (c := c) h.1).1, fun g hg => by
    rcases List.mem_append.mp (show g ∈ c.sgs ++ [.both o] from hg) with q | q
    · exact (Ch.rows_sgs (c := c) h.1).2 g q
    · rw [List.mem_singleton.mp q]; exact h.2⟩
  | .thn c o, h => ⟨(Ch.rows_sgs (c := c) h.1).1, fun g hg => by
    rcases List.mem_append.mp (show g ∈ c.sgs ++ [.thn o] from hg) with q | q
    · exact (Ch.rows_sgs (c := c) h.1).2 g q
    · rw [List.mem_singleton.mp q]; exact h.2⟩
/-- a chain's inner chains have fewer makers -/
theorem Ch.sgs_nm : ∀ {c : Ch}, ∀ g ∈ c.sgs, g.nm + 1 ≤ c.nm
  | .mkr m, g, hg => by cases hg
  | .st c k, g, hg => by
    rcases List.mem_append.mp (show g ∈ c.sgs ++ [.one k] from hg) with q | q
    · exact Ch.sgs_nm (c := c) g q
    · rw [List.mem_singleton.mp q]; exact c.nm_pos
  | .both c o, g, hg => by
    have := c.nm_pos
    rcases List.mem_append.mp (show g ∈ c.sgs ++ [.both o] from hg) with q | q
    · have := Ch.sgs_nm (c := c) g q; show g.nm + 1 ≤ c.nm + o.nm; omega
    · rw [List.mem_singleton.mp q]; show o.nm + 1 ≤ c.nm + o.nm; omega
  | .thn c o, g, hg => by
    have := c.nm_pos
    rcases List.mem_append.mp (show g ∈ c.sgs ++ [.thn o] from hg) with q | q
    · have := Ch.sgs_nm (c := c) g q; show g.nm + 1 ≤ c.nm + o.nm; omega
    · rw [List.mem_singleton.mp q]; show o.nm + 1 ≤ c.nm + o.nm; omega
theorem of_split (m : Mkr) (l : List Sg) (k : Nat) : (l.drop k).foldl Ch.snoc (Ch.of m (l.take k)) = Ch.of m l := by
  unfold Ch.of
  rw [← List.foldl_append, List.take_append_drop]
/-- none stays none -/
theorem row_none : ∀ (l : List Sg) (c : Ch), c.row = none → (l.foldl Ch.snoc c).row = none
  | [], _, h => h
  | g :: l, c, h => row_none l (c.snoc g) (by rw [row_snoc, h]; rfl)
section
variable {P : Program} {w : World} {K : PySem.W.Frag} {mg : Str → Option Value} {base : Heap} {f : Addr} {fd : FuncData} {nw : Addr}
theorem sc_whole_row : FnScope ["chain", "numbers", "stage"] ["chain"] (defScope s_whole_row) := ⟨rfl, rfl, rfl, by decide +kernel, rfl, by decide +kernel, by decide +kernel⟩
theorem ok_whole_row {n j : Nat} (T : Txt K mg) (L : NwF K mg nw) (F : FnP K "whole_row" "whole_row" s_whole_row f fd)
    (G_row_behind : Cal P w K mg base (L2.CX P w) j "row_behind" ["numbers", "stage"] (spBehindR nw n)) : FnOk P w K mg base (L2.CX P w) (j + 1) f fd ["chain"] (spWholeRow nw (n + 1)) := by
  refine okX F sc_whole_row (fun vs H Q E h => ?_) (fun cdv A outer s H vs Q E hr h px tk po => ?_)
  · obtain ⟨p, c, rfl, _⟩ := h
    rfl
  · obtain ⟨p, c, rfl, ⟨mk, ss, as, ep, ess, hst⟩, cok, crow, cnm, k1, k2⟩ := h
    have hg := hst.get
    have ho := Ch.ok_sgs cok
    have hr' := Ch.rows_sgs crow
    have hn := Ch.sgs_nm (c := c)
    obtain ⟨ns, hrt⟩ : ∃ ns, c.root = .row ns := by
      have := hr'.1
      cases h : c.root with
      | row ns => exact ⟨ns, rfl⟩
      | count b s => rw [h] at this; exact this.elim
    have hm := hst.root
    rw [hrt] at hm
    obtain ⟨t, em, et⟩ := hm
    refine ⟨_, (pss_cons (ps_set (i := 1) sc_whole_row.nd rfl (Or.inl rfl) (pe_callTy (call_listOfK K) (by rfl) T.free_list (by decide +kernel) (pa_cons (pe_ix (ix_tupK K) (pe_ix (ix_tupK K) (pv 0) pe_int (fun _ _ => rfl)) pe_int (fun _ _ => rfl)) pa_nil)))
  (pss_cons (ps_for po rfl (pi_tup (pe_ix (ix_tupK K) (pv 0) pe_int (fun _ _ => rfl))) (pg_name (i := 2) sc_whole_row.nd rfl (Or.inl rfl))
    (pss_cons (ps_set (i := 1) sc_whole_row.nd rfl (Or.inl rfl) (pe_cal G_row_behind (hr.mono (by omega)) px (pa_cons (pv 1) (pa_cons (pv 2) pa_nil))))
    (pss_one (ps_if (pt_cmpR op_gt (pe_callB (call_len1K K) (by rfl) T.free_len (by decide +kernel) (pa_cons (pv 1) pa_nil)) (pe_cint T.c_WHOLE_AT_MOST) (nomark _))
      (pss_one (ps_raise rfl tk (pmk_own PySem.F.excBase_ValueError L.ex L.g L.kp (raises_own L.sub L.ty) (by rfl)))) pss_nil))))
  (pss_one (ps_ret (pv 1))))), ?_⟩
    try dsimp only [cxOf, Cx.nox, Cx.wish]
    refine rd_at (σ' := [some (.ref p), none, none]) rfl ?_
    walk_at "go"
    refine ⟨t, _, rfl, .inr (SqT.of et), fun l hl => ?_⟩
    have ns100 : ns.length ≤ 100 := by have := ho.1; rw [hrt] at this; exact this.1
    have e0 : upd H l (.lst (ns.map V.int)) l = some (.lst (ns.map V.int)) := upd_same
    have f0 : Fr [] H (upd H l (.lst (ns.map V.int))) := Fr.new hl
    generalize upd H l (.lst (ns.map V.int)) = H0 at *
    walk_at "go"
    walk_at "fo"
    refine ⟨_, rfl, ?_⟩
    walk_at "go"
    refine rd_ixT (SqT.of (f0.tp ep)) rfl ?_
    refine ⟨ss, rfl, ⟨_, SqT.of (f0.tp ess)⟩, ?_⟩
    have dead : ∀ i, (Ch.of c.root (c.sgs.take i)).row = none → ∀ H', Fr [] H H' → E (.ref nw) none H' := fun i h H' f => k2 (by
      rw [← Ch.of_sgs c, ← of_split c.root c.sgs i]
      exact row_none _ _ h) H' f
    refine for_it (walk_tup (K := K) (a := ss) (xs := as.map V.ref)) (fun i σ H1 => ∃ (l : Addr) (v2 : Option V) (xs : List Int), σ = [some (.ref p), some (.ref l), v2] ∧ (Ch.of c.root (c.sgs.take i)).row = some xs ∧ H1 l = some (.lst (xs.map V.int)) ∧ H l = none ∧ xs.length ≤ 10000 ∧ Fr [] H H1) ⟨l, _, ns, rfl, by show (Ch.mkr c.root).row = _; rw [hrt]; rfl, e0, hl, by omega, f0⟩ (fun i σ H1 _ ⟨_, _, _, _, _, _, _, _, f⟩ => SqT.of (f.tp ess)) ?_ ?_
    · clear e0 f0 hl H0 l
      rintro i z σ H1 H2 hi ⟨l, v2, xs, rfl, hrow, el, hl, hx, f1⟩ ⟨rfl, hz⟩
      rw [List.length_map] at hi
      rw [List.getElem?_map, List.getElem?_eq_getElem hi] at hz
      cases hz
      obtain ⟨g, eg, sg⟩ := hg.2 i as[i] (List.getElem?_eq_getElem hi)
      have hgm : g ∈ c.sgs := List.mem_of_getElem? eg
      have stp : (Ch.of c.root (c.sgs.take (i + 1))).row = (g.row xs).bind cap := by rw [Ch.of_take c.root eg, row_snoc, hrow]; rfl
      walk_at "go"
      refine ⟨l, as[i], xs, g, rfl, el, hx, sg.fr f1, ho.2 g hgm, hr'.2 g hgm, by have := hn g hgm; omega, fun ys ey H3 q eq hq f3 => ?_, fun en H3 f3 => dead (i + 1) (by rw [stp, en]; rfl) H3 (f1.tr f3)⟩
      rw [ey] at stp
      have hq0 : H q = none := by
        rcases hq with rfl | hq
        · exact hl
        · exact f1.free (by simp) hq
      walk_at "go"
      rw [List.length_map]
      refine rd_dec (fun c1 => ?_) (fun c1 => ?_)
      · exact dead (i + 1) (by rw [stp]; show cap ys = none; unfold cap; rw [if_neg (by omega)]) H3 (f1.tr f3)
      · walk_at "go"
        have hy : ys.length ≤ 10000 := by omega
        exact ⟨q, _, ys, rfl, by rw [stp]; show cap ys = _; unfold cap; rw [if_pos hy], eq, hq0, hy, f1.tr f3⟩
    · rintro σ H1 ⟨l, v2, xs, rfl, hrow, el, hl, hx, f1⟩
      rw [List.length_map, hg.1, List.take_length, Ch.of_sgs] at hrow
      walk_at "go"
      exact k1 xs hrow H1 l el hl f1
def spWithin (n : Nat) : Sp := fun vs H Q _ => ∃ (p : Addr) (c : Ch), vs = [.ref p] ∧ ChAt H p c ∧ c.nm ≤ n ∧ c.ok ∧ ∀ H' q (ms : List Addr), H' q = some (.lst (ms.map V.ref)) → ms.length ≤ c.nm → (∀ a ∈ ms, ∃ m, MkAt H' a m ∧ (c.rows → m.isRow)) → H q = none → Fr [] H H' → Q (.ref q) H'
def spWhole (nw : Addr) : Sp := fun vs H Q E => ∃ (p : Addr) (c : Ch), vs = [.ref p] ∧ ChAt H p c ∧ c.ok ∧ c.rows ∧ c.nm ≤ 4 ∧ c.ns ≤ 12 ∧
  (∀ xs, c.row = some xs → ∀ H' q, H' q = some (.lst (xs.map V.int)) → H q = none → Fr [] H H' → Q (.ref q) H') ∧ (c.row = none → ∀ H', Fr [] H H' → E (.ref nw) none H')
theorem sc_makers_within : FnScope ["chain", "found", "stage"] ["chain"] (defScope s_makers_within) := ⟨rfl, rfl, rfl, by decide +kernel, rfl, by decide +kernel, by decide +kernel⟩
theorem ok_makers_within {n : Nat} (hn1 : n ≤ 1000) (T : Txt K mg) (F : FnP K "makers_within" "makers_within" s_makers_within f fd) (G_has_chain : Cal P w K mg base CX0 1 "has_chain" ["stage"] spHasChain)
    (G_makers_within : Cal P w K mg base CX0 (n + 1) "makers_within" ["chain"] (spWithin n)) : FnOk P w K mg base CX0 (n + 2) f fd ["chain"] (spWithin (n + 1)) := by
  refine ok0 F sc_makers_within (fun vs H Q E h => ?_) (fun cdv A outer s H vs Q E hr h => ?_)
  · obtain ⟨p, c, rfl, _⟩ := h
    rfl
  · obtain ⟨p, c, rfl, ⟨mk, ss, as, ep, ess, hst⟩, cnm, cok, k⟩ := h
    have hg := hst.get
    have ho := Ch.ok_sgs cok
    have hn := Ch.sgs_nm (c := c)
    refine ⟨_, (pss_cons (ps_set (i := 1) sc_makers_within.nd rfl (Or.inl rfl) (pe_lst (pa_cons (pe_ix (ix_tupK K) (pv 0) pe_int (fun _ _ => rfl)) pa_nil)))
  (pss_cons (ps_for PassesOwn.never rfl (pi_tup (pe_ix (ix_tupK K) (pv 0) pe_int (fun _ _ => rfl))) (pg_name (i := 2) sc_makers_within.nd rfl (Or.inl rfl))
    (pss_one (ps_if (pt_val (pe_cal G_has_chain (hr.mono (by omega)) pass0 (pa_cons (pv 2) pa_nil)))
      (pss_one (ps_expr (pe_bm PySem.F.plainAttrs_list PySem.F.slot_list_extend PySem.F.type_list_extend mt_extend (pv 1) (pa_cons (pe_cal G_makers_within (hr.mono (by omega)) pass0 (pa_cons (pe_ix (ix_tupK K) (pv 2) pe_int (fun _ _ => rfl)) pa_nil)) pa_nil)))) pss_nil)))
  (pss_one (ps_ret (pv 1))))), ?_⟩
    try dsimp only [cxOf, Cx.nox, Cx.wish]
    refine rd_at (σ' := [some (.ref p), none, none]) rfl ?_
    walk_at "go"
    refine ⟨by show 1 ≤ sizeLine; decide, fun l hl => ?_⟩
    have e0 : upd H l (.lst [.ref mk]) l = some (.lst ([mk].map V.ref)) := upd_same
    have f0 : Fr [] H (upd H l (.lst [.ref mk])) := Fr.new hl
    generalize upd H l (.lst [.ref mk]) = H0 at *
    walk_at "go"
    walk_at "fo"
    refine ⟨_, rfl, ?_⟩
    walk_at "go"
    refine rd_ixT (SqT.of (f0.tp ep)) rfl ?_
    refine ⟨ss, rfl, ⟨_, SqT.of (f0.tp ess)⟩, ?_⟩
    have hroot := hst.root
    refine for_it (walk_tup (K := K) (a := ss) (xs := as.map V.ref)) (fun i σ H1 => ∃ (v2 : Option V) (ms : List Addr), σ = [some (.ref p), some (.ref l), v2] ∧ H1 l = some (.lst (ms.map V.ref)) ∧ ms.length ≤ (Ch.of c.root (c.sgs.take i)).nm ∧ (∀ a ∈ ms, ∃ m, MkAt H1 a m ∧ (c.rows → m.isRow)) ∧ Fr [] H H1) ⟨_, [mk], rfl, e0, Nat.le_refl _, fun a ha => ⟨c.root, by rw [List.mem_singleton.mp ha]; exact hroot.fr f0, fun r => (Ch.rows_sgs r).1⟩, f0⟩ (fun i σ H1 _ ⟨_, _, _, _, _, _, f⟩ => SqT.of (f.tp ess)) ?_ ?_
    · clear e0 f0 H0
      rintro i z σ H1 H2 hi ⟨v2, ms, rfl, el, hlen, hms, f1⟩ ⟨rfl, hz⟩
      rw [List.length_map] at hi
      rw [List.getElem?_map, List.getElem?_eq_getElem hi] at hz
      cases hz
      obtain ⟨g, eg, sg⟩ := hg.2 i as[i] (List.getElem?_eq_getElem hi)
      have hgm : g ∈ c.sgs := List.mem_of_getElem? eg
      have stp : (Ch.of c.root (c.sgs.take (i + 1))).nm = (Ch.of c.root (c.sgs.take i)).nm + g.nm := by rw [Ch.of_take c.root eg, Ch.snoc_nm]
      have htot : (Ch.of c.root (c.sgs.take (i + 1))).nm ≤ c.nm := Ch.of_take_nm c (i + 1)
      walk_at "go"
      refine ⟨as[i], g, rfl, sg.fr f1, fun H3 f3 => ?_⟩
      have el3 := f3.at el (by simp)
      have nest : ∀ (o : Ch) (pi : Addr), g.nm = o.nm → ChAt H pi o → o.ok → (c.rows → o.rows) → (∃ nm, H as[i] = some (.tup [.str nm, .ref pi])) → tDrop (tBM K "list" rExtend (tVar 1) (tCons (tCall (spWithin n) [] E0 (tCons (tOp (rIxT K) (tVar 2) (tC (.int 1))) tNil)) tNil)) { nx := fun σ H1 => ∃ (v2 : Option V) (ms : List Addr), σ = [some (.ref p), some (.ref l), v2] ∧ H1 l = some (.lst (ms.map V.ref)) ∧ ms.length ≤ (Ch.of c.root (c.sgs.take (i + 1))).nm ∧ (∀ a ∈ ms, ∃ m, MkAt H1 a m ∧ (c.rows → m.isRow)) ∧ Fr [] H H1, rt := Q } [some (.ref p), some (.ref l), some (.ref as[i])] H3 := fun o pi enm hpi ook orow ⟨nm, ex⟩ => by
        have f13 := f1.tr f3
        have ex3 := f13.tp ex
        walk_at "go"
        refine ⟨tyl el3, ?_⟩
        walk_at "go"
        refine ⟨pi, o, rfl, hpi.fr f13, by have := hn g hgm; omega, ook, fun H4 q ms' eq hl' hm' hq f4 => ?_⟩
        have el4 := f4.at el3 (by simp)
        walk_at "go"
        refine ⟨l, q, _, _, rfl, rfl, el4, eq, ?_, ?_⟩
        · rw [List.length_map, List.length_map]
          exact Nat.le_trans (show ms.length + ms'.length ≤ 1001 by omega) (by decide)
        · walk_at "go"
          have fp : Fr [l] H4 (upd H4 l (.lst (ms.map V.ref ++ ms'.map V.ref))) := Fr.put (by simp) (nt el4)
          refine ⟨_, ms ++ ms', rfl, by rw [upd_same, List.map_append], by rw [List.length_append]; omega, fun a ha => ?_, (f13.tr f4).putN (.inr hl) (nt el4)⟩
          rcases List.mem_append.mp ha with z | z
          · obtain ⟨m, h1, h2⟩ := hms a z
            exact ⟨m, ((h1.fr f3).fr f4).fr fp, h2⟩
          · obtain ⟨m, h1, h2⟩ := hm' a z
            exact ⟨m, h1.fr fp, fun r => h2 (orow r)⟩
      cases g with
      | one kd =>
        refine ⟨false, rfl, ?_⟩
        walk_at "go"
        exact ⟨_, ms, rfl, el3, by rw [stp]; exact hlen, fun a ha => let ⟨m, h1, h2⟩ := hms a ha; ⟨m, h1.fr f3, h2⟩, f1.tr f3⟩
      | both o =>
        refine ⟨true, rfl, ?_⟩
        obtain ⟨pi, ex, hpi⟩ := sg
        exact nest o pi rfl hpi (ho.2 _ hgm) (fun r => (Ch.rows_sgs r).2 _ hgm) ⟨_, ex⟩
      | thn o =>
        refine ⟨true, rfl, ?_⟩
        obtain ⟨pi, ex, hpi⟩ := sg
        exact nest o pi rfl hpi (ho.2 _ hgm) (fun r => (Ch.rows_sgs r).2 _ hgm) ⟨_, ex⟩
    · rintro σ H1 ⟨v2, ms, rfl, el, hlen, hms, f1⟩
      rw [List.length_map, hg.1, List.take_length, Ch.of_sgs] at hlen
      walk_at "go"
      exact k H1 l ms el hlen hms hl f1
theorem sc_whole : FnScope ["chain", "maker"] ["chain"] (defScope s_whole) := ⟨rfl, rfl, rfl, by decide +kernel, rfl, by decide +kernel, by decide +kernel⟩
theorem ok_whole (T : Txt K mg) (L : NwF K mg nw) (F : FnP K "whole" "whole" s_whole f fd) (G_check_chain : Cal P w K mg base CX0 5 "check_chain" ["chain"] spCheck)
    (G_makers_within : Cal P w K mg base CX0 5 "makers_within" ["chain"] (spWithin 4)) (G_whole_row : Cal P w K mg base (L2.CX P w) 9 "whole_row" ["chain"] (spWholeRow nw 4)) :
    FnOk P w K mg base (L2.CX P w) 10 f fd ["chain"] (spWhole nw) := by
  refine okX F sc_whole (fun vs H Q E h => ?_) (fun cdv A outer s H vs Q E hr h px tk po => ?_)
  · obtain ⟨p, c, rfl, _⟩ := h
    rfl
  · obtain ⟨p, c, rfl, hc, cok, crow, cnm, cns, k1, k2⟩ := h
    refine ⟨_, (pss_cons (ps_expr (pe_cal G_check_chain (hr.mono (by omega)) pass0 (pa_cons (pv 0) pa_nil)))
  (pss_cons (ps_for po rfl (pi_list (pe_cal G_makers_within (hr.mono (by omega)) pass0 (pa_cons (pv 0) pa_nil))) (pg_name (i := 1) sc_whole.nd rfl (Or.inl rfl))
    (pss_one (ps_if (pt_cmpR op_ne (pe_ix (ix_tupK K) (pv 1) pe_int (fun _ _ => rfl)) pe_str (nomark _))
      (pss_one (ps_raise rfl tk (pmk_own PySem.F.excBase_ValueError L.ex L.g L.kp (raises_own L.sub L.ty) (by rfl)))) pss_nil)))
  (pss_one (ps_ret (pe_cal G_whole_row (hr.mono (by omega)) px (pa_cons (pv 0) pa_nil)))))), ?_⟩
    try dsimp only [cxOf, Cx.nox, Cx.wish]
    refine rd_at (σ' := [some (.ref p), none]) rfl ?_
    walk_at "go"
    refine ⟨p, c, rfl, hc, cok, cnm, cns, fun H1 f1 => ?_⟩
    walk_at "go"
    walk_at "fo"
    walk_at "go"
    refine ⟨p, c, rfl, hc.fr f1, cnm, cok, fun H2 q ms eq hms hm hq f2 => ?_⟩
    refine ⟨q, rfl, ⟨_, SqL.of eq⟩, ?_⟩
    refine for_list (K := K) (a := q) (xs := ms.map V.ref) (fun i σ H3 => ∃ v1, σ = [some (.ref p), v1] ∧ H3 = H2) ⟨_, rfl, rfl⟩ (fun i σ H3 _ ⟨_, _, e⟩ => e ▸ SqL.of eq) ?_ ?_
    · rintro i z σ H3 hz ⟨v1, rfl, rfl⟩
      obtain ⟨a, ha, rfl⟩ : ∃ a ∈ ms, z = .ref a := by
        have := List.mem_of_getElem? hz
        obtain ⟨a, h1, h2⟩ := List.mem_map.mp this
        exact ⟨a, h1, h2.symm⟩
      obtain ⟨m, em, hr'⟩ := hm a ha
      cases m with
      | count b s => exact (hr' crow).elim
      | row ns =>
        obtain ⟨r, er, _⟩ := em
        walk_at "go"
        refine rd_nFW rfl ?_
        walk_at "go"
        exact ⟨_, rfl, rfl⟩
    · rintro σ H3 ⟨v1, rfl, rfl⟩
      walk_at "go"
      exact ⟨p, c, rfl, (hc.fr f1).fr f2, cok, crow, cnm, fun xs ex H' q' e' h' f' => k1 xs ex H' q' e' ((f1.tr f2).free (by simp) h') ((f1.tr f2).tr f'), fun en H' f' => k2 en H' ((f1.tr f2).tr f')⟩
end
end Dc

set_option Elab.async false
set_option linter.all false
set_option maxRecDepth 100000
set_option maxHeartbeats 2000000
namespace Dc
open PySem PySem.Spec PyProof.Rows L2
local macro_rules | `(tactic| walk_at "ne") => `(tactic| first | assumption | (refine Ne.symm ?_; assumption) | exact ne_of (by assumption) (by assumption) (by intro q; cases q) | exact ne_of_none (by assumption) (by assumption) | exact Ne.symm (ne_of_none (by assumption) (by assumption)))
local macro_rules | `(tactic| walk_at "hp") => `(tactic| first | assumption | exact upd_same | (refine upd_keep ?_ (by assumption); walk_at "hp") | (refine upd_other ?_ ?_; · walk_at "ne"; · walk_at "hp"))
local macro_rules | `(tactic| walk_at "hl") => `(tactic| first | assumption | exact SqL.of (by walk_at "hp"))
local macro_rules | `(tactic| walk_at "ht") => `(tactic| first | assumption | exact SqT.of (by walk_at "hp"))
local macro_rules | `(tactic| walk_at "rd1") => `(tactic| first
  | ((with_reducible apply rd_var); exact rfl)
  | ((with_reducible apply rd_eq); exact rfl) | ((with_reducible apply rd_ne); exact rfl)
  | with_reducible first
  | refine iteT ?_ | refine iteF ?_ | refine rd_nF ?_ | refine rd_nT ?_ | refine rd_yes ?_ | refine rd_c ?_ | refine rd_op ?_ | refine rd_un ?_ | refine rd_test ?_ | refine rd_B ?_ | refine rd_bl ?_ | refine rd_seq ?_ | refine rd_next ?_ | refine rd_ifs ?_ | refine rd_asg ?_ | refine rd_name ?_ | refine rd_ret ?_ | refine rd_drop ?_
  | refine rd_call ?_ | refine rd_cons ?_ | refine rd_nil ?_ | refine rd_cb ?_ | refine rd_I0 ?_ | refine rd_U ?_ | refine rd_gsub ?_ | refine rd_lst ?_ | refine rd_tup ?_ | refine rd_if ?_ | refine rd_not ?_ | refine rd_rng1 ?_ | refine rd_itup ?_ | refine rd_ilst ?_ | refine rd_bm ?_ | refine rd_bm0 ?_ | refine rd_andV ?_ | refine rd_orV ?_ | refine rd_notV ?_)
local macro_rules | `(tactic| walk_at "rd") => `(tactic| repeat walk_at "rd1")
local macro_rules | `(tactic| walk_at "ci") => `(tactic| first | assumption | (show (0 : Int) < _; first | decide | omega) | exact ⟨by decide, by decide⟩ | exact Or.inr ⟨by decide, by decide⟩ | exact Or.inl ⟨by decide, by decide⟩ | exact ⟨by decide, by decide, by decide⟩ | exact Or.inl ⟨by omega, by omega⟩ | exact Or.inr ⟨by omega, by omega⟩)
local macro_rules | `(tactic| walk_at "ix") => `(tactic| first
  | ((with_reducible apply rd_ixL); (walk_at "hl"); exact rfl)
  | ((with_reducible apply rd_ixT); (walk_at "ht"); exact rfl)
  | ((with_reducible apply rd_lenL); (walk_at "hl"))
  | ((with_reducible apply rd_lenT); (walk_at "ht"))
  | ((with_reducible apply rd_tupOf); (walk_at "hl"))
  | ((with_reducible apply rd_listOf); (walk_at "hl"))
  | (with_reducible refine rd_min2 ?_)
  | ((with_reducible apply rd_I); (walk_at "ci"))
  | ((with_reducible apply rd_setL); (walk_at "hp"); exact rfl))
local macro_rules | `(tactic| walk_at "gs") => `(tactic| repeat first | walk_at "rd1" | walk_at "ix")
local macro_rules | `(tactic| walk_at "go") => `(tactic| repeat first | walk_at "rd1" | walk_at "ix" | with_reducible refine rd_and ?_ | with_reducible refine rd_or ?_)
local macro_rules | `(tactic| walk_at "fo") => `(tactic| (with_reducible refine rd_for ?_))
local macro_rules | `(tactic| walk_at "pm") => `(tactic| repeat first
  | with_reducible first | refine rd_pcons ?_ | refine rd_pstr ?_ | refine rd_pcap ?_ | refine rd_pwild ?_ | refine rd_pnil ?_ | refine rd_por ?_ | refine rd_pno ?_
  | ((with_reducible refine rd_eq rfl ?_); refine ⟨_, rfl, ?_⟩; first | refine rd_T rfl ?_ | refine rd_F (by decide) ?_)
  | dsimp only [List.nil_append, List.singleton_append, List.cons_append, setAll])
local macro_rules | `(tactic| walk_at "pc") => `(tactic| (refine rd_case ?_); (first | (refine rd_phit (SqT.of (by assumption)) rfl ?_) | (refine rd_pmiss (SqT.of (by assumption)) (by simp) ?_)); (walk_at "pm"))

theorem rd_nTW {c A B : Prop} [Decidable c] (h : ¬ c) (h2 : A) : if (!decide c) = true then A else B := by rw [if_pos (by rw [decide_eq_false h]; decide)]; exact h2
/-- a row, or none -/
def rowV (H : Hp) : Option (List Int) → V → Prop
  | some xs, v => ∃ q, v = .ref q ∧ H q = some (.lst (xs.map V.int))
  | none, v => v = .non
theorem rowV.fr {H H' : Hp} (f : Fr [] H H') : ∀ {o : Option (List Int)} {v : V}, rowV H o v → rowV H' o v
  | some xs, v, ⟨q, e, h⟩ => ⟨q, e, f.at h (by simp)⟩
  | none, _, h => h
section
variable {P : Program} {w : World} {K : PySem.W.Frag} {mg : Str → Option Value} {base : Heap} {f : Addr} {fd : FuncData}
theorem sc__law_row : FnScope ["_law_chain", "_law_row_here", "_law_stage"] ["_law_chain"] (defScope s__law_row) := ⟨rfl, rfl, rfl, by decide +kernel, rfl, by decide +kernel, by decide +kernel⟩
theorem ok_law_row {n j : Nat} (T : Txt K mg) (F : FnP K "_law_row" "_law_row" s__law_row f fd) (G__law_behind : Cal P w K mg base CX0 j "_law_behind" ["_law_stage", "_law_row_here"] (spLBehind n)) : FnOk P w K mg base CX0 (j + 1) f fd ["_law_chain"] (spLRow (n + 1)) := by
  refine ok0 F sc__law_row (fun vs H Q E h => ?_) (fun cdv A outer s H vs Q E hr h => ?_)
  · obtain ⟨p, c, rfl, _⟩ := h
    rfl
  · obtain ⟨p, c, rfl, ⟨mk, ss, as, ep, ess, hst⟩, cok, crow, cnm, k1, k2⟩ := h
    have hg := hst.get
    have ho := Ch.ok_sgs cok
    have hr' := Ch.rows_sgs crow
    have hn := Ch.sgs_nm (c := c)
    obtain ⟨ns, hrt⟩ : ∃ ns, c.root = .row ns := by
      have := hr'.1
      cases h : c.root with
      | row ns => exact ⟨ns, rfl⟩
      | count b s => rw [h] at this; exact this.elim
    have hm := hst.root
    rw [hrt] at hm
    obtain ⟨t, em, et⟩ := hm
    refine ⟨_, (pss_cons (ps_set (i := 1) sc__law_row.nd rfl (Or.inl rfl) (pe_callTy (call_listOfK K) (by rfl) T.free_list (by decide +kernel) (pa_cons (pe_ix (ix_tupK K) (pe_ix (ix_tupK K) (pv 0) pe_int (fun _ _ => rfl)) pe_int (fun _ _ => rfl)) pa_nil)))
  (pss_cons (ps_for PassesOwn.never rfl (pi_tup (pe_ix (ix_tupK K) (pv 0) pe_int (fun _ _ => rfl))) (pg_name (i := 2) sc__law_row.nd rfl (Or.inl rfl))
    (pss_cons (ps_if (pt_cmpR op_notN (pv 1) pe_non (nomark _))
      (pss_one (ps_set (i := 1) sc__law_row.nd rfl (Or.inl rfl) (pe_cal G__law_behind (hr.mono (by omega)) pass0 (pa_cons (pv 2) (pa_cons (pv 1) pa_nil))))) pss_nil)
    (pss_one (ps_if (PW.pt (pw_and (pt_cmpR op_notN (pv 1) pe_non (nomark _)) (pw_and1 (pt_cmpR op_gt (pe_callB (call_len1K K) (by rfl) T.free_len (by decide +kernel) (pa_cons (pv 1) pa_nil)) pe_int (nomark _)))))
      (pss_one (ps_set (i := 1) sc__law_row.nd rfl (Or.inl rfl) pe_non)) pss_nil))))
  (pss_one (ps_ret (pv 1))))), ?_⟩
    try dsimp only [cxOf, Cx.nox, Cx.wish]
    refine rd_at (σ' := [some (.ref p), none, none]) rfl ?_
    walk_at "go"
    refine ⟨t, _, rfl, .inr (SqT.of et), fun l hl => ?_⟩
    have ns100 : ns.length ≤ 100 := by have := ho.1; rw [hrt] at this; exact this.1
    have e0 : upd H l (.lst (ns.map V.int)) l = some (.lst (ns.map V.int)) := upd_same
    have f0 : Fr [] H (upd H l (.lst (ns.map V.int))) := Fr.new hl
    generalize upd H l (.lst (ns.map V.int)) = H0 at *
    walk_at "go"
    walk_at "fo"
    refine ⟨_, rfl, ?_⟩
    walk_at "go"
    refine rd_ixT (SqT.of (f0.tp ep)) rfl ?_
    refine ⟨ss, rfl, ⟨_, SqT.of (f0.tp ess)⟩, ?_⟩
    have dead : ∀ i, (Ch.of c.root (c.sgs.take i)).row = none → c.row = none := fun i h => by
      rw [← Ch.of_sgs c, ← of_split c.root c.sgs i]
      exact row_none _ _ h
    refine for_it (walk_tup (K := K) (a := ss) (xs := as.map V.ref)) (fun i σ H1 => ∃ (v : V) (v2 : Option V), σ = [some (.ref p), some v, v2] ∧ Fr [] H H1 ∧ ((∃ (l : Addr) (xs : List Int), v = .ref l ∧ (Ch.of c.root (c.sgs.take i)).row = some xs ∧ H1 l = some (.lst (xs.map V.int)) ∧ H l = none ∧ xs.length ≤ 10000) ∨ (v = .non ∧ (Ch.of c.root (c.sgs.take i)).row = none))) ⟨_, _, rfl, f0, .inl ⟨l, ns, rfl, by show (Ch.mkr c.root).row = _; rw [hrt]; rfl, e0, hl, by omega⟩⟩ (fun i σ H1 _ ⟨_, _, _, f, _⟩ => SqT.of (f.tp ess)) ?_ ?_
    · clear e0 f0 hl H0 l
      rintro i z σ H1 H2 hi ⟨v, v2, rfl, f1, hv⟩ ⟨rfl, hz⟩
      rw [List.length_map] at hi
      rw [List.getElem?_map, List.getElem?_eq_getElem hi] at hz
      cases hz
      obtain ⟨g, eg, sg⟩ := hg.2 i as[i] (List.getElem?_eq_getElem hi)
      have hgm : g ∈ c.sgs := List.mem_of_getElem? eg
      have stp0 : (Ch.of c.root (c.sgs.take (i + 1))).row = (Ch.of c.root (c.sgs.take i)).row.bind fun xs => (g.row xs).bind cap := by rw [Ch.of_take c.root eg, row_snoc]
      rcases hv with ⟨l, xs, rfl, hrow, el, hl, hx⟩ | ⟨rfl, hrow⟩
      · have stp : (Ch.of c.root (c.sgs.take (i + 1))).row = (g.row xs).bind cap := by rw [stp0, hrow]; rfl
        walk_at "go"
        refine ⟨rfl, ?_⟩
        walk_at "go"
        refine rd_nTW (by intro z; cases z) ?_
        walk_at "go"
        refine ⟨l, as[i], xs, g, rfl, el, hx, sg.fr f1, ho.2 g hgm, hr'.2 g hgm, by have := hn g hgm; omega, fun ys ey H3 q eq hq f3 => ?_, fun en H3 f3 => ?_⟩
        · rw [ey] at stp
          have hq0 : H q = none := f1.free (by simp) hq
          walk_at "go"
          refine ⟨rfl, ?_⟩
          walk_at "go"
          refine rd_nTW (by intro z; cases z) ?_
          walk_at "go"
          rw [List.length_map]
          refine rd_dec (fun c1 => ?_) (fun c1 => ?_)
          · walk_at "go"
            exact ⟨_, _, rfl, f1.tr f3, .inr ⟨rfl, by rw [stp]; show cap ys = none; unfold cap; rw [if_neg (by omega)]⟩⟩
          · walk_at "go"
            have hy : ys.length ≤ 10000 := by omega
            exact ⟨_, _, rfl, f1.tr f3, .inl ⟨q, ys, rfl, by rw [stp]; show cap ys = _; unfold cap; rw [if_pos hy], eq, hq0, hy⟩⟩
        · walk_at "go"
          refine ⟨rfl, ?_⟩
          walk_at "go"
          refine rd_nFW rfl ?_
          walk_at "go"
          exact ⟨_, _, rfl, f1.tr f3, .inr ⟨rfl, by rw [stp, en]; rfl⟩⟩
      · walk_at "go"
        refine ⟨rfl, ?_⟩
        walk_at "go"
        refine rd_nFW rfl ?_
        walk_at "go"
        refine ⟨rfl, ?_⟩
        walk_at "go"
        refine rd_nFW rfl ?_
        walk_at "go"
        exact ⟨_, _, rfl, f1, .inr ⟨rfl, by rw [stp0, hrow]; rfl⟩⟩
    · rintro σ H1 ⟨v, v2, rfl, f1, hv⟩
      rw [List.length_map, hg.1, List.take_length, Ch.of_sgs] at hv
      walk_at "go"
      rcases hv with ⟨l, xs, rfl, hrow, el, hl, hx⟩ | ⟨rfl, hrow⟩
      · exact k1 xs hrow H1 l el hl f1
      · exact k2 hrow H1 f1
theorem lrows {fR fB fO : Addr} {dR dB dO : FuncData} (T : Txt K mg) (FR : FnP K "_law_row" "_law_row" s__law_row fR dR) (gR : mg "_law_row" = some (.ref fR)) (FB : FnP K "_law_behind" "_law_behind" s__law_behind fB dB) (gB : mg "_law_behind" = some (.ref fB))
    (FO : FnP K "_law_often" "_law_often" s__law_often fO dO) (gO : mg "_law_often" = some (.ref fO)) : ∀ n, Cal P w K mg base CX0 (2 * n + 1) "_law_row" ["_law_chain"] (spLRow n)
  | 0 => cal_of FR gR (ok0 FR sc__law_row (fun vs H Q E ⟨p, c, _, _, _, _, h, _⟩ => absurd h (by have := c.nm_pos; omega)) fun cdv A outer s H vs Q E hr ⟨p, c, _, _, _, _, h, _⟩ => absurd h (by have := c.nm_pos; omega)) fun _ _ _ _ _ _ us hl => match us, hl with | [_], _ => rfl
  | n + 1 => by
    have ih := lrows T FR gR FB gB FO gO n
    have GO : Cal P w K mg base CX0 1 "_law_often" ["_law_stage", "_law_row_here", "_law_k", "_law_ended"] spOften := cal_of FO gO (ok_law_often T FO) fun _ _ _ _ _ _ us hl => match us, hl with | [_, _, _, _], _ => rfl
    have GB : Cal P w K mg base CX0 (2 * n + 2) "_law_behind" ["_law_stage", "_law_row_here"] (spLBehind n) := cal_of FB gB (ok_law_behind (j := 2 * n + 1) (by omega) T FB ih GO) fun _ _ _ _ _ _ us hl => match us, hl with | [_, _], _ => rfl
    exact cal_of FR gR (ok_law_row T FR GB) fun _ _ _ _ _ _ us hl => match us, hl with | [_], _ => rfl
end
end Dc

set_option Elab.async false
set_option linter.all false
set_option maxRecDepth 100000
set_option maxHeartbeats 2000000
namespace Dc
open PySem PySem.Spec PyProof.Rows L2
local macro_rules | `(tactic| walk_at "ne") => `(tactic| first | assumption | (refine Ne.symm ?_; assumption) | exact ne_of (by assumption) (by assumption) (by intro q; cases q) | exact ne_of_none (by assumption) (by assumption) | exact Ne.symm (ne_of_none (by assumption) (by assumption)))
local macro_rules | `(tactic| walk_at "hp") => `(tactic| first | assumption | exact upd_same | (refine upd_keep ?_ (by assumption); walk_at "hp") | (refine upd_other ?_ ?_; · walk_at "ne"; · walk_at "hp"))
local macro_rules | `(tactic| walk_at "hl") => `(tactic| first | assumption | exact SqL.of (by walk_at "hp"))
local macro_rules | `(tactic| walk_at "ht") => `(tactic| first | assumption | exact SqT.of (by walk_at "hp"))
local macro_rules | `(tactic| walk_at "rd1") => `(tactic| first
  | ((with_reducible apply rd_var); exact rfl)
  | ((with_reducible apply rd_eq); exact rfl) | ((with_reducible apply rd_ne); exact rfl)
  | with_reducible first
  | refine iteT ?_ | refine iteF ?_ | refine rd_nF ?_ | refine rd_nT ?_ | refine rd_yes ?_ | refine rd_c ?_ | refine rd_op ?_ | refine rd_un ?_ | refine rd_test ?_ | refine rd_B ?_ | refine rd_bl ?_ | refine rd_seq ?_ | refine rd_next ?_ | refine rd_ifs ?_ | refine rd_asg ?_ | refine rd_name ?_ | refine rd_ret ?_ | refine rd_drop ?_
  | refine rd_call ?_ | refine rd_cons ?_ | refine rd_nil ?_ | refine rd_cb ?_ | refine rd_I0 ?_ | refine rd_U ?_ | refine rd_gsub ?_ | refine rd_lst ?_ | refine rd_tup ?_ | refine rd_if ?_ | refine rd_not ?_ | refine rd_rng1 ?_ | refine rd_itup ?_ | refine rd_ilst ?_ | refine rd_bm ?_ | refine rd_bm0 ?_ | refine rd_andV ?_ | refine rd_orV ?_ | refine rd_notV ?_)
local macro_rules | `(tactic| walk_at "rd") => `(tactic| repeat walk_at "rd1")
local macro_rules | `(tactic| walk_at "ci") => `(tactic| first | assumption | (show (0 : Int) < _; first | decide | omega) | exact ⟨by decide, by decide⟩ | exact Or.inr ⟨by decide, by decide⟩ | exact Or.inl ⟨by decide, by decide⟩ | exact ⟨by decide, by decide, by decide⟩ | exact Or.inl ⟨by omega, by omega⟩ | exact Or.inr ⟨by omega, by omega⟩)
local macro_rules | `(tactic| walk_at "ix") => `(tactic| first
  | ((with_reducible apply rd_ixL); (walk_at "hl"); exact rfl)
  | ((with_reducible apply rd_ixT); (walk_at "ht"); exact rfl)
  | ((with_reducible apply rd_lenL); (walk_at "hl"))
  | ((with_reducible apply rd_lenT); (walk_at "ht"))
  | ((with_reducible apply rd_tupOf); (walk_at "hl"))
  | ((with_reducible apply rd_listOf); (walk_at "hl"))
  | (with_reducible refine rd_min2 ?_)
  | ((with_reducible apply rd_I); (walk_at "ci"))
  | ((with_reducible apply rd_setL); (walk_at "hp"); exact rfl))
local macro_rules | `(tactic| walk_at "gs") => `(tactic| repeat first | walk_at "rd1" | walk_at "ix")
local macro_rules | `(tactic| walk_at "go") => `(tactic| repeat first | walk_at "rd1" | walk_at "ix" | with_reducible refine rd_and ?_ | with_reducible refine rd_or ?_)
local macro_rules | `(tactic| walk_at "fo") => `(tactic| (with_reducible refine rd_for ?_))
local macro_rules | `(tactic| walk_at "pm") => `(tactic| repeat first
  | with_reducible first | refine rd_pcons ?_ | refine rd_pstr ?_ | refine rd_pcap ?_ | refine rd_pwild ?_ | refine rd_pnil ?_ | refine rd_por ?_ | refine rd_pno ?_
  | ((with_reducible refine rd_eq rfl ?_); refine ⟨_, rfl, ?_⟩; first | refine rd_T rfl ?_ | refine rd_F (by decide) ?_)
  | dsimp only [List.nil_append, List.singleton_append, List.cons_append, setAll])
local macro_rules | `(tactic| walk_at "pc") => `(tactic| (refine rd_case ?_); (first | (refine rd_phit (SqT.of (by assumption)) rfl ?_) | (refine rd_pmiss (SqT.of (by assumption)) (by simp) ?_)); (walk_at "pm"))

/-- two values that look the same, at most n deep -/
def Sm0 (v w : V) : Prop := (∃ i : Int, v = .int i ∧ w = .int i) ∨ (∃ s : Str, v = .str s ∧ w = .str s)
def Sm : Nat → Hp → V → V → Prop
  | 0, _, v, w => Sm0 v w
  | n + 1, H, v, w => Sm0 v w ∨ ∃ (a b : Addr) (xs ys : List V), v = .ref a ∧ w = .ref b ∧ ((H a = some (.lst xs) ∧ H b = some (.lst ys)) ∨ (H a = some (.tup xs) ∧ H b = some (.tup ys))) ∧ xs.length = ys.length ∧ (xs.length : Int) < 2 ^ 62 ∧
      ∀ (i : Nat) (x y : V), xs[i]? = some x → ys[i]? = some y → Sm n H x y
theorem Sm.fr {H H' : Hp} (f : Fr [] H H') : ∀ {n : Nat} {v w : V}, Sm n H v w → Sm n H' v w
  | 0, _, _, h => h
  | n + 1, _, _, .inl h => .inl h
  | n + 1, _, _, .inr ⟨a, b, xs, ys, e1, e2, e3, e4, e5, e6⟩ => .inr ⟨a, b, xs, ys, e1, e2, e3.imp (fun z => ⟨f.at z.1 (by simp), f.at z.2 (by simp)⟩) (fun z => ⟨f.at z.1 (by simp), f.at z.2 (by simp)⟩), e4, e5, fun i x y h1 h2 => (e6 i x y h1 h2).fr f⟩
def spSame (n : Nat) : Sp := fun vs H Q _ => ∃ v w, vs = [v, w] ∧ Sm n H v w ∧ ∀ H', Fr [] H H' → Q (.bl true) H'
theorem rd_nF' {c A B : Prop} [Decidable c] (h : c) (h2 : B) : if (!decide c) = true then A else B := by rw [if_neg (by rw [decide_eq_true h]; decide)]; exact h2
theorem isi_int_tuple : kitB "int" "tuple" = some false := by decide +kernel
theorem isi_int_list : kitB "int" "list" = some false := by decide +kernel
theorem isi_int_str : kitB "int" "str" = some false := by decide +kernel
theorem isi_str_tuple : kitB "str" "tuple" = some false := by decide +kernel
theorem isi_str_bool : kitB "str" "bool" = some false := by decide +kernel
theorem isi_str_int : kitB "str" "int" = some false := by decide +kernel
theorem isi_str_str : kitB "str" "str" = some true := by decide +kernel
theorem isi_tup_list : kitB "tuple" "list" = some false := by decide +kernel
theorem isi_list_tuple : kitB "list" "tuple" = some false := by decide +kernel
theorem isi_tup_tup : kitB "tuple" "tuple" = some true := by decide +kernel
theorem sm0_at {xs : List V} (h : ∀ x ∈ xs, Sm0 x x) {n : Nat} {H : Hp} (i : Nat) (x y : V) (e1 : xs[i]? = some x) (e2 : xs[i]? = some y) : Sm n H x y := by
  rw [e1] at e2
  cases e2
  have := h x (List.mem_of_getElem? e1)
  cases n with
  | zero => exact this
  | succ n => exact .inl this
theorem room1 {k : Nat} {A : Around} (r : Room k A) : A.units + 1 < cLine := by have := r.un; omega
theorem isi_str_list : kitB "str" "list" = some false := by decide +kernel
theorem isi_list_list : kitB "list" "list" = some true := by decide +kernel
theorem sm_ints {H : Hp} {a b : Addr} {xs : List Int} {n : Nat} (h1 : H a = some (.lst (xs.map V.int))) (h2 : H b = some (.lst (xs.map V.int))) (hl : xs.length ≤ 10000) : Sm (n + 1) H (.ref a) (.ref b) :=
  .inr ⟨a, b, _, _, rfl, rfl, .inl ⟨h1, h2⟩, rfl, by rw [List.length_map]; omega, sm0_at (by
    intro x hx
    obtain ⟨i, _, rfl⟩ := List.mem_map.mp hx
    exact .inl ⟨_, rfl, rfl⟩)⟩
theorem sm_pair {H : Hp} {a b : Addr} {x1 x2 y1 y2 : V} {n : Nat} (h1 : H a = some (.lst [x1, x2])) (h2 : H b = some (.lst [y1, y2])) (s1 : Sm n H x1 y1) (s2 : Sm n H x2 y2) : Sm (n + 1) H (.ref a) (.ref b) :=
  .inr ⟨a, b, _, _, rfl, rfl,   .inl ⟨h1, h2⟩, rfl, by simp only [List.length_cons, List.length_nil]; omega, fun i x y e1 e2 => by
    match i, e1, e2 with
    | 0, e1, e2 => cases e1; cases e2; exact s1
    | 1, e1, e2 => cases e1; cases e2; exact s2
    | i + 2, e1, e2 => cases e1⟩
section
variable {P : Program} {w : World} {K : PySem.W.Frag} {mg : Str → Option Value} {base : Heap}
theorem sc__law_same : FnScope ["_law_found", "_law_due", "_law_k", "_law_alike"] ["_law_found", "_law_due"] (defScope s__law_same) := ⟨rfl, rfl, rfl, by decide +kernel, rfl, by decide +kernel, by decide +kernel⟩
theorem ok_law_same {n j : Nat} (T : Txt K mg) {f : Addr} {fd : FuncData} (F : FnP K "_law_same" "_law_same" s__law_same f fd) (sp : Sp) (hsp : ∀ m, n = m + 1 → sp = spSame m) (G__law_same : Cal P w K mg base CX0 j "_law_same" ["_law_found", "_law_due"] sp) : FnOk P w K mg base CX0 (j + 1) f fd ["_law_found", "_law_due"] (spSame n) := by
  refine ok0 F sc__law_same (fun vs H Q E h => ?_) (fun cdv A outer s H vs Q E hr h => ?_)
  · obtain ⟨v, w, rfl, _⟩ := h
    rfl
  · obtain ⟨v, w, rfl, hs, k⟩ := h
    have hu := room1 hr
    have hu64 := hr.units
    refine ⟨_, (pss_cons (ps_if (pt_val (pe_callB (call_isiTK K) (by rfl) T.free_isinstance (by decide +kernel) (pa_cons (pv 1) (pa_cons (pe_tup (pa_cons (pe_bltn (v := .ty "tuple") (u := .type "tuple") (by rfl) T.free_tuple (by decide +kernel) rfl) (pa_cons (pe_bltn (v := .ty "list") (u := .type "list") (by rfl) T.free_list (by decide +kernel) rfl) pa_nil))) pa_nil))))
    (pss_cons (ps_if (PW.pt (pw_or (pt_not (pt_val (pe_callB (call_isiTK K) (by rfl) T.free_isinstance (by decide +kernel) (pa_cons (pv 0) (pa_cons (pe_tup (pa_cons (pe_bltn (v := .ty "tuple") (u := .type "tuple") (by rfl) T.free_tuple (by decide +kernel) rfl) (pa_cons (pe_bltn (v := .ty "list") (u := .type "list") (by rfl) T.free_list (by decide +kernel) rfl) pa_nil))) pa_nil))))) (pw_or1 (pt_cmpR op_ne (pe_callB (call_isiK1 K) (by rfl) T.free_isinstance (by decide +kernel) (pa_cons (pv 0) (pa_cons (pe_bltn (v := .ty "list") (u := .type "list") (by rfl) T.free_list (by decide +kernel) rfl) pa_nil))) (pe_callB (call_isiK1 K) (by rfl) T.free_isinstance (by decide +kernel) (pa_cons (pv 1) (pa_cons (pe_bltn (v := .ty "list") (u := .type "list") (by rfl) T.free_list (by decide +kernel) rfl) pa_nil))) (nomark _)))))
      (pss_one (ps_ret pe_bl)) pss_nil)
    (pss_cons (ps_if (pt_cmpR op_ne (pe_callB (call_len1K K) (by rfl) T.free_len (by decide +kernel) (pa_cons (pv 0) pa_nil)) (pe_callB (call_len1K K) (by rfl) T.free_len (by decide +kernel) (pa_cons (pv 1) pa_nil)) (nomark _))
      (pss_one (ps_ret pe_bl)) pss_nil)
    (pss_one (ps_ret (pe_cmpR (op_eqDK K hu64) (pe_lc (own := [("_law_k", 2)]) (g := gName 2) rfl sc__law_same.nd (pi_range1 (by rfl) T.free_range (pa_cons (pe_callB (call_len1K K) (by rfl) T.free_len (by decide +kernel) (pa_cons (pv 1) pa_nil)) pa_nil)) (blkOk_by (N := ["_law_found", "_law_due", "_law_k", "_law_alike"]) (sc := defScope s__law_same) (by decide +kernel)) (fun _ _ _ _ _ => pg_name (i := 2) sc__law_same.nd rfl (Or.inl rfl)) (fun _ _ _ _ _ => pts_one (pt_not (pt_val (pe_cal G__law_same (hr.mono (by omega)) pass0 (pa_cons (pe_ix (ix_seqK K) (pv 0) (pv 2) (fun _ _ => rfl)) (pa_cons (pe_ix (ix_seqK K) (pv 1) (pv 2) (fun _ _ => rfl)) pa_nil)))))) (fun _ _ _ _ _ => (pv 2))) (pe_lst pa_nil) (nomark _)))))) pss_nil)
  (pss_cons (ps_set (i := 3) sc__law_same.nd rfl (Or.inl rfl) (pe_and (pe_cmpR op_eq (pe_callB (call_isiK1 K) (by rfl) T.free_isinstance (by decide +kernel) (pa_cons (pv 0) (pa_cons (pe_bltn (v := .ty "bool") (u := .type "bool") (by rfl) T.free_bool (by decide +kernel) rfl) pa_nil))) (pe_callB (call_isiK1 K) (by rfl) T.free_isinstance (by decide +kernel) (pa_cons (pv 1) (pa_cons (pe_bltn (v := .ty "bool") (u := .type "bool") (by rfl) T.free_bool (by decide +kernel) rfl) pa_nil))) (nomark _)) (pe_one (pe_cmpR op_eq (pe_callB (call_isiK1 K) (by rfl) T.free_isinstance (by decide +kernel) (pa_cons (pv 0) (pa_cons (pe_bltn (v := .ty "int") (u := .type "int") (by rfl) T.free_int (by decide +kernel) rfl) pa_nil))) (pe_callB (call_isiK1 K) (by rfl) T.free_isinstance (by decide +kernel) (pa_cons (pv 1) (pa_cons (pe_bltn (v := .ty "int") (u := .type "int") (by rfl) T.free_int (by decide +kernel) rfl) pa_nil))) (nomark _)))))
  (pss_one (ps_ret (pe_and (pv 3) (pe_one (pe_cmpR op_eq (pv 0) (pv 1) (nomark _)))))))), ?_⟩
    try dsimp only [cxOf, Cx.nox, Cx.wish]
    refine rd_at (σ' := [some v, some w, none, none]) rfl ?_
    have base0 : Sm0 v w ∨ ∃ m, n = m + 1 ∧ ∃ (a b : Addr) (xs ys : List V), v = .ref a ∧ w = .ref b ∧ ((H a = some (.lst xs) ∧ H b = some (.lst ys)) ∨ (H a = some (.tup xs) ∧ H b = some (.tup ys))) ∧ xs.length = ys.length ∧ (xs.length : Int) < 2 ^ 62 ∧
      ∀ (i : Nat) (x y : V), xs[i]? = some x → ys[i]? = some y → Sm m H x y := by
      cases n with
      | zero => exact .inl hs
      | succ m => exact hs.imp id fun z => ⟨m, rfl, z⟩
    rcases base0 with (⟨i, rfl, rfl⟩ | ⟨x, rfl, rfl⟩) | ⟨m, hm, a, b, xs, ys, rfl, rfl, hab, hl, hsz, he⟩
    · walk_at "go"
      refine ⟨by show 2 ≤ sizeLine; decide, fun p hp => ?_⟩
      walk_at "go"
      refine rd_isiT2 upd_same tyx_int isi_int_tuple isi_int_list ?_
      walk_at "go"
      refine iteF ?_
      walk_at "go"
      refine rd_isi tyx_int isi_int_bool ?_
      walk_at "go"
      refine rd_isi tyx_int isi_int_bool ?_
      walk_at "go"
      refine rd_T rfl ?_
      walk_at "go"
      refine rd_isi tyx_int isi_int_int ?_
      walk_at "go"
      refine rd_isi tyx_int isi_int_int ?_
      walk_at "go"
      refine rd_T rfl ?_
      walk_at "go"
      have kk := k _ (Fr.new (o := .tup [.ty "tuple", .ty "list"]) hp)
      simpa using kk
    · walk_at "go"
      refine ⟨by show 2 ≤ sizeLine; decide, fun p hp => ?_⟩
      walk_at "go"
      refine rd_isiT2 upd_same (.base (.str _)) isi_str_tuple isi_str_list ?_
      walk_at "go"
      refine iteF ?_
      walk_at "go"
      refine rd_isi (.base (.str _)) isi_str_bool ?_
      walk_at "go"
      refine rd_isi (.base (.str _)) isi_str_bool ?_
      walk_at "go"
      refine rd_T rfl ?_
      walk_at "go"
      refine rd_isi (.base (.str _)) isi_str_int ?_
      walk_at "go"
      refine rd_isi (.base (.str _)) isi_str_int ?_
      walk_at "go"
      refine rd_T rfl ?_
      walk_at "go"
      have kk := k _ (Fr.new (o := .tup [.ty "tuple", .ty "list"]) hp)
      simpa using kk
    · obtain ⟨Ty, b1, b2, tya, tyb, k1, k2, k3⟩ : ∃ (Ty : String) (b1 b2 : Bool), (∀ H', Fr [] H H' → TyX K H' (.ref a) (.type Ty)) ∧ (∀ H', Fr [] H H' → TyX K H' (.ref b) (.type Ty)) ∧ kitB Ty "tuple" = some b1 ∧ kitB Ty "list" = some b2 ∧ (b1 || b2) = true := by
        rcases hab with ⟨ha, hb⟩ | ⟨ha, hb⟩
        · exact ⟨"list", false, true, fun H' f => .base (.lst (f.at ha (by simp))), fun H' f => .base (.lst (f.at hb (by simp))), isi_list_tuple, isi_list_list, rfl⟩
        · exact ⟨"tuple", true, false, fun H' f => .base (.tup (f.at ha (by simp))), fun H' f => .base (.tup (f.at hb (by simp))), isi_tup_tup, isi_tup_list, rfl⟩
      have hlen : ∀ {H'} {Q' : VK} {c : Addr} {zs : List V}, Fr [] H H' → ((H c = some (.lst zs)) ∨ (H c = some (.tup zs))) → Q' (.int zs.length) H' → rLen1 K [.ref c] H' Q' := fun f h q => by
        rcases h with h | h
        · exact rd_lenL (SqL.of (f.at h (by simp))) q
        · exact rd_lenT (SqT.of (f.at h (by simp))) q
      have hix : ∀ {H'} {Q' : VK} {c : Addr} {zs : List V} {i : Nat} {v : V}, Fr [] H H' → ((H c = some (.lst zs)) ∨ (H c = some (.tup zs))) → zs[i]? = some v → Q' v H' → rIx K (.ref c) (.int (0 + (i : Int))) H' Q' := fun f h e q => by
        rcases h with h | h
        · exact .inl ⟨_, _, _, _, rfl, rfl, SqL.of (f.at h (by simp)), at_of (by omega) e, q⟩
        · exact .inr (.inl ⟨_, _, _, _, rfl, rfl, SqT.of (f.at h (by simp)), at_of (by omega) e, q⟩)
      have ha : (H a = some (.lst xs)) ∨ (H a = some (.tup xs)) := hab.imp (·.1) (·.1)
      have hb : (H b = some (.lst ys)) ∨ (H b = some (.tup ys)) := hab.imp (·.2) (·.2)
      obtain rfl := hsp m hm
      walk_at "go"
      refine ⟨by show 2 ≤ sizeLine; decide, fun p hp => ?_⟩
      walk_at "go"
      refine rd_isiT2 upd_same (tyb _ (Fr.new hp)) k1 k2 ?_
      walk_at "go"
      rw [k3]
      refine iteT ?_
      walk_at "go"
      refine ⟨by show 2 ≤ sizeLine; decide, fun p2 hp2 => ?_⟩
      have f2 : Fr [] H (upd (upd H p (.tup [.ty "tuple", .ty "list"])) p2 (.tup [.ty "tuple", .ty "list"])) := (Fr.new hp).newN hp2
      walk_at "go"
      refine rd_isiT2 upd_same (tya _ f2) k1 k2 ?_
      walk_at "go"
      rw [k3]
      refine rd_nT ?_
      generalize upd (upd H p (.tup [.ty "tuple", .ty "list"])) p2 (.tup [.ty "tuple", .ty "list"]) = H2 at *
      walk_at "go"
      refine rd_isi (tya _ f2) k2 ?_
      walk_at "go"
      refine rd_isi (tyb _ f2) k2 ?_
      walk_at "go"
      refine rd_nF' rfl ?_
      walk_at "go"
      refine hlen f2 ha ?_
      walk_at "go"
      refine hlen f2 hb ?_
      walk_at "go"
      refine rd_nF' (by rw [hl]) ?_
      walk_at "go"
      show iRng1 (tCons (tCB (rLen1 K) (tCons (tVar 1) tNil)) tNil) _ _ _
      walk_at "go"
      refine hlen f2 hb ?_
      walk_at "go"
      refine ⟨_, rfl, by omega, by omega, fun D hD => ?_⟩
      rw [Int.toNat_natCast]
      refine lc_range (lo := 0) (n := ys.length) (fun i H3 => H3 D = some (.lst []) ∧ Fr [] H H3) ⟨upd_same, f2.newN hD⟩ ?_ ?_
      · rintro i H3 hi ⟨e3, f3⟩
        walk_at "go"
        refine ⟨rfl, ?_⟩
        walk_at "go"
        refine hix f3 ha (List.getElem?_eq_getElem (hl ▸ hi)) ?_
        walk_at "go"
        refine hix f3 hb (List.getElem?_eq_getElem hi) ?_
        walk_at "go"
        refine ⟨_, _, rfl, (he i _ _ (List.getElem?_eq_getElem (hl ▸ hi)) (List.getElem?_eq_getElem hi)).fr f3, fun H4 f4 => ?_⟩
        walk_at "go"
        exact ⟨f4.at e3 (by simp), f3.tr f4⟩
      · rintro H3 ⟨e3, f3⟩
        walk_at "go"
        refine ⟨Nat.zero_le _, fun q hq => ?_⟩
        refine ⟨.list [], .list [], .lst (SqL.of (upd_keep e3 hq)) .nil, .lst (SqL.of upd_same) .nil, by decide +kernel, by decide +kernel, ?_⟩
        exact k _ (f3.newN hq)
theorem sames (T : Txt K mg) {f : Addr} {fd : FuncData} (F : FnP K "_law_same" "_law_same" s__law_same f fd) (g : mg "_law_same" = some (.ref f)) : ∀ n, Cal P w K mg base CX0 (n + 2) "_law_same" ["_law_found", "_law_due"] (spSame n) := by
  intro n
  induction n with
  | zero =>
    have G0 : Cal P w K mg base CX0 1 "_law_same" ["_law_found", "_law_due"] (fun _ _ _ _ => False) := cal_of F g (ok0 F sc__law_same (fun vs H Q E h => h.elim) fun cdv A outer s H vs Q E hr h => h.elim) fun _ _ _ _ _ _ us hl => match us, hl with | [_, _], _ => rfl
    exact cal_of F g (ok_law_same T F _ (fun m e => by cases e) G0) fun _ _ _ _ _ _ us hl => match us, hl with | [_, _], _ => rfl
  | succ n ih => exact cal_of F g (ok_law_same T F _ (fun m e => by cases e; rfl) ih) fun _ _ _ _ _ _ us hl => match us, hl with | [_, _], _ => rfl
end
end Dc

set_option Elab.async false
set_option linter.all false
set_option maxRecDepth 100000
set_option maxHeartbeats 2000000
namespace Dc
open PySem PySem.Spec PyProof.Rows L2
abbrev ExtN := LamX.ExtN
theorem exTp {H H' : Hp} {b : Addr} {xs : List V} (f : ExtN H H') (h : H b = some (.tup xs)) : H' b = some (.tup xs) := f b _ h fun _ z => by cases z
theorem exLs {H H' : Hp} {b : Addr} {xs : List V} (f : ExtN H H') (h : H b = some (.lst xs)) : H' b = some (.lst xs) := f b _ h fun _ z => by cases z
theorem exFz {H H' : Hp} {b : Addr} {o : Obj} {u : HO} (f : ExtN H H') (h : H b = some (.frz o u)) : H' b = some (.frz o u) := f b _ h fun _ z => by cases z
theorem MkAt.ex {H H' : Hp} {a : Addr} {m : Mkr} (f : ExtN H H') (h : MkAt H a m) : MkAt H' a m := by
  cases m with
  | count b s => exact exTp f h
  | row ns => obtain ⟨r, h1, h2⟩ := h; exact ⟨r, exTp f h1, exTp f h2⟩
theorem StsAt.ex {H H' : Hp} (f : ExtN H H') : ∀ {c : Ch} {a : Addr} {as : List Addr}, StsAt H c a as → StsAt H' c a as
  | .mkr m, a, as, ⟨h1, h2⟩ => ⟨h1, h2.ex f⟩
  | .st c k, a, as, ⟨as', x, h1, h2, h3⟩ => ⟨as', x, h1, h2.ex f, exTp f h3⟩
  | .both c o, a, as, ⟨as', x, p, h1, h2, h3, m, ss, bs, h4, h5, h6⟩ => ⟨as', x, p, h1, h2.ex f, exTp f h3, m, ss, bs, exTp f h4, exTp f h5, h6.ex f⟩
  | .thn c o, a, as, ⟨as', x, p, h1, h2, h3, m, ss, bs, h4, h5, h6⟩ => ⟨as', x, p, h1, h2.ex f, exTp f h3, m, ss, bs, exTp f h4, exTp f h5, h6.ex f⟩
theorem ChAt.ex {H H' : Hp} {p : Addr} {c : Ch} (f : ExtN H H') (h : ChAt H p c) : ChAt H' p c := by
  obtain ⟨m, ss, bs, h1, h2, h3⟩ := h
  exact ⟨m, ss, bs, exTp f h1, exTp f h2, h3.ex f⟩
theorem ScAt.ex {K : PySem.W.Frag} {ns : List Int} {H H' : Hp} {sc : Addr} (h : ScAt K ns H sc) (f : ExtN H H') : ScAt K ns H' sc := by
  rcases h with ⟨o, h⟩ | h
  · exact .inl ⟨o, exFz f h⟩
  · exact .inr h
theorem StAt.ex {K : PySem.W.Frag} {ns : List Int} {H H' : Hp} {a sc : Addr} (s : StAt K ns H a sc) (f : ExtN H H') : StAt K ns H' a sc := by
  obtain ⟨⟨b, m, l, h1, h2⟩, h3⟩ := s
  exact ⟨⟨b, m, l, exLs f h1, h2⟩, h3.ex f⟩
theorem rowV.ex {H H' : Hp} (f : ExtN H H') : ∀ {o : Option (List Int)} {v : V}, rowV H o v → rowV H' o v
  | some xs, v, ⟨q, e, h⟩ => ⟨q, e, exLs f h⟩
  | none, _, h => h
/-- the tables stay where a list is changed, or none -/
theorem tabsFr {T : List (Addr × Str)} {H H' : Hp} {S : List Addr} (hS : ∀ a ∈ S, H a = none ∨ ∃ xs, H a = some (.lst xs)) (f : Fr S H H') (t : LamX.Tabs T H) : LamX.Tabs T H' := fun p hp => by
  obtain ⟨ps, h1, h2, h3⟩ := t p hp
  have no : ∀ b o, H b = some o → (∀ xs, o ≠ .lst xs) → H' b = some o := fun b o hb hn => f.at hb fun hz => by
    rcases hS b hz with z | ⟨xs, z⟩
    · rw [hb] at z; cases z
    · rw [hb] at z; exact hn xs (Option.some.inj z)
  refine ⟨ps, no _ _ h1 (fun xs z => by cases z), h2, fun pos cv hc => ?_⟩
  obtain ⟨c, e1, e2⟩ := h3 pos cv hc
  exact ⟨c, e1, no _ _ e2 (fun xs z => by unfold LamX.CodeO at z; cases z)⟩
theorem tabsFr0 {T : List (Addr × Str)} {H H' : Hp} (f : Fr [] H H') (t : LamX.Tabs T H) : LamX.Tabs T H' := tabsFr (fun a h => by cases h) f t
theorem tabsSt {K : PySem.W.Frag} {ns : List Int} {T : List (Addr × Str)} {H H' : Hp} {a sc : Addr} (s : StAt K ns H a sc) (f : Fr [a] H H') (t : LamX.Tabs T H) : LamX.Tabs T H' := tabsFr (fun b hb => by
  obtain ⟨⟨_, _, _, h1, _⟩, _⟩ := s
  rw [List.mem_singleton.mp hb]
  exact .inr ⟨_, h1⟩) f t
end Dc

set_option Elab.async false
set_option linter.all false
set_option maxRecDepth 100000
set_option maxHeartbeats 2000000
namespace Dc
open PySem PySem.Spec PyProof.Rows L2
local macro_rules | `(tactic| walk_at "ne") => `(tactic| first | assumption | (refine Ne.symm ?_; assumption) | exact ne_of (by assumption) (by assumption) (by intro q; cases q) | exact ne_of_none (by assumption) (by assumption) | exact Ne.symm (ne_of_none (by assumption) (by assumption)))
local macro_rules | `(tactic| walk_at "hp") => `(tactic| first | assumption | exact upd_same | (refine upd_keep ?_ (by assumption); walk_at "hp") | (refine upd_other ?_ ?_; · walk_at "ne"; · walk_at "hp"))
local macro_rules | `(tactic| walk_at "hl") => `(tactic| first | assumption | exact SqL.of (by walk_at "hp"))
local macro_rules | `(tactic| walk_at "ht") => `(tactic| first | assumption | exact SqT.of (by walk_at "hp"))
local macro_rules | `(tactic| walk_at "rd1") => `(tactic| first
  | ((with_reducible apply rd_var); exact rfl)
  | ((with_reducible apply rd_eq); exact rfl) | ((with_reducible apply rd_ne); exact rfl)
  | with_reducible first
  | refine iteT ?_ | refine iteF ?_ | refine rd_nF ?_ | refine rd_nT ?_ | refine rd_yes ?_ | refine rd_c ?_ | refine rd_op ?_ | refine rd_un ?_ | refine rd_test ?_ | refine rd_B ?_ | refine rd_bl ?_ | refine rd_seq ?_ | refine rd_next ?_ | refine rd_ifs ?_ | refine rd_asg ?_ | refine rd_name ?_ | refine rd_ret ?_ | refine rd_drop ?_
  | refine rd_call ?_ | refine rd_cons ?_ | refine rd_nil ?_ | refine rd_cb ?_ | refine rd_I0 ?_ | refine rd_U ?_ | refine rd_gsub ?_ | refine rd_lstB ?_ | refine rd_tupB ?_ | refine rd_sl ?_ | refine rd_np ?_ | refine rd_part ?_ | refine rd_in ?_ | refine rd_if ?_ | refine rd_not ?_ | refine rd_rng1 ?_ | refine rd_itup ?_ | refine rd_ilst ?_ | refine rd_bm ?_ | refine rd_bm0 ?_ | refine rd_andV ?_ | refine rd_orV ?_ | refine rd_notV ?_)
local macro_rules | `(tactic| walk_at "rd") => `(tactic| repeat walk_at "rd1")
local macro_rules | `(tactic| walk_at "ci") => `(tactic| first | assumption | (show (0 : Int) < _; first | decide | omega) | exact ⟨by decide, by decide⟩ | exact Or.inr ⟨by decide, by decide⟩ | exact Or.inl ⟨by decide, by decide⟩ | exact ⟨by decide, by decide, by decide⟩ | exact Or.inl ⟨by omega, by omega⟩ | exact Or.inr ⟨by omega, by omega⟩)
local macro_rules | `(tactic| walk_at "ix") => `(tactic| first
  | ((with_reducible apply rd_ixL); (walk_at "hl"); exact rfl)
  | ((with_reducible apply rd_ixT); (walk_at "ht"); exact rfl)
  | ((with_reducible apply rd_lenL); (walk_at "hl"))
  | ((with_reducible apply rd_lenT); (walk_at "ht"))
  | ((with_reducible apply rd_tupOf); (walk_at "hl"))
  | ((with_reducible apply rd_listOf); (walk_at "hl"))
  | (with_reducible refine rd_min2 ?_)
  | ((with_reducible apply rd_I); (walk_at "ci"))
  | ((with_reducible apply rd_setL); (walk_at "hp"); exact rfl))
local macro_rules | `(tactic| walk_at "gs") => `(tactic| repeat first | walk_at "rd1" | walk_at "ix")
local macro_rules | `(tactic| walk_at "go") => `(tactic| repeat first | walk_at "rd1" | walk_at "ix" | with_reducible refine rd_and ?_ | with_reducible refine rd_or ?_)
local macro_rules | `(tactic| walk_at "fo") => `(tactic| (with_reducible refine rd_for ?_))
local macro_rules | `(tactic| walk_at "pm") => `(tactic| repeat first
  | with_reducible first | refine rd_pcons ?_ | refine rd_pstr ?_ | refine rd_pcap ?_ | refine rd_pwild ?_ | refine rd_pnil ?_ | refine rd_por ?_ | refine rd_pno ?_
  | ((with_reducible refine rd_eq rfl ?_); refine ⟨_, rfl, ?_⟩; first | refine rd_T rfl ?_ | refine rd_F (by decide) ?_)
  | dsimp only [List.nil_append, List.singleton_append, List.cons_append, setAll])
local macro_rules | `(tactic| walk_at "pc") => `(tactic| (refine rd_case ?_); (first | (refine rd_phit (SqT.of (by assumption)) rfl ?_) | (refine rd_pmiss (SqT.of (by assumption)) (by simp) ?_)); (walk_at "pm"))
local macro_rules | `(tactic| walk_at "gd") => `(tactic| ((try dsimp only [gName, List.set]); walk_at "go"))

/-- a chain whose row has about ten thousand numbers at some stage -/
def spGreat (K : PySem.W.Frag) (ns : List Int) : Sp := fun vs H Q _ => ∃ (a sc : Addr), vs = [.ref a] ∧ StAt K ns H a sc ∧
  ∀ (p : Addr) (c : Ch) (H' : Hp), ChAt H' p c → c.ok → c.rows → c.nm ≤ 2 → c.ns ≤ 4 → StAt K ns H' a sc → Fr [a] H H' → Q (.ref p) H'
theorem sz1' : (1 : Nat) ≤ sizeLine := by decide
theorem sz2' : (2 : Nat) ≤ sizeLine := by decide
theorem sz4 : (4 : Nat) ≤ sizeLine := by decide
theorem rep3_join {K : PySem.W.Frag} {H : Hp} {Q : VK} {l : Addr} {x : V} {k : Int} (h : H l = some (.tup [x])) (h0 : 0 ≤ k) (h1 : k < 3) (q : ∀ p j H', j ≤ 2 → H' p = some (.tup (List.replicate j x)) → Fr [] H H' → Q (.ref p) H') : rRepTA K (.ref l) (.int k) H Q := by
  by_cases z : k < 2
  · exact .inr ⟨l, k, [x], rfl, rfl, SqT.of h, by simp, by omega, fun _ => q _ 1 _ (by decide) h (Fr.refl _ _), fun _ p np => q _ 0 _ (by decide) upd_same (Fr.new np)⟩
  · obtain rfl : k = 2 := by omega
    exact .inl ⟨l, 2, [x], rfl, rfl, SqT.of h, by simp, by decide, by decide, by simp, fun p np => q _ 2 _ (by decide) upd_same (Fr.new np)⟩
section
variable {P : Program} {w : World} {K : PySem.W.Frag} {mg : Str → Option Value} {base : Heap}
theorem sc__law_great : FnScope ["_law_state", "_law_many", "_law_stages", "_law_more"] ["_law_state"] (defScope s__law_great) := ⟨rfl, rfl, rfl, by decide +kernel, rfl, by decide +kernel, by decide +kernel⟩
theorem ok_law_great (T : Txt K mg) {f : Addr} {fd : FuncData} {ns : List Int} (F : FnP K "_law_great" "_law_great" s__law_great f fd) (G__law_drawn : Cal P w K mg base CX0 1 "_law_drawn" ["_law_state", "_law_many"] (spDrawn K ns)) : FnOk P w K mg base CX0 2 f fd ["_law_state"] (spGreat K ns) := by
  refine ok0 F sc__law_great (fun vs H Q E h => ?_) (fun cdv A outer s H vs Q E hr h => ?_)
  · obtain ⟨a, sc, rfl, _⟩ := h
    rfl
  · obtain ⟨a, sc, rfl, S, k⟩ := h
    refine ⟨_, (pss_cons (ps_set (i := 1) sc__law_great.nd rfl (Or.inl rfl) (pe_ix (ix_listK K) (pe_lst (pa_cons pe_int (pa_cons pe_int (pa_cons pe_int (pa_cons pe_int pa_nil))))) (pe_cal G__law_drawn (hr.mono (by omega)) pass0 (pa_cons (pv 0) (pa_cons pe_int pa_nil))) (fun _ _ => rfl)))
  (pss_cons (ps_set (i := 2) sc__law_great.nd rfl (Or.inl rfl) (pe_tup (pa_cons (pe_tup (pa_cons pe_str (pa_cons pe_int pa_nil))) (pa_cons (pe_tup (pa_cons pe_str (pa_cons (pe_ix (ix_listK K) (pe_lst (pa_cons pe_int (pa_cons pe_int (pa_cons pe_int (pa_cons pe_int pa_nil))))) (pe_cal G__law_drawn (hr.mono (by omega)) pass0 (pa_cons (pv 0) (pa_cons pe_int pa_nil))) (fun _ _ => rfl)) pa_nil))) pa_nil))))
  (pss_cons (ps_set (i := 3) sc__law_great.nd rfl (Or.inl rfl) (pe_tup (pa_cons (pe_tup (pa_cons pe_str (pa_cons (pe_op (op_repTAK K) (pe_tup (pa_cons pe_int pa_nil)) (pe_cal G__law_drawn (hr.mono (by omega)) pass0 (pa_cons (pv 0) (pa_cons pe_int pa_nil)))) pa_nil))) (pa_cons (pe_tup pa_nil) pa_nil))))
  (pss_cons (ps_set (i := 2) sc__law_great.nd rfl (Or.inl rfl) (pe_op (op_catTK K) (pv 2) (pe_ix (ix_listK K) (pe_lst (pa_cons (pe_tup pa_nil) (pa_cons (pe_tup (pa_cons (pe_tup (pa_cons pe_str (pa_cons (pv 3) pa_nil))) pa_nil)) (pa_cons (pe_tup (pa_cons (pe_tup (pa_cons pe_str (pa_cons pe_int pa_nil))) pa_nil)) (pa_cons (pe_tup (pa_cons (pe_tup (pa_cons pe_str (pa_cons pe_int pa_nil))) pa_nil)) pa_nil))))) (pe_cal G__law_drawn (hr.mono (by omega)) pass0 (pa_cons (pv 0) (pa_cons pe_int pa_nil))) (fun _ _ => rfl))))
  (pss_cons (ps_set (i := 2) sc__law_great.nd rfl (Or.inl rfl) (pe_op (op_catTK K) (pv 2) (pe_ix (ix_listK K) (pe_lst (pa_cons (pe_tup pa_nil) (pa_cons (pe_tup (pa_cons (pe_tup (pa_cons pe_str (pa_cons pe_int pa_nil))) pa_nil)) (pa_cons (pe_tup (pa_cons (pe_tup (pa_cons pe_str pa_nil)) pa_nil)) (pa_cons (pe_tup (pa_cons (pe_tup (pa_cons pe_str (pa_cons pe_int pa_nil))) pa_nil)) pa_nil))))) (pe_cal G__law_drawn (hr.mono (by omega)) pass0 (pa_cons (pv 0) (pa_cons pe_int pa_nil))) (fun _ _ => rfl))))
  (pss_one (ps_ret (pe_tup (pa_cons (pe_tup (pa_cons pe_str (pa_cons (pe_tupRg rfl (by rfl) T.free_tuple (prg_1 (by rfl) T.free_range (pv 1))) pa_nil))) (pa_cons (pv 2) pa_nil)))))))))), ?_⟩
    try dsimp only [cxOf, Cx.nox, Cx.wish]
    refine rd_at (σ' := [some (.ref a), none, none, none]) rfl ?_
    have B := Bn.start (W := fun _ => True) S trivial (fun _ _ _ _ _ => trivial)
    clear S
    walk_at "go"
    refine B.mkL fun l1 H1 B => ?_
    walk_at "go"
    refine B.dr (by decide) (by decide) fun r H1 r0 r1 B => ?_
    walk_at "go"
    refine B.ixL 0 r0 r1 fun v hv => ?_
    obtain ⟨many, rfl, m0, m1⟩ : ∃ z : Int, v = .int z ∧ 0 ≤ z ∧ z ≤ 100 := by
      simp only [List.mem_cons, List.not_mem_nil, or_false] at hv
      rcases hv with rfl | rfl | rfl | rfl <;> exact ⟨_, rfl, by decide, by decide⟩
    replace B := B.nil
    clear hv r0 r1
    walk_at "go"
    refine B.mkT fun e1 H1 B => ?_
    walk_at "go"
    refine B.mkL fun l2 H1 B => ?_
    walk_at "go"
    refine B.dr (by decide) (by decide) fun r H1 r0 r1 B => ?_
    walk_at "go"
    refine B.ixL 0 r0 r1 fun v hv => ?_
    obtain ⟨n, rfl, q0, q1⟩ : ∃ z : Int, v = .int z ∧ 1 ≤ z ∧ z ≤ 10 := by
      simp only [List.mem_cons, List.not_mem_nil, or_false] at hv
      rcases hv with rfl | rfl | rfl | rfl <;> exact ⟨_, rfl, by decide, by decide⟩
    clear hv r0 r1
    walk_at "go"
    refine B.mkT fun e2 H1 B => ?_
    walk_at "go"
    refine B.mkT fun s2 H1 B => ?_
    have T1 : StgN H1 0 2 s2 := ⟨[e1, e2], [.one (.each 10), .one (.each n)], by simp, B.get 0, ((Sgs'.one (g := .one (.each 10)) (B.get 3) ⟨by decide, by decide⟩ trivial).app (Sgs'.one (g := .one (.each n)) (B.get 1) ⟨q0, q1⟩ trivial)).mono (Nat.le_refl 0) (Nat.le_refl 2)⟩
    replace B := (B.add (T := fun H => StgN H 0 2 s2) T1 (fun _ _ f h => h.fr f)).nil
    clear T1
    dsimp only [gName, List.set]
    walk_at "go"
    refine B.mkT fun t1 H1 B => ?_
    walk_at "go"
    refine B.dr (by decide) (by decide) fun r H1 r0 r1 B => ?_
    walk_at "go"
    refine rep3_join (B.get 0) r0 r1 fun t2 j H1 hj ht2 g => ?_
    replace B := (B.fr0 g).nil
    replace B := B.push ht2 (B.nea2 ht2)
    clear g ht2 r0 r1
    walk_at "go"
    refine B.mkT fun m H1 B => ?_
    walk_at "go"
    refine B.mkT fun s0 H1 B => ?_
    walk_at "go"
    refine B.mkT fun more H1 B => ?_
    have T2 : ChAt H1 more (.mkr (.row (List.replicate j 3))) := ⟨m, s0, [], B.get 0, B.get 1, rfl, t2, B.get 2, by rw [List.map_replicate]; exact B.get 3⟩
    have ok2 : (Ch.mkr (.row (List.replicate j 3))).ok := ⟨by rw [List.length_replicate]; omega, fun x hx => by rw [List.eq_of_mem_replicate hx]; exact ⟨by decide, by decide⟩⟩
    replace B := (B.add (T := fun H => ChAt H more (.mkr (.row (List.replicate j 3)))) T2 (fun _ _ f h => h.fr f)).nil
    clear T2
    dsimp only [gName, List.set]
    walk_at "go"
    refine B.mkT fun u0 H1 B => ?_
    walk_at "go"
    refine B.mkT fun u1 H1 B => ?_
    walk_at "go"
    refine B.mkT fun u2 H1 B => ?_
    walk_at "go"
    refine B.mkT fun u3 H1 B => ?_
    walk_at "go"
    refine B.mkT fun u4 H1 B => ?_
    walk_at "go"
    refine B.mkT fun u5 H1 B => ?_
    walk_at "go"
    refine B.mkT fun u6 H1 B => ?_
    walk_at "go"
    refine B.mkL fun ul H1 B => ?_
    walk_at "go"
    refine B.dr (by decide) (by decide) fun r H1 r0 r1 B => ?_
    walk_at "go"
    refine B.ixL 0 r0 r1 fun v hv => ?_
    obtain ⟨y, rfl, hy⟩ : ∃ y, v = .ref y ∧ StgR H1 1 1 y := by
      simp only [List.mem_cons, List.not_mem_nil, or_false] at hv
      rcases hv with rfl | rfl | rfl | rfl
      · exact ⟨_, rfl, [], [], B.get 7, Sgs'.none.mono (by decide) (by decide)⟩
      · exact ⟨_, rfl, [u1], [.thn _], B.get 5, Sgs'.one (g := .thn _) ⟨more, B.get 6, B.w.2⟩ ok2 trivial⟩
      · exact ⟨_, rfl, [u3], [.one (.each 2)], B.get 3, (Sgs'.one (g := .one (.each 2)) (B.get 4) ⟨by decide, by decide⟩ trivial).mono (Nat.zero_le _) (Nat.le_refl 1)⟩
      · exact ⟨_, rfl, [u5], [.one (.each 10)], B.get 1, (Sgs'.one (g := .one (.each 10)) (B.get 2) ⟨by decide, by decide⟩ trivial).mono (Nat.zero_le _) (Nat.le_refl 1)⟩
    clear hv r0 r1
    dsimp only
    refine B.stages B.w.1.2 hy (by decide) fun s3 H2 g B T3 => ?_
    replace B := ((B.imp (T := fun _ => True) (fun _ _ => trivial) (fun _ _ _ _ _ => trivial)).add (T := fun H => StgN H 1 3 s3) T3 (fun _ _ f h => h.fr f)).nil
    clear hy g T3
    dsimp only [gName, List.set]
    walk_at "go"
    refine B.mkT fun u0 H1 B => ?_
    walk_at "go"
    refine B.mkT fun u1 H1 B => ?_
    walk_at "go"
    refine B.mkT fun u2 H1 B => ?_
    walk_at "go"
    refine B.mkT fun u3 H1 B => ?_
    walk_at "go"
    refine B.mkT fun u4 H1 B => ?_
    walk_at "go"
    refine B.mkT fun u5 H1 B => ?_
    walk_at "go"
    refine B.mkT fun u6 H1 B => ?_
    walk_at "go"
    refine B.mkL fun ul H1 B => ?_
    walk_at "go"
    refine B.dr (by decide) (by decide) fun r H1 r0 r1 B => ?_
    walk_at "go"
    refine B.ixL 0 r0 r1 fun v hv => ?_
    obtain ⟨y, rfl, hy⟩ : ∃ y, v = .ref y ∧ StgR H1 0 1 y := by
      simp only [List.mem_cons, List.not_mem_nil, or_false] at hv
      rcases hv with rfl | rfl | rfl | rfl
      · exact ⟨_, rfl, [], [], B.get 7, Sgs'.none.mono (by decide) (by decide)⟩
      · exact ⟨_, rfl, [u1], [.one (.take 1)], B.get 5, (Sgs'.one (g := .one (.take 1)) (B.get 6) ⟨by decide, by decide⟩ trivial).mono (Nat.zero_le _) (Nat.le_refl 1)⟩
      · exact ⟨_, rfl, [u3], [.one .unlike], B.get 3, (Sgs'.one (g := .one .unlike) (B.get 4) trivial trivial).mono (Nat.zero_le _) (Nat.le_refl 1)⟩
      · exact ⟨_, rfl, [u5], [.one (.drop 100)], B.get 1, (Sgs'.one (g := .one (.drop 100)) (B.get 2) ⟨by decide, by decide⟩ trivial).mono (Nat.zero_le _) (Nat.le_refl 1)⟩
    clear hv r0 r1
    dsimp only
    refine B.stages B.w.2 hy (by decide) fun s4 H2 g B T3 => ?_
    replace B := ((B.imp (T := fun _ => True) (fun _ _ => trivial) (fun _ _ _ _ _ => trivial)).add (T := fun H => StgN H 1 4 s4) T3 (fun _ _ f h => h.fr f)).nil
    clear hy g T3
    dsimp only [gName, List.set]
    walk_at "go"
    refine ⟨_, rfl, many, rfl, RgOk.of_le (Int.le_refl 0) (by omega) (by decide) m0, fun t nt => ?_⟩
    generalize e0 : upd _ t _ = H1
    replace B := B.mk2 nt e0
    clear e0 nt
    walk_at "go"
    refine B.mkT fun m H1 B => ?_
    walk_at "go"
    refine B.mkT fun p H1 B => ?_
    obtain ⟨as, gs, _, h1, h2⟩ := B.w.2
    have er : rgV 0 many = ((List.range many.toNat).map fun i : Nat => (0 : Int) + (i : Nat)).map V.int := by
      unfold rgV
      rw [List.map_map, Int.sub_zero]
      rfl
    have hm : MkAt H1 m (.row ((List.range many.toNat).map fun i : Nat => (0 : Int) + (i : Nat))) := ⟨t, B.get 1, by rw [← er]; exact B.get 2⟩
    obtain ⟨c, c1, c2, c3, c4, c5⟩ := ch_of (B.get 0) h1 hm h2 ⟨by rw [List.length_map, List.length_range]; omega, fun x hx => by
      obtain ⟨i, hi, rfl⟩ := List.mem_map.mp hx
      have := List.mem_range.mp hi
      exact ⟨by omega, by omega⟩⟩ trivial
    exact k p c H1 c1 c2 c3 c4 c5 B.st B.fr
end
end Dc

set_option Elab.async false
set_option linter.all false
set_option maxRecDepth 100000
set_option maxHeartbeats 2000000
namespace Dc
open PySem PySem.Spec PyProof.Rows L2
/-- a def of the module -/
def FnM (K : PySem.W.Frag) (mg : Str → Option Value) (x : Str) (s : Stmt) : Prop := ∃ f fd, FnP K x x s f fd ∧ mg x = some (.ref f)
end Dc

set_option Elab.async false
set_option linter.all false
set_option maxRecDepth 100000
set_option maxHeartbeats 2000000
namespace Dc
open PySem PySem.Spec PyProof.Rows L2
/-- the law's own drawing of numbers -/
structure StartL (K : PySem.W.Frag) (mg : Str → Option Value) : Prop where
  start : FnM K mg "_law_start" s__law_start
  drawn : FnM K mg "_law_drawn" s__law_drawn
section
variable {P : Program} {w : World} {K : PySem.W.Frag} {mg : Str → Option Value} {base : Heap}
theorem l_drawn (T : Txt K mg) (L : StartL K mg) {ns : List Int} (hl : ns.length ≤ 63) : Cal P w K mg base CX0 1 "_law_drawn" ["_law_state", "_law_many"] (spDrawn K ns) := by
  obtain ⟨f, fd, F, g⟩ := L.drawn
  exact cal_of F g (ok_law_drawn T F hl) fun _ _ _ _ _ _ us hl => match us, hl with | [_, _], _ => rfl
theorem l_start (T : Txt K mg) (L : StartL K mg) {ns : List Int} : Cal P w K mg base CX0 1 "_law_start" ["_law_script"] (spStart K ns) := by
  obtain ⟨f, fd, F, g⟩ := L.start
  exact cal_of F g (ok_law_start T F) fun _ _ _ _ _ _ us hl => match us, hl with | [_], _ => rfl
end
end Dc

set_option Elab.async false
set_option linter.all false
set_option maxRecDepth 100000
set_option maxHeartbeats 2000000
namespace Dc
open PySem PySem.Spec PyProof.Rows L2
/-- the law's promise; its table of code objects stands at PL -/
def spLawT (K : PySem.W.Frag) (PL : Addr) (ns : List Int) : Sp := fun vs H Q _ => ∃ (sc : Addr), vs = [.ref sc] ∧ ScAt K ns H sc ∧ H PL = some (.tbl #[]) ∧ ∀ H', Q (.bl true) H'
theorem lrow_join {n : Nat} {p : Addr} {c : Ch} {H : Hp} {Q : VK} {E : XK} (hc : ChAt H p c) (cok : c.ok) (crow : c.rows) (cnm : c.nm ≤ n) (h : ∀ v H', rowV H' c.row v → Fr [] H H' → Q v H') : spLRow n [.ref p] H Q E :=
  ⟨p, c, rfl, hc, cok, crow, cnm, fun xs e H' q hq nq f => h _ _ (by rw [e]; exact ⟨q, rfl, hq⟩) f, fun e H' f => h _ _ (by rw [e]; rfl) f⟩
/-- what is found: a new list, or the word -/
def foundV (H H' : Hp) : Option (List Int) → V → Prop
  | some xs, v => ∃ q, v = .ref q ∧ H' q = some (.lst (xs.map V.int)) ∧ H q = none
  | none, v => v = .str "NoWhole"
theorem whole_kind {K : PySem.W.Frag} {J : KJ} {p : Addr} {c : Ch} {H : Hp} {Q : VK} (hK : KOne K J J.nw 2) (hc : ChAt H p c) (cok : c.ok) (crow : c.rows) (cnm : c.nm ≤ 4) (cns : c.ns ≤ 12) (h : ∀ v H', foundV H H' c.row v → Fr [] H H' → Q v H') :
    spWhole J.nw [.ref p] H Q (fun cls d H' => ∃ D i, cls = .ref D ∧ d = none ∧ KOne K J D i ∧ ∀ H'', Fr [] H' H'' → Q (.str (kword i)) H'') :=
  ⟨p, c, rfl, hc, cok, crow, cnm, cns, fun xs e H' q hq nq f => h _ _ (by rw [e]; exact ⟨q, rfl, hq, nq⟩) f, fun e H' f => ⟨J.nw, 2, rfl, rfl, hK, fun H'' f' => h _ _ (by rw [e]; rfl) (f.tr f')⟩⟩
section
variable {K : PySem.W.Frag} {ns : List Int} {a sc p : Addr} {W : Hp → Prop} {H0 H H' : Hp} {l : List (Addr × HO)}
end
end Dc

set_option Elab.async false
set_option linter.all false
set_option maxRecDepth 100000
set_option maxHeartbeats 2000000
namespace Dc
open PySem PySem.Spec PyProof.Rows L2
/-- the program's defs -/
structure ProgW (K : PySem.W.Frag) (mg : Str → Option Value) : Prop where
  check_chain : FnM K mg "check_chain" s_check_chain
  is_chain : FnM K mg "is_chain" s_is_chain
  is_pair : FnM K mg "is_pair" s_is_pair
  is_maker : FnM K mg "is_maker" s_is_maker
  is_row : FnM K mg "is_row" s_is_row
  is_stage : FnM K mg "is_stage" s_is_stage
  has_chain : FnM K mg "has_chain" s_has_chain
  is_within : FnM K mg "is_within" s_is_within
  is_number : FnM K mg "is_number" s_is_number
  makers_within : FnM K mg "makers_within" s_makers_within
  whole : FnM K mg "whole" s_whole
  whole_row : FnM K mg "whole_row" s_whole_row
  row_behind : FnM K mg "row_behind" s_row_behind
  row_until : FnM K mg "row_until" s_row_until
  row_unlike : FnM K mg "row_unlike" s_row_unlike
section
variable {P : Program} {w : World} {K : PySem.W.Frag} {mg : Str → Option Value} {base : Heap}
theorem checks (T : Txt K mg) (R : ProgW K mg) : Cal P w K mg base CX0 5 "check_chain" ["chain"] spCheck := by
  obtain ⟨f1, d1, F1, g1⟩ := R.is_number
  obtain ⟨f2, d2, F2, g2⟩ := R.is_within
  obtain ⟨f3, d3, F3, g3⟩ := R.is_row
  obtain ⟨f4, d4, F4, g4⟩ := R.is_maker
  obtain ⟨f5, d5, F5, g5⟩ := R.is_stage
  obtain ⟨f6, d6, F6, g6⟩ := R.has_chain
  obtain ⟨f7, d7, F7, g7⟩ := R.is_pair
  obtain ⟨f8, d8, F8, g8⟩ := R.is_chain
  obtain ⟨f9, d9, F9, g9⟩ := R.check_chain
  have G1 : Cal P w K mg base CX0 1 "is_number" ["number"] spIsNumber := cal_of F1 g1 (ok_is_number T F1) fun _ _ _ _ _ _ us hl => match us, hl with | [_], _ => rfl
  have G2 : Cal P w K mg base CX0 2 "is_within" ["number", "low", "high"] spIsWithin := cal_of F2 g2 (ok_is_within T F2 G1) fun _ _ _ _ _ _ us hl => match us, hl with | [_, _, _], _ => rfl
  have G3 : Cal P w K mg base CX0 2 "is_row" ["numbers"] spIsRow := cal_of F3 g3 (ok_is_row T F3 G1) fun _ _ _ _ _ _ us hl => match us, hl with | [_], _ => rfl
  have G4 : Cal P w K mg base CX0 3 "is_maker" ["maker"] spIsMaker := cal_of F4 g4 (ok_is_maker T F4 G1 G3) fun _ _ _ _ _ _ us hl => match us, hl with | [_], _ => rfl
  have G5 : Cal P w K mg base CX0 3 "is_stage" ["stage"] spIsStage := cal_of F5 g5 (ok_is_stage T F5 G1 G2) fun _ _ _ _ _ _ us hl => match us, hl with | [_], _ => rfl
  have G6 : Cal P w K mg base CX0 1 "has_chain" ["stage"] spHasChain := cal_of F6 g6 (ok_has_chain T F6) fun _ _ _ _ _ _ us hl => match us, hl with | [_], _ => rfl
  have G7 : Cal P w K mg base CX0 1 "is_pair" ["part"] spIsPair := cal_of F7 g7 (ok_is_pair T F7) fun _ _ _ _ _ _ us hl => match us, hl with | [_], _ => rfl
  have G8 : Cal P w K mg base CX0 4 "is_chain" ["chain"] spIsChain := cal_of F8 g8 (ok_is_chain T F8 G7 G4 G5 G6) fun _ _ _ _ _ _ us hl => match us, hl with | [_], _ => rfl
  exact cal_of F9 g9 (ok_check_chain T F9 G8) fun _ _ _ _ _ _ us hl => match us, hl with | [_], _ => rfl

theorem withins {f : Addr} {fd : FuncData} (T : Txt K mg) (F : FnP K "makers_within" "makers_within" s_makers_within f fd) (g : mg "makers_within" = some (.ref f)) (G : Cal P w K mg base CX0 1 "has_chain" ["stage"] spHasChain) : ∀ n, n ≤ 1000 → Cal P w K mg base CX0 (n + 1) "makers_within" ["chain"] (spWithin n)
  | 0, _ => cal_of F g (ok0 F sc_makers_within (fun vs H Q E ⟨p, c, _, _, h, _⟩ => absurd h (by have := c.nm_pos; omega)) fun cdv A outer s H vs Q E hr ⟨p, c, _, _, h, _⟩ => absurd h (by have := c.nm_pos; omega)) fun _ _ _ _ _ _ us hl => match us, hl with | [_], _ => rfl
  | n + 1, hn => cal_of F g (ok_makers_within (n := n) (by omega) T F G (withins T F g G n (by omega))) fun _ _ _ _ _ _ us hl => match us, hl with | [_], _ => rfl
theorem wrows {nw fR fB : Addr} {dR dB : FuncData} (T : Txt K mg) (L : NwF K mg nw) (FR : FnP K "whole_row" "whole_row" s_whole_row fR dR) (gR : mg "whole_row" = some (.ref fR)) (FB : FnP K "row_behind" "row_behind" s_row_behind fB dB) (gB : mg "row_behind" = some (.ref fB))
    (GU : Cal P w K mg base CX0 1 "row_until" ["numbers", "n"] spUntil) (GL : Cal P w K mg base CX0 1 "row_unlike" ["numbers"] spUnlike) : ∀ n, Cal P w K mg base (L2.CX P w) (2 * n + 1) "whole_row" ["chain"] (spWholeRow nw n)
  | 0 => cal_of FR gR (okX FR sc_whole_row (fun vs H Q E ⟨p, c, _, _, _, _, h, _⟩ => absurd h (by have := c.nm_pos; omega)) fun cdv A outer s H vs Q E hr ⟨p, c, _, _, _, _, h, _⟩ _ _ _ => absurd h (by have := c.nm_pos; omega)) fun _ _ _ _ _ _ us hl => match us, hl with | [_], _ => rfl
  | n + 1 => by
    have ih := wrows T L FR gR FB gB GU GL n
    have GB : Cal P w K mg base (L2.CX P w) (2 * n + 2) "row_behind" ["numbers", "stage"] (spBehindR nw n) := cal_of FB gB (ok_row_behind (j := 2 * n + 1) (by omega) T FB GU GL ih) fun _ _ _ _ _ _ us hl => match us, hl with | [_, _], _ => rfl
    exact cal_of FR gR (ok_whole_row T L FR GB) fun _ _ _ _ _ _ us hl => match us, hl with | [_], _ => rfl
theorem wholes {nw : Addr} (T : Txt K mg) (L : NwF K mg nw) (R : ProgW K mg) : Cal P w K mg base (L2.CX P w) 10 "whole" ["chain"] (spWhole nw) := by
  obtain ⟨f1, d1, F1, g1⟩ := R.has_chain
  obtain ⟨f2, d2, F2, g2⟩ := R.makers_within
  obtain ⟨f3, d3, F3, g3⟩ := R.row_until
  obtain ⟨f4, d4, F4, g4⟩ := R.row_unlike
  obtain ⟨f5, d5, F5, g5⟩ := R.row_behind
  obtain ⟨f6, d6, F6, g6⟩ := R.whole_row
  obtain ⟨f7, d7, F7, g7⟩ := R.whole
  have G1 : Cal P w K mg base CX0 1 "has_chain" ["stage"] spHasChain := cal_of F1 g1 (ok_has_chain T F1) fun _ _ _ _ _ _ us hl => match us, hl with | [_], _ => rfl
  have G3 : Cal P w K mg base CX0 1 "row_until" ["numbers", "n"] spUntil := cal_of F3 g3 (ok_row_until T F3) fun _ _ _ _ _ _ us hl => match us, hl with | [_, _], _ => rfl
  have G4 : Cal P w K mg base CX0 1 "row_unlike" ["numbers"] spUnlike := cal_of F4 g4 (ok_row_unlike T F4) fun _ _ _ _ _ _ us hl => match us, hl with | [_], _ => rfl
  exact cal_of F7 g7 (ok_whole T L F7 (checks T R) (withins T F2 g2 G1 4 (by decide)) (wrows T L F6 g6 F5 g5 G3 G4 4)) fun _ _ _ _ _ _ us hl => match us, hl with | [_], _ => rfl
end
end Dc

set_option Elab.async false
set_option linter.all false
set_option maxRecDepth 100000
set_option maxHeartbeats 2000000
namespace Dc
open PySem PySem.Spec PyProof.Rows L2
local macro_rules | `(tactic| walk_at "ne") => `(tactic| first | assumption | (refine Ne.symm ?_; assumption) | exact ne_of (by assumption) (by assumption) (by intro q; cases q) | exact ne_of_none (by assumption) (by assumption) | exact Ne.symm (ne_of_none (by assumption) (by assumption)))
local macro_rules | `(tactic| walk_at "hp") => `(tactic| first | assumption | exact upd_same | (refine upd_keep ?_ (by assumption); walk_at "hp") | (refine upd_other ?_ ?_; · walk_at "ne"; · walk_at "hp"))
local macro_rules | `(tactic| walk_at "hl") => `(tactic| first | assumption | exact SqL.of (by walk_at "hp"))
local macro_rules | `(tactic| walk_at "ht") => `(tactic| first | assumption | exact SqT.of (by walk_at "hp"))
local macro_rules | `(tactic| walk_at "rd1") => `(tactic| first
  | ((with_reducible apply rd_var); exact rfl)
  | ((with_reducible apply rd_eq); exact rfl) | ((with_reducible apply rd_ne); exact rfl)
  | with_reducible first
  | refine iteT ?_ | refine iteF ?_ | refine rd_nF ?_ | refine rd_nT ?_ | refine rd_yes ?_ | refine rd_c ?_ | refine rd_op ?_ | refine rd_un ?_ | refine rd_test ?_ | refine rd_B ?_ | refine rd_bl ?_ | refine rd_seq ?_ | refine rd_next ?_ | refine rd_ifs ?_ | refine rd_asg ?_ | refine rd_name ?_ | refine rd_ret ?_ | refine rd_drop ?_
  | refine rd_call ?_ | refine rd_cons ?_ | refine rd_nil ?_ | refine rd_cb ?_ | refine rd_I0 ?_ | refine rd_U ?_ | refine rd_gsub ?_ | refine rd_lstB ?_ | refine rd_tupB ?_ | refine rd_sl ?_ | refine rd_np ?_ | refine rd_part ?_ | refine rd_in ?_ | refine rd_if ?_ | refine rd_not ?_ | refine rd_rng1 ?_ | refine rd_itup ?_ | refine rd_ilst ?_ | refine rd_bm ?_ | refine rd_bm0 ?_ | refine rd_andV ?_ | refine rd_orV ?_ | refine rd_notV ?_)
local macro_rules | `(tactic| walk_at "rd") => `(tactic| repeat walk_at "rd1")
local macro_rules | `(tactic| walk_at "ci") => `(tactic| first | assumption | (show (0 : Int) < _; first | decide | omega) | exact ⟨by decide, by decide⟩ | exact Or.inr ⟨by decide, by decide⟩ | exact Or.inl ⟨by decide, by decide⟩ | exact ⟨by decide, by decide, by decide⟩ | exact Or.inl ⟨by omega, by omega⟩ | exact Or.inr ⟨by omega, by omega⟩)
local macro_rules | `(tactic| walk_at "ix") => `(tactic| first
  | ((with_reducible apply rd_ixL); (walk_at "hl"); exact rfl)
  | ((with_reducible apply rd_ixT); (walk_at "ht"); exact rfl)
  | ((with_reducible apply rd_lenL); (walk_at "hl"))
  | ((with_reducible apply rd_lenT); (walk_at "ht"))
  | ((with_reducible apply rd_tupOf); (walk_at "hl"))
  | ((with_reducible apply rd_listOf); (walk_at "hl"))
  | (with_reducible refine rd_min2 ?_)
  | ((with_reducible apply rd_I); (walk_at "ci"))
  | ((with_reducible apply rd_setL); (walk_at "hp"); exact rfl))
local macro_rules | `(tactic| walk_at "gs") => `(tactic| repeat first | walk_at "rd1" | walk_at "ix")
local macro_rules | `(tactic| walk_at "go") => `(tactic| repeat first | walk_at "rd1" | walk_at "ix" | with_reducible refine rd_and ?_ | with_reducible refine rd_or ?_)
local macro_rules | `(tactic| walk_at "fo") => `(tactic| (with_reducible refine rd_for ?_))
local macro_rules | `(tactic| walk_at "pm") => `(tactic| repeat first
  | with_reducible first | refine rd_pcons ?_ | refine rd_pstr ?_ | refine rd_pcap ?_ | refine rd_pwild ?_ | refine rd_pnil ?_ | refine rd_por ?_ | refine rd_pno ?_
  | ((with_reducible refine rd_eq rfl ?_); refine ⟨_, rfl, ?_⟩; first | refine rd_T rfl ?_ | refine rd_F (by decide) ?_)
  | dsimp only [List.nil_append, List.singleton_append, List.cons_append, setAll])
local macro_rules | `(tactic| walk_at "pc") => `(tactic| (refine rd_case ?_); (first | (refine rd_phit (SqT.of (by assumption)) rfl ?_) | (refine rd_pmiss (SqT.of (by assumption)) (by simp) ?_)); (walk_at "pm"))
local macro_rules | `(tactic| walk_at "gd") => `(tactic| ((try dsimp only [gName, List.set]); walk_at "go"))

theorem cut_few {r : Int} (h0 : 0 ≤ r) (h1 : r < 4) : ∃ ks : List Int, cutV [V.int 1, .int 2, .int 3] none (some r) = ks.map V.int ∧ ks.length ≤ 100 ∧ ∀ k ∈ ks, numOk k := by
  have ok : ∀ ks : List Int, (∀ k ∈ ks, 0 ≤ k ∧ k ≤ 3) → ∀ k ∈ ks, numOk k := fun ks h k hk => by have := h k hk; exact ⟨by omega, by omega⟩
  rcases (by omega : r = 0 ∨ r = 1 ∨ r = 2 ∨ r = 3) with rfl | rfl | rfl | rfl
  · exact ⟨[], rfl, by decide, ok _ (by decide)⟩
  · exact ⟨[1], rfl, by decide, ok _ (by decide)⟩
  · exact ⟨[1, 2], rfl, by decide, ok _ (by decide)⟩
  · exact ⟨[1, 2, 3], rfl, by decide, ok _ (by decide)⟩
section
variable {P : Program} {w : World} {K : PySem.W.Frag} {mg : Str → Option Value} {base : Heap} {J : KJ}
theorem sc_law : FnScope ["_law_script", "_law_state", "_law_turn", "_law_chain", "_law_few", "_law_word", "_law_due"] ["_law_script"] (defScope s_law) := ⟨rfl, rfl, rfl, by decide +kernel, rfl, by decide +kernel, by decide +kernel⟩
theorem ok_law (T : Txt K mg) (BK : KB mg J) {f : Addr} {fd : FuncData} {ns : List Int} {c PL : Addr} (F : FnP K "law" "law" s_law f fd) (hK : KOne K J J.nw 2) (hcode : fd.code = .ref c) (TB : LamX.TabB base mg c PL)
    (IK : ∃ f fd, FnP K "_law_kind" "_law_kind" s__law_kind f fd ∧ mg "_law_kind" = some (.ref f))
    (G__law_start : Cal P w K mg base CX0 1 "_law_start" ["_law_script"] (spStart K ns))
    (G__law_drawn : Cal P w K mg base CX0 1 "_law_drawn" ["_law_state", "_law_many"] (spDrawn K ns))
    (G__law_great : Cal P w K mg base CX0 2 "_law_great" ["_law_state"] (spGreat K ns))
    (G__law_row : Cal P w K mg base CX0 9 "_law_row" ["_law_chain"] (spLRow 4))
    (G__law_same : Cal P w K mg base CX0 4 "_law_same" ["_law_found", "_law_due"] (spSame 2))
    (G_whole : Cal P w K mg base (L2.CX P w) 10 "whole" ["chain"] (spWhole J.nw)) :
    FnOk P w K mg base CX0 56 f fd ["_law_script"] (spLawT K PL ns) := by
  refine ok0C F sc_law (fun vs H Q E h => ?_) (fun A outer s H vs Q E hr h => ?_)
  · obtain ⟨sc, rfl, _⟩ := h
    rfl
  · obtain ⟨sc, rfl, hS, hPL, k⟩ := h
    have hu := room1 hr
    have hu64 := hr.units
    refine ⟨_, (pss_cons (ps_set (i := 1) sc_law.nd rfl (Or.inl rfl) (pe_cal G__law_start (hr.mono (by omega)) pass0 (pa_cons (pv 0) pa_nil)))
  (pss_cons (ps_for PassesOwn.never rfl (pi_range1 (by rfl) T.free_range (pa_cons pe_int pa_nil)) (pg_name (i := 2) sc_law.nd rfl (Or.inl rfl))
    (pss_cons (ps_set (i := 3) sc_law.nd rfl (Or.inr rfl) (pe_cal G__law_great (hr.mono (by omega)) pass0 (pa_cons (pv 1) pa_nil)))
    (pss_cons (ps_set (i := 4) sc_law.nd rfl (Or.inl rfl) (pe_tup (pa_cons pe_str (pa_cons (pe_slice (sl_tupAK K) (pe_tup (pa_cons pe_int (pa_cons pe_int (pa_cons pe_int pa_nil)))) po_none (po_some (pe_cal G__law_drawn (hr.mono (by omega)) pass0 (pa_cons (pv 1) (pa_cons pe_int pa_nil))))) pa_nil))))
    (pss_cons (ps_if (pt_cmpR op_eq (pe_cal G__law_drawn (hr.mono (by omega)) pass0 (pa_cons (pv 1) (pa_cons pe_int pa_nil))) pe_int (nomark _))
      (pss_cons (ps_set (i := 5) sc_law.nd rfl (Or.inl rfl) (pe_ix (ix_listK K) (pe_lst (pa_cons pe_str (pa_cons pe_str pa_nil))) (pe_cal G__law_drawn (hr.mono (by omega)) pass0 (pa_cons (pv 1) (pa_cons pe_int pa_nil))) (fun _ _ => rfl)))
      (pss_one (ps_set (i := 3) sc_law.nd rfl (Or.inr rfl) (pe_tup (pa_cons (pv 4) (pa_cons (pe_op (op_catTK K) (pe_tup (pa_cons (pe_tup (pa_cons (pv 5) (pa_cons (pv 3) pa_nil))) pa_nil)) (pe_ix (ix_listK K) (pe_lst (pa_cons (pe_tup pa_nil) (pa_cons (pe_tup (pa_cons (pe_tup (pa_cons pe_str (pa_cons pe_int pa_nil))) pa_nil)) pa_nil))) (pe_cal G__law_drawn (hr.mono (by omega)) pass0 (pa_cons (pv 1) (pa_cons pe_int pa_nil))) (fun _ _ => rfl))) pa_nil)))))) pss_nil)
    (pss_cons (ps_set (i := 6) sc_law.nd rfl (Or.inl rfl) (pe_cal G__law_row (hr.mono (by omega)) pass0 (pa_cons (pv 3) pa_nil)))
    (pss_one (ps_if (pt_not (pt_val (pe_cal G__law_same (hr.mono (by omega)) pass0 (pa_cons (pe_kind (k := 10) IK T BK TB (by exact hcode) (List.mem_singleton.mpr rfl) (fun p hp _ => by rw [List.mem_singleton.mp hp]) (hr.mono (by omega)) (show LamX.LamS (defScope s_law) _ from LamX.lamS_by (by decide +kernel)) rfl (fun _ _ _ _ _ => rfl) (fun A outer s H E f c' hr => (pe_cal G_whole (hr.mono (by omega)) (passes_call (takes_of rfl rfl rfl rfl) fun _ _ _ _ h => h) (pa_cons (pv 3) pa_nil)))) (pa_cons (pe_ifExp (pt_cmpR op_isN (pv 6) pe_non (nomark _)) pe_str (pv 6)) pa_nil)))))
      (pss_one (ps_ret pe_bl)) pss_nil)))))))
  (pss_one (ps_ret pe_bl)))), ?_⟩
    try dsimp only [cxOf, Cx.nox, Cx.wish]
    refine rd_at (σ' := [some (.ref sc), none, none, none, none, none, none]) rfl ?_
    generalize (envOfC (Str.ofString "law") (defScope s_law) s.heap.objs.size f fd.code).qual ++ Str.ofString "<lambda>" = lq
    have tab0 : LamX.Tabs [(PL, lq)] H := fun p hp => by
      rw [List.mem_singleton.mp hp]
      exact LamX.TabS.nil hPL
    walk_at "gd"
    refine ⟨sc, rfl, hS, fun sa H1 S1 n1 f1 => ?_⟩
    replace tab0 := tabsFr0 f1 tab0
    walk_at "gd"
    walk_at "fo"
    walk_at "gd"
    refine ⟨_, rfl, by decide, by decide, ?_⟩
    refine for_range (lo := 0) (n := 4) (fun i σ H2 => ∃ v2 v3 v4 v5 v6 : Option V, σ = [some (.ref sc), some (.ref sa), v2, v3, v4, v5, v6] ∧ StAt K ns H2 sa sc ∧ LamX.Tabs [(PL, lq)] H2) ⟨_, _, _, _, _, rfl, S1, tab0⟩ ?_ ?_
    · clear S1 f1 n1 H1 tab0
      rintro i0 σ H2 hi ⟨v2, v3, v4, v5, v6, rfl, S2, t2⟩
      walk_at "gd"
      refine ⟨sa, sc, rfl, S2, fun p c H3 hc cok crow cnm cns S3 f3 => ?_⟩
      replace t2 := tabsSt S2 f3 t2
      have B := (Bn.start (W := LamX.Tabs [(PL, lq)]) S3 t2 (fun _ _ S f w => tabsSt S f w)).add (T := fun H => ChAt H p c) hc (fun _ _ f h => h.fr f)
      clear S2 S3 f3 t2 hc
      walk_at "gd"
      refine B.mkT fun x1 H1 B => ?_
      walk_at "gd"
      refine B.dr (by decide) (by decide) fun r H1 r0 r1 B => ?_
      walk_at "gd"
      refine B.slice (B.get 0) fun x2 H1 g B => ?_
      obtain ⟨ks, eks, kl, kok⟩ := cut_few r0 r1
      rw [eks] at B
      clear g eks r0 r1
      walk_at "gd"
      refine B.mkT fun few H1 B => ?_
      have hfew : MkAt H1 few (.row ks) := ⟨x2, B.get 0, B.get 1⟩
      replace B := (B.add (T := fun H => MkAt H few (.row ks)) hfew (fun _ _ f h => h.fr f)).nil
      clear hfew
      try dsimp only [gName, List.set]
      refine rd_seq ?_
      refine ifs_coreN (fun σ' H' => ∃ (v5 : Option V) (p : Addr) (c : Ch), σ' = [some (.ref sc), some (.ref sa), some (.int (0 + (i0 : Int))), some (.ref p), some (.ref few), v5, v6] ∧ StAt K ns H' sa sc ∧ LamX.Tabs [(PL, lq)] H' ∧ ChAt H' p c ∧ c.ok ∧ c.rows ∧ c.nm ≤ 4 ∧ c.ns ≤ 12) ?_ (fun nx' hn => ?_)
      rotate_left
      · walk_at "gd"
        refine B.dr (by decide) (by decide) fun r H1 _ _ B => ?_
        walk_at "gd"
        refine rd_dec (fun _ => ?_) (fun _ => ?_)
        · walk_at "gd"
          refine B.mkL fun l1 H1 B => ?_
          walk_at "gd"
          refine B.dr (by decide) (by decide) fun r H1 r0 r1 B => ?_
          walk_at "gd"
          refine B.ixL 0 r0 r1 fun v hv => ?_
          obtain ⟨wd, rfl, hw⟩ : ∃ wd : Str, v = .str wd ∧ (wd = "both" ∨ wd = "then") := by
            simp only [List.mem_cons, List.not_mem_nil, or_false] at hv
            rcases hv with rfl | rfl
            · exact ⟨_, rfl, .inl rfl⟩
            · exact ⟨_, rfl, .inr rfl⟩
          replace B := B.nil
          clear hv r0 r1
          try dsimp only [gName, List.set]
          walk_at "gd"
          refine B.mkT fun g1 H1 B => ?_
          walk_at "gd"
          refine B.mkT fun s1 H1 B => ?_
          have T1 : StgN H1 c.nm (c.ns + 1) s1 := by
            rcases hw with rfl | rfl
            · exact ⟨[g1], [.both c], by simp, B.get 0, Sgs'.one (g := .both c) ⟨p, B.get 1, B.w.1.2⟩ cok crow⟩
            · exact ⟨[g1], [.thn c], by simp, B.get 0, Sgs'.one (g := .thn c) ⟨p, B.get 1, B.w.1.2⟩ cok crow⟩
          replace B := (B.add (T := fun H => StgN H c.nm (c.ns + 1) s1) T1 (fun _ _ f h => h.fr f)).nil
          clear T1 hw
          walk_at "gd"
          refine B.mkT fun u0 H1 B => ?_
          walk_at "gd"
          refine B.mkT fun u1 H1 B => ?_
          walk_at "gd"
          refine B.mkT fun u2 H1 B => ?_
          walk_at "gd"
          refine B.mkL fun ul H1 B => ?_
          walk_at "gd"
          refine B.dr (by decide) (by decide) fun r H1 r0 r1 B => ?_
          walk_at "gd"
          refine B.ixL 0 r0 r1 fun v hv => ?_
          obtain ⟨y, rfl, hy⟩ : ∃ y, v = .ref y ∧ StgR H1 0 1 y := by
            simp only [List.mem_cons, List.not_mem_nil, or_false] at hv
            rcases hv with rfl | rfl
            · exact ⟨_, rfl, [], [], B.get 3, Sgs'.none.mono (by decide) (by decide)⟩
            · exact ⟨_, rfl, [u1], [.one (.take 2)], B.get 1, (Sgs'.one (g := .one (.take 2)) (B.get 2) ⟨by decide, by decide⟩ trivial).mono (Nat.zero_le _) (Nat.le_refl 1)⟩
          clear hv r0 r1
          try dsimp only
          refine B.stages B.w.2 hy (by omega) fun s3 H2 g B T3 => ?_
          replace B := (B.add (T := fun H => StgN H (c.nm + 0) (c.ns + 1 + 1) s3) T3 (fun _ _ f h => h.fr f)).nil
          clear hy g T3
          try dsimp only [gName, List.set]
          walk_at "gd"
          refine B.mkT fun p2 H1 B => ?_
          obtain ⟨as, gs, _, h1, h2⟩ := B.w.2
          obtain ⟨c', c1, c2, c3, c4, c5⟩ := ch_of (B.get 0) h1 B.w.1.1.2 h2 ⟨kl, kok⟩ trivial
          exact hn _ _ ⟨_, p2, c', rfl, B.st, B.w.1.1.1.1, c1, c2, c3, by omega, by omega⟩
        · walk_at "gd"
          exact hn _ _ ⟨_, p, c, rfl, B.st, B.w.1.1, B.w.1.2, cok, crow, by omega, by omega⟩
      · clear B kl kok cok crow cnm cns
        rintro σ' H3 ⟨v5, p, c, rfl, S3, t2, hc, cok, crow, cnm, cns⟩
        walk_at "gd"
        refine lrow_join hc cok crow cnm fun due H4 hdue f4 => ?_
        replace t2 := tabsFr0 f4 t2
        replace S3 := S3.fr f4 (by simp)
        replace hc := hc.fr f4
        clear f4
        walk_at "gd"
        refine ⟨t2, fun H6 e6 t6 => ?_⟩
        have S5 := S3.ex e6
        replace hc := hc.ex e6
        replace hdue := hdue.ex e6
        clear t2 e6 S3
        unfold TTk
        walk_at "gd"
        refine whole_kind hK hc cok crow cnm cns fun v H7 hv f7 => ?_
        have hdue6 := hdue
        replace S5 := S5.fr f7 (by simp)
        replace hdue := hdue.fr f7
        replace t6 := tabsFr0 f7 t6
        cases hr : c.row with
        | none =>
          rw [hr] at hv hdue
          obtain rfl : v = .str "NoWhole" := hv
          obtain rfl : due = .non := hdue
          walk_at "gd"
          refine ⟨rfl, _, rfl, ?_⟩
          rw [if_pos (by decide)]
          walk_at "gd"
          refine ⟨_, _, rfl, .inl (.inr ⟨_, rfl, rfl⟩), fun H8 f8 => ?_⟩
          refine ⟨_, rfl, ?_⟩
          rw [if_neg (by decide)]
          exact ⟨_, _, _, _, _, rfl, S5.fr f8 (by simp), tabsFr0 f8 t6⟩
        | some xs =>
          rw [hr] at hv hdue hdue6
          obtain ⟨d, rfl, hd⟩ := hdue
          obtain ⟨q, rfl, hq, nq⟩ := hv
          walk_at "gd"
          refine ⟨rfl, _, rfl, ?_⟩
          rw [if_neg (by simp)]
          walk_at "gd"
          refine ⟨_, _, rfl, sm_ints hq hd (Ch.row_len hr cok), fun H8 f8 => ?_⟩
          refine ⟨_, rfl, ?_⟩
          rw [if_neg (by decide)]
          exact ⟨_, _, _, _, _, rfl, S5.fr f8 (by simp), tabsFr0 f8 t6⟩
    · rintro σ H2 ⟨v2, v3, v4, v5, v6, rfl, S2, t2⟩
      walk_at "gd"
      exact k _
end
end Dc

set_option Elab.async false
set_option linter.all false
set_option maxRecDepth 100000
set_option maxHeartbeats 2000000
namespace Dc
open PySem PySem.Spec PyProof.Rows L2
/-- the law's other defs -/
structure RowsL (K : PySem.W.Frag) (mg : Str → Option Value) : Prop where
  row : FnM K mg "_law_row" s__law_row
  behind : FnM K mg "_law_behind" s__law_behind
  often : FnM K mg "_law_often" s__law_often
  same : FnM K mg "_law_same" s__law_same
  kind : FnM K mg "_law_kind" s__law_kind
  great : FnM K mg "_law_great" s__law_great
section
variable {P : Program} {w : World} {K : PySem.W.Frag} {mg : Str → Option Value} {base : Heap}
theorem law_fn {J : KJ} (T : Txt K mg) (R : ProgW K mg) (L : NwF K mg J.nw) (S : StartL K mg) (W : RowsL K mg) (BK : KB mg J) (hK : KOne K J J.nw 2) {f : Addr} {fd : FuncData} {c PL : Addr} (F : FnP K "law" "law" s_law f fd) (hcode : fd.code = .ref c) (TB : LamX.TabB base mg c PL)
    {ns : List Int} (hl : ns.length ≤ 63) : FnOk P w K mg base CX0 56 f fd ["_law_script"] (spLawT K PL ns) := by
  obtain ⟨f1, d1, F1, g1⟩ := W.row
  obtain ⟨f2, d2, F2, g2⟩ := W.behind
  obtain ⟨f3, d3, F3, g3⟩ := W.often
  obtain ⟨f4, d4, F4, g4⟩ := W.same
  obtain ⟨f5, d5, F5, g5⟩ := W.great
  have GG : Cal P w K mg base CX0 2 "_law_great" ["_law_state"] (spGreat K ns) := cal_of F5 g5 (ok_law_great T F5 (l_drawn T S hl)) fun _ _ _ _ _ _ us hl => match us, hl with | [_], _ => rfl
  exact ok_law T BK F hK hcode TB W.kind (l_start T S) (l_drawn T S hl) GG (lrows T F1 g1 F2 g2 F3 g3 4) (sames T F4 g4 2) (wholes T L R)
end
end Dc

set_option Elab.async false
set_option linter.all false
set_option maxRecDepth 100000
set_option maxHeartbeats 2000000
namespace Dc
open PySem PySem.Spec PyProof.Rows L2
/-! a list that a def only reads may be held as it stands -/
theorem updF_none {H : Hp} {a b : Addr} {u u' : HO} (h : H a = some u) (n : H b = none) : upd H a u' b = none := by
  rw [upd_ne (fun z => by rw [z, h] at n; cases n)]
  exact n
theorem updF_ne {H : Hp} {a b : Addr} {u u' v : HO} (h : H a = some u) (n : H b = some v) (d : v ≠ u) : upd H a u' b = some v := by
  rw [upd_ne (fun z => by rw [z, h] at n; exact d (Option.some.inj n).symm)]
  exact n
theorem updF_back {H : Hp} {a b : Addr} {u' : HO} (n : upd H a u' b = none) : H b = none ∧ b ≠ a := by
  by_cases z : b = a
  · rw [z, upd_same] at n; cases n
  · rw [upd_ne z] at n; exact ⟨n, z⟩
def spFz (sp : Sp) : Sp := fun vs H Q E => sp vs H Q E ∨ ∃ a xs, H a = some (.lst xs) ∧ ∀ o, sp vs (upd H a (.frz o (.lst xs))) Q E
theorem fnFrz {P : Program} {w : World} {K : PySem.W.Frag} {mg : Str → Option Value} {base : Heap} {k : Nat} {f : Addr} {fd : FuncData} {ps : List Str} {sp : Sp} (F : FnOk P w K mg base CX0 k f fd ps sp) : FnOk P w K mg base CX0 k f fd ps (spFz sp) := by
  refine ⟨fun vs H Q E h => ?_, fun A outer s H args us vs Q E hr e0 hb rv h => ?_⟩
  · rcases h with h | ⟨a, xs, _, h⟩
    · exact F.len vs H Q E h
    · exact F.len vs _ Q E (h { cls := .none, data := .fields #[] })
  · rcases h with h | ⟨a, xs, ha, h⟩
    · exact F.run A outer s H args us vs Q E hr e0 hb rv h
    · obtain ⟨hz, its, n, r, ho⟩ := e0.hok a _ ha
      generalize hob : ({ cls := .type "list", data := .seq its.toArray n } : Obj) = ob at ho
      have hok : HOk P w (upd H a (.frz ob (.lst xs))) s.heap := fun b u hb2 => by
        have st : ∀ b u, H b = some u → ObjOk P w (upd H a (.frz ob (.lst xs))) s.heap b u := fun b u hu => (e0.hok b u hu).stay (fun _ _ _ z => z) (fun d z => updF_ne ha z (fun y => by cases y)) (fun d ys z => updF_ne ha z (fun y => by cases y))
        by_cases hb3 : b = a
        · rw [hb3, upd_same] at hb2
          cases hb2
          rw [hb3]
          exact ⟨ho, st a _ ha⟩
        · rw [upd_ne hb3] at hb2
          exact st b u hb2
      have e1 : Env0 P w K mg base A outer s (upd H a (.frz ob (.lst xs))) := ⟨e0.frames, e0.mod, fun b o q => ⟨(e0.bs b o q).1, updF_none ha (e0.bs b o q).2⟩, e0.bsz, e0.funs, fun b q => updF_none ha (e0.frf b q), hok, e0.bare⟩
      refine codeAny_mono (F.run A outer s _ args us vs Q E hr e1 hb rv (h ob)) fun r s' hq => ?_
      cases r with
      | error e => exact hq
      | ok fl =>
        cases fl with
        | ret u =>
          obtain ⟨v, H', os, bare, un, hok', rv', q⟩ := hq
          refine ⟨v, H', os, bare, ⟨fun b o z n => un.keep b o z (updF_none ha n), fun b o z n => un.slot b o z (updF_none ha n), fun b o z n => un.free b o z (updF_none ha n), un.there, fun b ys z => un.tups b ys (updF_ne ha z (fun y => by cases y)), fun b o u z => un.frzs b o u (updF_ne ha z (fun y => by cases y)), fun b ps z => un.tbls b ps (updF_ne ha z (fun y => by cases y))⟩, hok', rv', q⟩
        | next => exact hq
        | brk => exact hq
        | cont => exact hq
end Dc

set_option Elab.async false
set_option linter.all false
set_option maxRecDepth 100000
set_option maxHeartbeats 0
namespace Dc
open PySem PySem.Spec PyProof.Rows L2
theorem all_at {α : Type} {l : List α} {p : α → Bool} (h : l.all p = true) (i : Nat) {x : α} (e : l[i]? = some x := by rfl) : p x = true := List.all_eq_true.mp h x (List.mem_of_getElem? e)
theorem map_at {α β : Type} {l : List α} {f g : α → β} (h : l.map f = l.map g) (i : Nat) {x : α} (e : l[i]? = some x := by rfl) : f x = g x := by
  have h1 : (l.map f)[i]? = (l.map g)[i]? := by rw [h]
  rw [List.getElem?_map, List.getElem?_map, e] at h1
  exact Option.some.inj h1
section
variable {w : World} {K : PySem.W.Frag} {h : Heap} {mg : Str → Option Value}
def jK (K : PySem.W.Frag) : KJ := ⟨He.ga K "DrawError", He.ga K "BadChain", He.ga K "BadMany", He.ga K "NoWhole", He.ga K "BadText"⟩
theorem FactsZ.four (c : FactsZ K) : (globs.all fun x => (He.Fa.glo x).ok K) = true ∧ (frees.all fun x => (He.Fa.free x).ok K) = true ∧ (cons_.all fun q => (He.Fa.int q.1 q.2).ok K) = true ∧ nwB K = true ∧ (fns.all fun d => d.ok K) = true := by
  obtain ⟨x0, d0⟩ := He.ba c.ex
  obtain ⟨c1, x0⟩ := He.ba x0
  obtain ⟨c2, x0⟩ := He.ba x0
  obtain ⟨c3, x0⟩ := He.ba x0
  exact ⟨c1, c2, c3, x0, d0⟩
theorem FactsZ.glo (c : FactsZ K) (X : K.In h) (G : h.Ns mainGlobals mg) (i : Nat) {x : Str} (e : globs[i]? = some x := by rfl) : mg x = some (.ref (He.ga K x)) := He.glo_ok X G (all_at (p := fun x => (He.Fa.glo x).ok K) c.four.1 i e)
theorem FactsZ.free (c : FactsZ K) (X : K.In h) (G : h.Ns mainGlobals mg) (i : Nat) {x : Str} (e : frees[i]? = some x := by rfl) : mg x = none := He.free_ok X G (all_at (p := fun x => (He.Fa.free x).ok K) c.four.2.1 i e)
theorem FactsZ.con (c : FactsZ K) (X : K.In h) (G : h.Ns mainGlobals mg) (i : Nat) {x : Str} {n : Int} (e : cons_[i]? = some (x, n) := by rfl) : ∃ t, mg x = some (.int n t) := He.int_ok X G (all_at (p := fun q => (He.Fa.int q.1 q.2).ok K) c.four.2.2.1 i e)
theorem FactsZ.def_ (c : FactsZ K) (i : Nat) {d : He.DefD} (e : fns[i]? = some d := by rfl) : ∃ fd, FunD K d.name d.qual d.params d.body d.scope (d.dvs K) (d.kws K) (He.fAd K d.at_) fd := He.DefD.funD (map_at (f := fun d => He.fnW K d.at_) (g := He.DefD.val) c.fnw i e) (all_at (p := fun d => d.ok K) c.four.2.2.2.2 i e)
theorem txt (c : FactsZ K) (X : K.In h) (G : h.Ns mainGlobals mg) : Txt K mg :=
  ⟨c.free X G 0, c.free X G 1, c.free X G 2, c.free X G 3, c.free X G 4, c.free X G 5, c.free X G 6, c.free X G 7, c.free X G 8, c.free X G 9, c.free X G 10, c.free X G 11, c.free X G 12, c.con X G 0, c.con X G 1, c.con X G 2, c.con X G 3, c.con X G 4⟩
theorem fn_makers_within (c : FactsZ K) (X : K.In h) (G : h.Ns mainGlobals mg) : FnM K mg "makers_within" s_makers_within := by
  obtain ⟨fd, F⟩ := c.def_ 0
  exact ⟨_, fd, F, c.glo X G 0⟩
theorem fn_check_chain (c : FactsZ K) (X : K.In h) (G : h.Ns mainGlobals mg) : FnM K mg "check_chain" s_check_chain := by
  obtain ⟨fd, F⟩ := c.def_ 1
  exact ⟨_, fd, F, c.glo X G 1⟩
theorem fn_is_chain (c : FactsZ K) (X : K.In h) (G : h.Ns mainGlobals mg) : FnM K mg "is_chain" s_is_chain := by
  obtain ⟨fd, F⟩ := c.def_ 2
  exact ⟨_, fd, F, c.glo X G 2⟩
theorem fn_is_pair (c : FactsZ K) (X : K.In h) (G : h.Ns mainGlobals mg) : FnM K mg "is_pair" s_is_pair := by
  obtain ⟨fd, F⟩ := c.def_ 3
  exact ⟨_, fd, F, c.glo X G 3⟩
theorem fn_is_maker (c : FactsZ K) (X : K.In h) (G : h.Ns mainGlobals mg) : FnM K mg "is_maker" s_is_maker := by
  obtain ⟨fd, F⟩ := c.def_ 4
  exact ⟨_, fd, F, c.glo X G 4⟩
theorem fn_is_row (c : FactsZ K) (X : K.In h) (G : h.Ns mainGlobals mg) : FnM K mg "is_row" s_is_row := by
  obtain ⟨fd, F⟩ := c.def_ 5
  exact ⟨_, fd, F, c.glo X G 5⟩
theorem fn_is_stage (c : FactsZ K) (X : K.In h) (G : h.Ns mainGlobals mg) : FnM K mg "is_stage" s_is_stage := by
  obtain ⟨fd, F⟩ := c.def_ 6
  exact ⟨_, fd, F, c.glo X G 6⟩
theorem fn_has_chain (c : FactsZ K) (X : K.In h) (G : h.Ns mainGlobals mg) : FnM K mg "has_chain" s_has_chain := by
  obtain ⟨fd, F⟩ := c.def_ 7
  exact ⟨_, fd, F, c.glo X G 7⟩
theorem fn_is_within (c : FactsZ K) (X : K.In h) (G : h.Ns mainGlobals mg) : FnM K mg "is_within" s_is_within := by
  obtain ⟨fd, F⟩ := c.def_ 8
  exact ⟨_, fd, F, c.glo X G 8⟩
theorem fn_is_number (c : FactsZ K) (X : K.In h) (G : h.Ns mainGlobals mg) : FnM K mg "is_number" s_is_number := by
  obtain ⟨fd, F⟩ := c.def_ 9
  exact ⟨_, fd, F, c.glo X G 9⟩
theorem fn_whole (c : FactsZ K) (X : K.In h) (G : h.Ns mainGlobals mg) : FnM K mg "whole" s_whole := by
  obtain ⟨fd, F⟩ := c.def_ 10
  exact ⟨_, fd, F, c.glo X G 10⟩
theorem fn_whole_row (c : FactsZ K) (X : K.In h) (G : h.Ns mainGlobals mg) : FnM K mg "whole_row" s_whole_row := by
  obtain ⟨fd, F⟩ := c.def_ 11
  exact ⟨_, fd, F, c.glo X G 11⟩
theorem fn_row_behind (c : FactsZ K) (X : K.In h) (G : h.Ns mainGlobals mg) : FnM K mg "row_behind" s_row_behind := by
  obtain ⟨fd, F⟩ := c.def_ 12
  exact ⟨_, fd, F, c.glo X G 12⟩
theorem fn_row_until (c : FactsZ K) (X : K.In h) (G : h.Ns mainGlobals mg) : FnM K mg "row_until" s_row_until := by
  obtain ⟨fd, F⟩ := c.def_ 13
  exact ⟨_, fd, F, c.glo X G 13⟩
theorem fn_row_unlike (c : FactsZ K) (X : K.In h) (G : h.Ns mainGlobals mg) : FnM K mg "row_unlike" s_row_unlike := by
  obtain ⟨fd, F⟩ := c.def_ 14
  exact ⟨_, fd, F, c.glo X G 14⟩
theorem fn__law_start (c : FactsZ K) (X : K.In h) (G : h.Ns mainGlobals mg) : FnM K mg "_law_start" s__law_start := by
  obtain ⟨fd, F⟩ := c.def_ 15
  exact ⟨_, fd, F, c.glo X G 15⟩
theorem fn__law_drawn (c : FactsZ K) (X : K.In h) (G : h.Ns mainGlobals mg) : FnM K mg "_law_drawn" s__law_drawn := by
  obtain ⟨fd, F⟩ := c.def_ 16
  exact ⟨_, fd, F, c.glo X G 16⟩
theorem fn__law_same (c : FactsZ K) (X : K.In h) (G : h.Ns mainGlobals mg) : FnM K mg "_law_same" s__law_same := by
  obtain ⟨fd, F⟩ := c.def_ 17
  exact ⟨_, fd, F, c.glo X G 17⟩
theorem fn__law_kind (c : FactsZ K) (X : K.In h) (G : h.Ns mainGlobals mg) : FnM K mg "_law_kind" s__law_kind := by
  obtain ⟨fd, F⟩ := c.def_ 18
  exact ⟨_, fd, F, c.glo X G 18⟩
theorem fn__law_row (c : FactsZ K) (X : K.In h) (G : h.Ns mainGlobals mg) : FnM K mg "_law_row" s__law_row := by
  obtain ⟨fd, F⟩ := c.def_ 19
  exact ⟨_, fd, F, c.glo X G 19⟩
theorem fn__law_behind (c : FactsZ K) (X : K.In h) (G : h.Ns mainGlobals mg) : FnM K mg "_law_behind" s__law_behind := by
  obtain ⟨fd, F⟩ := c.def_ 20
  exact ⟨_, fd, F, c.glo X G 20⟩
theorem fn__law_often (c : FactsZ K) (X : K.In h) (G : h.Ns mainGlobals mg) : FnM K mg "_law_often" s__law_often := by
  obtain ⟨fd, F⟩ := c.def_ 21
  exact ⟨_, fd, F, c.glo X G 21⟩
theorem fn__law_great (c : FactsZ K) (X : K.In h) (G : h.Ns mainGlobals mg) : FnM K mg "_law_great" s__law_great := by
  obtain ⟨fd, F⟩ := c.def_ 22
  exact ⟨_, fd, F, c.glo X G 22⟩
theorem fn_law (c : FactsZ K) (X : K.In h) (G : h.Ns mainGlobals mg) : FnM K mg "law" s_law := by
  obtain ⟨fd, F⟩ := c.def_ 23
  exact ⟨_, fd, F, c.glo X G 23⟩
theorem nw_of (c : FactsZ K) (X : K.In h) (G : h.Ns mainGlobals mg) : NwF K mg (jK K).nw ∧ KOne K (jK K) (jK K).nw 2 := by
  have z := c.four.2.2.2.1
  unfold nwB at z
  obtain ⟨q1, z⟩ := He.ba z
  obtain ⟨q2, z⟩ := He.ba z
  obtain ⟨q3, z⟩ := He.ba z
  obtain ⟨q4, z⟩ := He.ba z
  obtain ⟨q5, z⟩ := He.ba z
  obtain ⟨q6, z⟩ := He.ba z
  obtain ⟨q7, z⟩ := He.ba z
  obtain ⟨q8, z⟩ := He.ba z
  obtain ⟨q9, z⟩ := He.ba z
  obtain ⟨q10, z⟩ := He.ba z
  obtain ⟨q11, z⟩ := He.ba z
  obtain ⟨q12, z⟩ := He.ba z
  obtain ⟨q13, z⟩ := He.ba z
  obtain ⟨q14, z⟩ := He.ba z
  obtain ⟨q15, z⟩ := He.ba z
  obtain ⟨q16, z⟩ := He.ba z
  exact ⟨⟨q15, c.glo X G 27, q16, of_decide_eq_true q3, of_decide_eq_true z⟩, ⟨⟨He.eqO_ok q1, He.eqO_ok q2, of_decide_eq_true q3, q4, He.eqO_ok q5, He.eqO_ok q6, of_decide_eq_true q7, of_decide_eq_true q8⟩, of_decide_eq_true q9, of_decide_eq_true q10, of_decide_eq_true q11, of_decide_eq_true q12, of_decide_eq_true q13, of_decide_eq_true q14, by decide⟩⟩
theorem kb_of (c : FactsZ K) (X : K.In h) (G : h.Ns mainGlobals mg) : KB mg (jK K) := ⟨c.glo X G 24, c.glo X G 25, c.glo X G 26, c.glo X G 27, c.glo X G 28, c.free X G 13⟩
theorem prog_of (c : FactsZ K) (X : K.In h) (G : h.Ns mainGlobals mg) : ProgW K mg := ⟨fn_check_chain c X G, fn_is_chain c X G, fn_is_pair c X G, fn_is_maker c X G, fn_is_row c X G, fn_is_stage c X G, fn_has_chain c X G, fn_is_within c X G, fn_is_number c X G, fn_makers_within c X G, fn_whole c X G, fn_whole_row c X G, fn_row_behind c X G, fn_row_until c X G, fn_row_unlike c X G⟩
theorem start_of (c : FactsZ K) (X : K.In h) (G : h.Ns mainGlobals mg) : StartL K mg := ⟨fn__law_start c X G, fn__law_drawn c X G⟩
theorem rows_of (c : FactsZ K) (X : K.In h) (G : h.Ns mainGlobals mg) : RowsL K mg := ⟨fn__law_row c X G, fn__law_behind c X G, fn__law_often c X G, fn__law_same c X G, fn__law_kind c X G, fn__law_great c X G⟩
theorem law_at {f : Addr} (X : K.In h) (G : h.Ns mainGlobals mg) (hfa : mg ("law" : Str) = some (.ref f)) (c : FactsZ K) (t : TabF K h) : LamX.LawAtS PySem.Challenge.rw_drawchain_k12_whole_rows_at_their_bound w K CX0 56 63 "_law_script" mg f h := by
  obtain ⟨fd, F⟩ := c.def_ 23
  have e := hfa.symm.trans (c.glo X G 23)
  cases e
  have bb := FunD.bindsA (ps := ["_law_script"]) F fun _ _ _ _ _ _ us hl => match us, hl with | [_], _ => rfl
  have hcode : fd.code = .ref (He.cT K ("law", none)).1 := by
    obtain ⟨oc, od, dV, kV, doc, pm, an, cdv, ct, osl, rfl, lk, hcd, _, _⟩ := F.ex
    obtain ⟨cc, rfl⟩ := He.codeIn_ref hcd
    show Value.ref cc = .ref (He.codeOf K ("law", none))
    rw [He.codeOf_eq lk rfl]
  refine ⟨fd, [He.cT K ("law", none)], fun vs H Q E => ∃ ns : List Int, ns.length ≤ 63 ∧ spFz (spLawT K (He.cT K ("law", none)).2 ns) vs H Q E, fun p hp => ?_, fun p hp => ?_, fun p hp => ?_, fun s v => bb s [v] rfl, fun H a ns hl _ hH hS => ⟨ns, hl, ?_⟩, fun base _ _ tb => ?_⟩
  · rw [List.mem_singleton.mp hp]; exact t.empty
  · rw [List.mem_singleton.mp hp]; exact t.out
  · rw [List.mem_singleton.mp hp]; exact PySem.W.codeHd_of_K X t.hd
  · have hP := hH _ List.mem_cons_self
    rcases hS with (hS | ⟨ob, hS⟩) | hS
    · exact .inr ⟨a, _, hS, fun o => ⟨a, rfl, .inl ⟨o, upd_same⟩, updF_ne hS hP (fun z => by cases z), fun _ => rfl⟩⟩
    · exact .inl ⟨a, rfl, .inl ⟨ob, hS⟩, hP, fun _ => rfl⟩
    · exact .inl ⟨a, rfl, .inr fun H' => .inr hS, hP, fun _ => rfl⟩
  · have TB := tb _ List.mem_cons_self
    have FF : ∀ ns : List Int, ns.length ≤ 63 → FnOk theP w K mg base CX0 56 (He.ga K "law") fd ["_law_script"] (spFz (spLawT K (He.cT K ("law", none)).2 ns)) := fun ns hl => fnFrz (law_fn (txt c X G) (prog_of c X G) (nw_of c X G).1 (start_of c X G) (rows_of c X G) (kb_of c X G) (nw_of c X G).2 F hcode TB hl)
    exact ⟨fun vs H Q E ⟨ns, hl, q⟩ => (FF ns hl).len vs H Q E q, fun A outer s H args us vs Q E hr e0 hb rv ⟨ns, hl, q⟩ => (FF ns hl).run A outer s H args us vs Q E hr e0 hb rv q⟩
end
end Dc

set_option Elab.async false
set_option linter.all false
set_option maxRecDepth 100000
set_option maxHeartbeats 0
open PySem PySem.W PySem.Calls PyProof.Rows
theorem PySem.Challenge.cw_drawchain_k12_whole_rows_at_their_bound_holds : PySem.Challenge.rw_drawchain_k12_whole_rows_at_their_bound.Holds := by
  w_on; o_law
  refine HandSHeadRun.head_any (r := OpenLaw.row PySem.Challenge.rw_drawchain_k12_whole_rows_at_their_bound) (q := view (OpenLaw.row PySem.Challenge.rw_drawchain_k12_whole_rows_at_their_bound).prog [37]) (H := Dc.hkZ) (ob := Dc.obZ) (M := 100000) (loose := Dc.looses) (d := HandSHeadRun.topDef (OpenLaw.row PySem.Challenge.rw_drawchain_k12_whole_rows_at_their_bound).prog 37) (kwd := []) Dc.obZ_eq
    (by kernel_rfl) (fun s => by kernel_rfl) Dc.run (by kernel_rfl) (by kernel_rfl) (by kernel_rfl) (by rfl) (by first | assumption | decide +kernel) (by decide +kernel) ⟨rfl, rfl, rfl, rfl, rfl, by decide +kernel⟩ ?hw ?hc
  case hw => w_witness2
  case hc =>
    refine LamX.walk_ofTsE (l := PySem.Challenge.rw_drawchain_k12_whole_rows_at_their_bound) (n := 63) (k := 56) (x := "_law_script") (CX := fun _ => L2.CX0) rfl (by decide) (by kernel_rfl) ⟨rfl, by decide, by decide⟩ ?F (fun _ _ _ _ _ z => z)
    intro w mg fa h Y G hmg0
    obtain ⟨K, KX, c, t⟩ := Y
    have hmg : mg ("law" : PySem.Str) = some (.ref fa) := by
      have e : (HandSHeadRun.topDef (OpenLaw.row PySem.Challenge.rw_drawchain_k12_whole_rows_at_their_bound).prog 37).name = ("law" : PySem.Str) := by kernel_rfl
      rw [← e]
      exact hmg0
    exact ⟨K, KX, Dc.law_at KX G hmg c t⟩
