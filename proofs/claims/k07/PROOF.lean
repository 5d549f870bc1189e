import PyProof.Rows.All
import Wide.All
import OpenK.AllK
import Wide.FinOn
import HandS.ForMost
import HandS.Evl
import HandS.Walk
import HandS.TupAny
import HandS.IsInst
import HandS.Zip
import HandS.Deep
import HandS.SortOrd
import KE.GoesEnum
import HandS.TupSets
import KE.KSortTupAny
import HandS.TupLe
import HandS.TryOnly
import HandS.TryMany
import HandS.ExcOwn
import HandS.ExcCtx
import HandS.WordsExc
import HandS.Style
import HandS.Conv
import HandS.HotCalls
import HandS.SortInts
import HandS.Lambda
import HandS.Defaults
import HandS.Wide
import HandS.WideBits
import KE.SortData
import KE.DataCmp
import HandS.Gcd
import KE.KMathGC
import HandS.SetFor
import HandS.Strs
import HandS.Property
import HandS.Codes
import HandS.ExcInit
import HandS.ExcField
import HandS.ExcIs
import KE.KExcIs
import KE.GoesEnumKw
import HandS.Iter
import HandS.Text
import HandS.FStr
import HandS.ReplaceList
import PyProof.StrLawsTight
import HandS.Replace
import HandS.ReplaceLit
import PyProof.StrReplace2
import PySem.Challenge.RW_fourtowns_k07_whole_texts
/-! part: FtA -/
set_option Elab.async false
set_option linter.all false
set_option maxRecDepth 100000
/-! Readings over data: the heap taken away. Slots hold data, a list of the def's own, or the row of draws. -/
namespace Ft
open PySem L2
abbrev Frg := PySem.W.Frag
abbrev Da := PyData
abbrev Ex := @Evl.Ex

/-! ### data in a heap -/
mutual
inductive Dq (K : Frg) (H : Hp) : V → PyData → Prop
  | non : Dq K H .non .none
  | bl (b : Bool) : Dq K H (.bl b) (.bool b)
  | int (i : Int) : Dq K H (.int i) (.int i)
  | str (x : Str) : Dq K H (.str x) (.str x)
  | lst {a : Addr} {zs : List V} {es : List PyData} (h : H a = some (.lst zs)) (r : DqAll K H zs es) : Dq K H (.ref a) (.list es)
  | tup {a : Addr} {zs : List V} {es : List PyData} (h : SqT K H a zs) (r : DqAll K H zs es) : Dq K H (.ref a) (.tuple es)
  | dct {a : Addr} (h : H a = some (.dK [])) : Dq K H (.ref a) (.dict [])
inductive DqAll (K : Frg) (H : Hp) : List V → List PyData → Prop
  | nil : DqAll K H [] []
  | cons {z : V} {zs : List V} {e : PyData} {es : List PyData} (h : Dq K H z e) (r : DqAll K H zs es) : DqAll K H (z :: zs) (e :: es)
end
mutual
theorem Dq.dp {K : Frg} {H : Hp} : ∀ {v : V} (d : Da), Dq K H v d → d.canLay0 = true → Dp K H v d
  | _, .none, h, _ => by cases h; exact .non
  | _, .bool b, h, _ => by cases h; exact .bl b
  | _, .int i, h, _ => by cases h; exact .int i
  | _, .str x, h, _ => by cases h; exact .str x
  | _, .list ds, h, c => by cases h with | lst s a => exact .lst (SqL.of s) (DqAll.dp ds a (by simpa only [PyData.canLay0] using c))
  | _, .tuple ds, h, c => by cases h with | tup s a => exact .tup s (DqAll.dp ds a (by simpa only [PyData.canLay0] using c))
  | _, .dict _, h, c => by simp [PyData.canLay0] at c
theorem DqAll.dp {K : Frg} {H : Hp} : ∀ {vs : List V} (ds : List Da), DqAll K H vs ds → PyData.canLayAll0 ds = true → DpAll K H vs ds
  | _, [], h, _ => by cases h; exact .nil
  | _, d :: ds, h, c => by
    simp only [PyData.canLayAll0, Bool.and_eq_true] at c
    cases h with | cons a b => exact .cons (Dq.dp d a c.1) (DqAll.dp ds b c.2)
end
mutual
theorem dp_ex {K : Frg} {H H' : Hp} (e : Ex H H') : ∀ {v : V} (d : Da), Dq K H v d → Dq K H' v d
  | _, .none, h => by cases h; exact .non
  | _, .bool b, h => by cases h; exact .bl b
  | _, .int i, h => by cases h; exact .int i
  | _, .str x, h => by cases h; exact .str x
  | _, .list ds, h => by cases h with | lst s a => exact .lst (e _ _ s) (dps_ex e ds a)
  | _, .tuple ds, h => by cases h with | tup s a => exact .tup (Evl.ex_t e s) (dps_ex e ds a)
  | _, .dict _, h => by cases h with | dct s => exact .dct (e _ _ s)
theorem dps_ex {K : Frg} {H H' : Hp} (e : Ex H H') : ∀ {vs : List V} (ds : List Da), DqAll K H vs ds → DqAll K H' vs ds
  | _, [], h => by cases h; exact .nil
  | _, d :: ds, h => by cases h with | cons a b => exact .cons (dp_ex e d a) (dps_ex e ds b)
end
theorem dps_len {K : Frg} {H : Hp} : ∀ {vs : List V} {ds : List Da}, DqAll K H vs ds → vs.length = ds.length
  | _, [], h => by cases h; rfl
  | _, d :: ds, h => by cases h with | cons a b => exact congrArg (· + 1) (dps_len b)
theorem dps_get {K : Frg} {H : Hp} : ∀ {vs : List V} {ds : List Da} {i : Nat} {d : Da}, DqAll K H vs ds → ds[i]? = some d → ∃ v, vs[i]? = some v ∧ Dq K H v d
  | _, [], i, d, h, e => by simp at e
  | _, x :: ds, 0, d, h, e => by
    cases h with
    | cons a b =>
      have e' : x = d := Option.some.inj e
      subst e'
      exact ⟨_, rfl, a⟩
  | _, x :: ds, i + 1, d, h, e => by
    cases h with
    | cons a b =>
      obtain ⟨v, e1, q⟩ := dps_get b (i := i) (d := d) (by simpa using e)
      exact ⟨v, by simpa using e1, q⟩
theorem dps_app {K : Frg} {H : Hp} : ∀ {vs us : List V} {ds es : List Da}, DqAll K H vs ds → DqAll K H us es → DqAll K H (vs ++ us) (ds ++ es)
  | _, _, [], _, h, k => by cases h; exact k
  | _, _, d :: ds, _, h, k => by cases h with | cons a b => exact .cons a (dps_app b k)
theorem dps_one {K : Frg} {H : Hp} {v : V} {d : Da} (h : Dq K H v d) : DqAll K H [v] [d] := .cons h .nil
theorem dps_set {K : Frg} {H : Hp} {v : V} {d : Da} (q : Dq K H v d) : ∀ {vs : List V} {ds : List Da} (i : Nat), DqAll K H vs ds → DqAll K H (vs.set i v) (ds.set i d)
  | _, [], _, h => by cases h; exact .nil
  | _, x :: ds, 0, h => by cases h with | cons a b => exact .cons q b
  | _, x :: ds, i + 1, h => by cases h with | cons a b => exact .cons a (dps_set q i b)
theorem dps_drop {K : Frg} {H : Hp} : ∀ {vs : List V} {ds : List Da} (i : Nat), DqAll K H vs ds → DqAll K H (vs.drop i) (ds.drop i)
  | _, _, 0, h => h
  | _, [], i + 1, h => by cases h; exact .nil
  | _, x :: ds, i + 1, h => by cases h with | cons a b => exact dps_drop i b
theorem dps_take {K : Frg} {H : Hp} : ∀ {vs : List V} {ds : List Da} (i : Nat), DqAll K H vs ds → DqAll K H (vs.take i) (ds.take i)
  | _, _, 0, h => .nil
  | _, [], i + 1, h => by cases h; exact .nil
  | _, x :: ds, i + 1, h => by cases h with | cons a b => exact .cons a (dps_take i b)
theorem dps_rep {K : Frg} {H : Hp} {v : V} {d : Da} (q : Dq K H v d) : ∀ n : Nat, DqAll K H (List.replicate n v) (List.replicate n d)
  | 0 => .nil
  | n + 1 => .cons q (dps_rep q n)
theorem dps_cut {K : Frg} {H : Hp} {vs : List V} {ds : List Da} (h : DqAll K H vs ds) (i : Option Int) (j : Option Int) :
    DqAll K H (cutV vs i j) ((ds.drop (HT.sIx ds.length 0 i)).take (HT.sIx ds.length ds.length j - HT.sIx ds.length 0 i)) := by
  unfold cutV
  rw [dps_len h]
  exact dps_take _ (dps_drop _ h)

/-! ### slots -/
inductive Cell where
  | un | dat (d : Da) | own (ds : List Da) | row | hal (mine : Bool) (C : Addr × Addr) (fs : List (Str × Da))
def Cell.mut : Cell → Prop
  | .own _ => True
  | .row => True
  | .hal _ _ _ => True
  | _ => False
/-- nothing is known, or some datum -/
def jk : Option Da → Cell
  | none => .un
  | some d => .dat d
abbrev Rho := List Cell

def RowAt (K : Frg) (H H1 : Hp) (r : Addr) : Prop :=
  H r = none ∧ ∃ (s : Addr) (a b c : Int) (ns : List Int), H1 r = some (.lst [.ref s, .int a, .int b, .int c]) ∧ 0 ≤ a ∧ SqL K H s (ns.map V.int) ∧ ns.length ≤ 63

/-- an instance's attributes are these data -/
def FsAt (K : Frg) (H : Hp) (xs : List (Str × V)) (fs : List (Str × Da)) : Prop := xs.map (·.1) = fs.map (·.1) ∧ DqAll K H (xs.map (·.2)) (fs.map (·.2))
/-- an instance (its address, its class), unknown to H -/
def HalAt (K : Frg) (H H1 : Hp) (C : Addr × Addr) (l : Addr) (fs : List (Str × Da)) : Prop := l = C.1 ∧ H l = none ∧ ∃ dx xs, H dx = none ∧ H1 l = some (.ins C.2 dx xs) ∧ H1 dx = some (.own l) ∧ FsAt K H xs fs
theorem FsAt.ex {K : Frg} {H H' : Hp} {xs : List (Str × V)} {fs : List (Str × Da)} (x : FsAt K H xs fs) (e : Ex H H') : FsAt K H' xs fs := ⟨x.1, dps_ex e _ x.2⟩
theorem HalAt.keep {K : Frg} {H H' H1 H2 : Hp} {C : Addr × Addr} {l : Addr} {fs : List (Str × Da)} (x : HalAt K H H1 C l fs) (e : Ex H H') (d : ∀ a o, H1 a = some o → H a = none → (∀ ys, o ≠ .lst ys) → H' a = none) (c : ∀ a o, (∀ ys, o ≠ .lst ys) → (∀ ps, o ≠ .tbl ps) → H1 a = some o → H2 a = some o) : HalAt K H' H2 C l fs := by
  obtain ⟨el, n, dx, xs, n2, h1, h2, f⟩ := x
  exact ⟨el, d _ _ h1 n (fun ys z => by cases z), dx, xs, d _ _ h2 n2 (fun ys z => by cases z), c _ _ (fun ys z => by cases z) (fun ys z => by cases z) h1, c _ _ (fun ys z => by cases z) (fun ys z => by cases z) h2, f.ex e⟩

structure Has (K : Frg) (H H1 : Hp) (σ : L2.St) (ρ : Rho) : Prop where
  len : σ.length = ρ.length
  dat : ∀ (i : Nat) (d : Da), ρ[i]? = some (.dat d) → ∃ v, σ[i]? = some (some v) ∧ Dq K H v d
  own : ∀ (i : Nat) (ds : List Da), ρ[i]? = some (.own ds) → ∃ l xs, σ[i]? = some (some (V.ref l)) ∧ H l = none ∧ H1 l = some (.lst xs) ∧ DqAll K H xs ds
  row : ∀ (i : Nat), ρ[i]? = some .row → ∃ r, σ[i]? = some (some (V.ref r)) ∧ RowAt K H H1 r
  dis : ∀ (i j : Nat) (c c' : Cell) (l : Addr), i ≠ j → ρ[i]? = some c → ρ[j]? = some c' → c.mut → c'.mut → σ[i]? = some (some (V.ref l)) → σ[j]? = some (some (V.ref l)) → False
  hal : ∀ (i : Nat) (m : Bool) (C : Addr × Addr) (fs : List (Str × Da)), ρ[i]? = some (.hal m C fs) → ∃ l, σ[i]? = some (some (V.ref l)) ∧ HalAt K H H1 C l fs
def Rows (σ : L2.St) (ρ : Rho) (a : Addr) : Prop := ∃ i : Nat, ρ[i]? = some .row ∧ σ[i]? = some (some (V.ref a))
theorem Has.rowAt {K : Frg} {H H1 : Hp} {σ : L2.St} {ρ : Rho} (h : Has K H H1 σ ρ) {a : Addr} (r : Rows σ ρ a) : RowAt K H H1 a := by
  obtain ⟨i, e, q⟩ := r
  obtain ⟨b, q', x⟩ := h.row i e
  rw [q] at q'
  cases q'
  exact x

/-- known H in H1 has become known H' in H2; what R says may have changed -/
structure Gr (K : Frg) (R : Addr → Prop) (H H1 H' H2 : Hp) : Prop where
  a : Ex H H'
  b : Ex H' H2
  c : ∀ x o, ¬ R x → H1 x = some o → H2 x = some o
  d : ∀ x o, H1 x = some o → H x = none → H' x = none
  e : ∀ x, R x → RowAt K H' H2 x
abbrev GrN (K : Frg) : Hp → Hp → Hp → Hp → Prop := Gr K fun _ => False
section
variable {K : Frg} {R R' : Addr → Prop} {H H1 H' H2 H'' H3 : Hp} {σ : L2.St} {ρ : Rho}
theorem RowAt.keep {r : Addr} (x : RowAt K H H1 r) (a : Ex H H') (n : H' r = none) (k : ∀ o, H1 r = some o → H2 r = some o) : RowAt K H' H2 r := by
  obtain ⟨_, s, p, q, c, ns, e, f, g, l⟩ := x
  exact ⟨n, s, p, q, c, ns, k _ e, f, Evl.ex_l a g, l⟩
theorem Gr.refl (e : Ex H H1) (h : ∀ x, R x → RowAt K H H1 x) : Gr K R H H1 H H1 := ⟨Evl.Ex.refl H, e, fun _ _ _ q => q, fun _ _ _ q => q, h⟩
theorem Gr.trans (p : Gr K R H H1 H' H2) (q : Gr K R H' H2 H'' H3) : Gr K R H H1 H'' H3 where
  a := p.a.trans q.a
  b := q.b
  c := fun x o n e => q.c x o n (p.c x o n e)
  d := fun x o e n => by
    have n' := p.d x o e n
    by_cases r : R x
    · obtain ⟨_, s, u, v, w, ns, e', _⟩ := p.e x r
      exact q.d x _ e' n'
    · exact q.d x o (p.c x o r e) n'
  e := q.e
/-- fewer things may have changed -/
theorem Gr.up (p : Gr K R H H1 H' H2) (s : ∀ x, R x → R' x) (h : ∀ x, R' x → RowAt K H H1 x) : Gr K R' H H1 H' H2 where
  a := p.a
  b := p.b
  c := fun x o n e => p.c x o (fun r => n (s x r)) e
  d := p.d
  e := fun x r => by
    by_cases q : R x
    · exact p.e x q
    · have y := h x r
      obtain ⟨n, _, _, _, _, _, e, _⟩ := id y
      exact y.keep p.a (p.d x _ e n) fun o z => p.c x o q z
theorem GrN.up (p : GrN K H H1 H' H2) (h : ∀ x, R x → RowAt K H H1 x) : Gr K R H H1 H' H2 := Gr.up p (fun _ z => z.elim) h
theorem GrN.new {p : Addr} {o : HO} (e : Ex H H1) (n : H1 p = none) : GrN K H H1 (upd H p o) (upd H1 p o) where
  a := Evl.Ex.new (Evl.fresh_back e n)
  b := fun x u q => by
    by_cases z : x = p
    · subst z
      rw [upd_same] at q ⊢
      exact q
    · rw [upd_ne z] at q ⊢
      exact e x u q
  c := fun x u _ q => by rw [upd_ne (ne_of_none q n)]; exact q
  d := fun x u q m => by rw [upd_ne (ne_of_none q n)]; exact m
  e := fun _ z => z.elim
theorem GrN.mk' (e : Ex H H1) (f : Ex H1 H2) : GrN K H H1 H H2 := ⟨Evl.Ex.refl H, e.trans f, fun x o _ q => f x o q, fun _ _ _ q => q, fun _ z => z.elim⟩
theorem Has.gr (h : Has K H H1 σ ρ) (g : Gr K (Rows σ ρ) H H1 H' H2) : Has K H' H2 σ ρ where
  len := h.len
  dat := fun i d e => let ⟨v, q, x⟩ := h.dat i d e; ⟨v, q, dp_ex g.a d x⟩
  own := fun i ds e => by
    obtain ⟨l, xs, q, n, f, x⟩ := h.own i ds e
    refine ⟨l, xs, q, g.d l _ f n, g.c l _ ?_ f, dps_ex g.a ds x⟩
    rintro ⟨j, e', q'⟩
    by_cases z : i = j
    · subst z
      rw [e] at e'
      cases e'
    · exact h.dis i j _ _ l z e e' True.intro True.intro q q'
  row := fun i e => let ⟨r, q, _⟩ := h.row i e; ⟨r, q, g.e r ⟨i, e, q⟩⟩
  dis := h.dis
  hal := fun i m C fs e => by
    obtain ⟨l, q, x⟩ := h.hal i m C fs e
    refine ⟨l, q, x.keep g.a (fun a o h1 n _ => g.d a o h1 n) fun a o nl _ h1 => g.c a o (fun r => ?_) h1⟩
    obtain ⟨_, _, _, _, _, _, y, _⟩ := h.rowAt r
    rw [y] at h1
    exact nl _ (Option.some.inj h1).symm
end

/-! ### readings -/
/-- an expression gives a datum of P; a test; arguments; a new list of one's own -/
def AE (K : Frg) (te : TE) (ρ : Rho) (P : Da → Prop) : Prop := ∀ σ H H1, Has K H H1 σ ρ → Ex H H1 → ∀ Q : VK, (∀ d, P d → ∀ v H' H2, Gr K (Rows σ ρ) H H1 H' H2 → Dq K H' v d → Q v H2) → te σ H1 Q
def AB (K : Frg) (tt : TT) (ρ : Rho) (P : Bool → Prop) : Prop := ∀ σ H H1, Has K H H1 σ ρ → Ex H H1 → ∀ Q : Bool → Hp → Prop, (∀ b, P b → ∀ H' H2, Gr K (Rows σ ρ) H H1 H' H2 → Q b H2) → tt σ H1 Q
def AA (K : Frg) (ta : TA) (ρ : Rho) (P : List Da → Prop) : Prop := ∀ σ H H1, Has K H H1 σ ρ → Ex H H1 → ∀ Q : List V → Hp → Prop, (∀ ds, P ds → ∀ vs H' H2, Gr K (Rows σ ρ) H H1 H' H2 → DqAll K H' vs ds → Q vs H2) → ta σ H1 Q
def AF (K : Frg) (te : TE) (ρ : Rho) (P : List Da → Prop) : Prop := ∀ σ H H1, Has K H H1 σ ρ → Ex H H1 → ∀ Q : VK, (∀ ds, P ds → ∀ p xs H' H2, Gr K (Rows σ ρ) H H1 H' H2 → H1 p = none → H' p = none → H2 p = some (.lst xs) → DqAll K H' xs ds → Q (V.ref p) H2) → te σ H1 Q
/-- an operation on two values, on one; a call on values -/
def RR (K : Frg) (r : R2) (x y : Da) (P : Da → Prop) : Prop := ∀ H H1 v u, Ex H H1 → Dq K H v x → Dq K H u y → ∀ Q : VK, (∀ d, P d → ∀ z H' H2, GrN K H H1 H' H2 → Dq K H' z d → Q z H2) → r v u H1 Q
def RU (K : Frg) (r : V → Hp → VK → Prop) (x : Da) (P : Da → Prop) : Prop := ∀ H H1 v, Ex H H1 → Dq K H v x → ∀ Q : VK, (∀ d, P d → ∀ z H' H2, GrN K H H1 H' H2 → Dq K H' z d → Q z H2) → r v H1 Q
def RC (K : Frg) (r : List V → Hp → VK → Prop) (xs : List Da) (P : Da → Prop) : Prop := ∀ H H1 vs, Ex H H1 → DqAll K H vs xs → ∀ Q : VK, (∀ d, P d → ∀ z H' H2, GrN K H H1 H' H2 → Dq K H' z d → Q z H2) → r vs H1 Q
def RF (K : Frg) (r : List V → Hp → VK → Prop) (xs : List Da) (P : List Da → Prop) : Prop := ∀ H H1 vs, Ex H H1 → DqAll K H vs xs → ∀ Q : VK, (∀ ds, P ds → ∀ p zs H' H2, GrN K H H1 H' H2 → H1 p = none → H' p = none → H2 p = some (.lst zs) → DqAll K H' zs ds → Q (V.ref p) H2) → r vs H1 Q

section
variable {K : Frg} {ρ : Rho} {ta tb te : TE} {P : Da → Prop} {r : R2}
theorem AE.imp {P' : Da → Prop} (h : AE K te ρ P) (i : ∀ d, P d → P' d) : AE K te ρ P' := fun σ H H1 s e Q q => h σ H H1 s e Q fun d p => q d (i d p)
theorem AB.imp {tt : TT} {P P' : Bool → Prop} (h : AB K tt ρ P) (i : ∀ d, P d → P' d) : AB K tt ρ P' := fun σ H H1 s e Q q => h σ H H1 s e Q fun d p => q d (i d p)
theorem AA.imp {tt : TA} {P P' : List Da → Prop} (h : AA K tt ρ P) (i : ∀ d, P d → P' d) : AA K tt ρ P' := fun σ H H1 s e Q q => h σ H H1 s e Q fun d p => q d (i d p)
theorem AF.imp {P P' : List Da → Prop} (h : AF K te ρ P) (i : ∀ d, P d → P' d) : AF K te ρ P' := fun σ H H1 s e Q q => h σ H H1 s e Q fun d p => q d (i d p)
/-- a new list, left as it is from now on -/
theorem af_ae {P : Da → Prop} (h : AF K te ρ fun ds => P (.list ds)) : AE K te ρ P := fun σ H H1 s e Q q =>
  h σ H H1 s e Q fun ds p l xs H' H2 g n n' hl hx => by
    refine q _ p (V.ref l) (upd H' l (.lst xs)) H2 ⟨g.a.trans (Evl.Ex.new n'), fun x o z => ?_, g.c, fun x o z m => ?_, fun x rx => ?_⟩ (.lst upd_same (dps_ex (Evl.Ex.new n') ds hx))
    · by_cases w : x = l
      · subst w
        rw [upd_same] at z
        exact hl.trans z
      · rw [upd_ne w] at z
        exact g.b x o z
    · rw [upd_ne (ne_of_none z n)]
      exact g.d x o z m
    · have w := g.e x rx
      have y := (s.rowAt rx)
      obtain ⟨_, _, _, _, _, _, y1, _⟩ := y
      refine w.keep (Evl.Ex.new n') ?_ fun _ z => z
      rw [upd_ne (ne_of_none y1 n)]
      exact w.1
theorem ae_var {i : Nat} {d : Da} (h : ρ[i]? = some (.dat d)) (p : P d) : AE K (tVar i) ρ P := fun σ H H1 s e Q q => by
  obtain ⟨v, e1, x⟩ := s.dat i d h
  exact ⟨v, e1, q d p v H H1 (Gr.refl e fun _ => s.rowAt) x⟩
theorem ae_c {v : V} {d : Da} (h : ∀ H, Dq K H v d) (p : P d) : AE K (tC v) ρ P := fun σ H H1 s e Q q => q d p v H H1 (Gr.refl e fun _ => s.rowAt) (h H)
theorem ae_int {i : Int} (p : P (.int i)) : AE K (tC (.int i)) ρ P := ae_c (fun _ => .int i) p
theorem ae_str {i : Str} (p : P (.str i)) : AE K (tC (.str i)) ρ P := ae_c (fun _ => .str i) p
theorem ae_bl {i : Bool} (p : P (.bool i)) : AE K (tC (.bl i)) ρ P := ae_c (fun _ => .bl i) p
theorem ae_non (p : P .none) : AE K (tC .non) ρ P := ae_c (fun _ => .non) p
theorem ae_op (h : AE K ta ρ fun x => AE K tb ρ fun y => RR K r x y P) : AE K (tOp r ta tb) ρ P := fun σ H H1 s e Q q =>
  h σ H H1 s e _ fun x hx v H' H2 g dx => hx σ H' H2 (s.gr g) g.b _ fun y hy u H'' H3 g2 dy =>
    hy H'' H3 v u g2.b (dp_ex g2.a x dx) dy _ fun d p z H4 H5 g3 dz => q d p z H4 H5 ((g.trans g2).trans (GrN.up g3 fun a ra => ((s.gr g).gr g2).rowAt ra)) dz
theorem ae_un {r : V → Hp → VK → Prop} (h : AE K ta ρ fun x => RU K r x P) : AE K (tUn r ta) ρ P := fun σ H H1 s e Q q =>
  h σ H H1 s e _ fun x hx v H' H2 g dx => hx H' H2 v g.b dx _ fun d p z H4 H5 g3 dz => q d p z H4 H5 (g.trans (GrN.up g3 fun a ra => (s.gr g).rowAt ra)) dz
theorem aa_nil {P : List Da → Prop} (p : P []) : AA K tNil ρ P := fun σ H H1 s e Q q => q [] p [] H H1 (Gr.refl e fun _ => s.rowAt) .nil
theorem aa_cons {P : List Da → Prop} {t : TA} (h : AE K ta ρ fun x => AA K t ρ fun xs => P (x :: xs)) : AA K (tCons ta t) ρ P := fun σ H H1 s e Q q =>
  h σ H H1 s e _ fun x hx v H' H2 g dx => hx σ H' H2 (s.gr g) g.b _ fun xs p vs H'' H3 g2 dy => q _ p _ H'' H3 (g.trans g2) (.cons (dp_ex g2.a x dx) dy)
theorem ae_tup {t : TA} (h : AA K t ρ fun ds => ds.length ≤ sizeLine ∧ P (.tuple ds)) : AE K (tTup t) ρ P := fun σ H H1 s e Q q =>
  h σ H H1 s e _ fun ds p vs H' H2 g dx => ⟨by rw [dps_len dx]; exact p.1, fun a n => by
    have g3 : GrN K H' H2 (upd H' a (.tup vs)) (upd H2 a (.tup vs)) := GrN.new g.b n
    exact q _ p.2 _ _ _ (g.trans (GrN.up g3 fun b rb => (s.gr g).rowAt rb)) (.tup (SqT.of upd_same) (dps_ex g3.a ds dx))⟩
theorem af_lst {t : TA} {P : List Da → Prop} (h : AA K t ρ fun ds => ds.length ≤ sizeLine ∧ P ds) : AF K (tLst t) ρ P := fun σ H H1 s e Q q =>
  h σ H H1 s e _ fun ds p vs H' H2 g dx => ⟨by rw [dps_len dx]; exact p.1, fun a n => by
    have n1 : H1 a = none := by
      cases z : H1 a with
      | none => rfl
      | some o =>
        by_cases w : Rows σ ρ a
        · obtain ⟨_, _, _, _, _, _, y, _⟩ := g.e a w
          rw [n] at y
          cases y
        · rw [g.c a o w z] at n
          cases n
    have n' : H' a = none := Evl.fresh_back g.b n
    have f : Ex H2 (upd H2 a (.lst vs)) := Evl.Ex.new n
    exact q ds p.2 a vs H' _ (g.trans (GrN.up (GrN.mk' g.b f) fun b rb => (s.gr g).rowAt rb)) n1 n' upd_same dx⟩
/-- a call of a built-in -/
theorem ae_cb {t : TA} {r : List V → Hp → VK → Prop} (h : AA K t ρ fun xs => RC K r xs P) : AE K (tCB r t) ρ P := fun σ H H1 s e Q q =>
  h σ H H1 s e _ fun x hx v H' H2 g dx => hx H' H2 v g.b dx _ fun d p z H4 H5 g3 dz => q d p z H4 H5 (g.trans (GrN.up g3 fun a ra => (s.gr g).rowAt ra)) dz
theorem Gr.old {R : Addr → Prop} {H H1 H' H2 : Hp} (g : Gr K R H H1 H' H2) {a : Addr} (n : H2 a = none) : H1 a = none := by
  cases z : H1 a with
  | none => rfl
  | some o =>
    by_cases w : R a
    · obtain ⟨_, _, _, _, _, _, y, _⟩ := g.e a w
      rw [n] at y
      cases y
    · rw [g.c a o w z] at n
      cases n
theorem af_cb {t : TA} {r : List V → Hp → VK → Prop} {P : List Da → Prop} (h : AA K t ρ fun xs => RF K r xs P) : AF K (tCB r t) ρ P := fun σ H H1 s e Q q =>
  h σ H H1 s e _ fun x hx v H' H2 g dx => hx H' H2 v g.b dx _ fun d p z zs H4 H5 g3 n n' hz dz => q d p z zs H4 H5 (g.trans (GrN.up g3 fun a ra => (s.gr g).rowAt ra)) (g.old n) n' hz dz
theorem rf_rc {r : List V → Hp → VK → Prop} {xs : List Da} (h : RF K r xs fun ds => P (.list ds)) : RC K r xs P := fun H H1 vs e dx Q q =>
  h H H1 vs e dx Q fun ds p l zs H' H2 g n n' hl hz => by
    refine q _ p (V.ref l) (upd H' l (.lst zs)) H2 ⟨g.a.trans (Evl.Ex.new n'), fun x o z => ?_, g.c, fun x o z m => ?_, fun x rx => rx.elim⟩ (.lst upd_same (dps_ex (Evl.Ex.new n') ds hz))
    · by_cases w : x = l
      · subst w
        rw [upd_same] at z
        exact hl.trans z
      · rw [upd_ne w] at z
        exact g.b x o z
    · rw [upd_ne (ne_of_none z n)]
      exact g.d x o z m
end

/-! ### what a def promises over data -/
abbrev WP := List Da → (Da → Prop) → Prop
def spW (K : Frg) (W : WP) : Sp := fun vs H1 Q _ => ∃ ds P H, Ex H H1 ∧ DqAll K H vs ds ∧ W ds P ∧ ∀ d, P d → ∀ v H' H2, GrN K H H1 H' H2 → Dq K H' v d → Q v H2
/-- its first argument the row -/
def spR (K : Frg) (W : WP) : Sp := fun vs H1 Q _ => ∃ r us ds P H, vs = V.ref r :: us ∧ Ex H H1 ∧ RowAt K H H1 r ∧ DqAll K H us ds ∧ W ds P ∧ ∀ d, P d → ∀ v H' H2, Gr K (fun a => a = r) H H1 H' H2 → Dq K H' v d → Q v H2
section
variable {K : Frg} {ρ : Rho} {P : Da → Prop} {W : WP} {E : XK} {t : TA}
theorem ae_call (h : AA K t ρ fun ds => W ds P) : AE K (tCall (spW K W) [] E t) ρ P := fun σ H H1 s e Q q =>
  h σ H H1 s e _ fun ds w vs H' H2 g dx => ⟨ds, P, H', g.b, by rw [List.append_nil]; exact dx, w, fun d p v H4 H5 g3 dz => q d p v H4 H5 (g.trans (GrN.up g3 fun a ra => (s.gr g).rowAt ra)) dz⟩
theorem ae_callR {i : Nat} (hi : ρ[i]? = some .row) (h : AA K t ρ fun ds => W ds P) : AE K (tCall (spR K W) [] E (tCons (tVar i) t)) ρ P := fun σ H H1 s e Q q => by
  obtain ⟨r, er, xr⟩ := s.row i hi
  refine ⟨V.ref r, er, h σ H H1 s e _ fun ds w vs H' H2 g dx => ?_⟩
  have ir : Rows σ ρ r := ⟨i, hi, er⟩
  refine ⟨r, vs, ds, P, H', by simp, g.b, g.e r ir, dx, w, fun d p v H4 H5 g3 dz => q d p v H4 H5 (g.trans (Gr.up g3 (fun x z => by rw [z]; exact ir) fun a ra => (s.gr g).rowAt ra)) dz⟩
end
end Ft

/-! part: FtB -/
set_option Elab.async false
set_option linter.all false
set_option maxRecDepth 100000
namespace Ft
open PySem L2

/-! ### iterables, targets -/
def Yld (K : Frg) (J : It) (H' : Hp) (ds : List Da) : Prop := ∀ (i : Nat) (Hk H3 : Hp), Ex H' Hk → Ex Hk H3 →
  (∀ d, ds[i]? = some d → J.go i H3 ∧ ∀ x H4, J.yld i H3 x H4 → ∃ Hk', GrN K Hk H3 Hk' H4 ∧ Dq K Hk' x d) ∧ (i = ds.length → J.stop i H3)
def AI (K : Frg) (wi : TI) (ρ : Rho) (P : List Da → Prop) : Prop := ∀ σ H H1, Has K H H1 σ ρ → Ex H H1 → ∀ R : It → Hp → Prop, (∀ ds, P ds → ∀ J H' H2, Gr K (Rows σ ρ) H H1 H' H2 → Yld K J H' ds → R J H2) → wi σ H1 R
structure AT (K : Frg) (g : TG) (is : List Nat) (ρ : Rho) (d : Da) (ρ' : Rho) : Prop where
  len : ρ'.length = ρ.length
  out : ∀ (j : Nat), j ∉ is → ρ'[j]? = ρ[j]?
  imm : ∀ (j : Nat), j ∈ is → ∀ c, ρ'[j]? = some c → ¬ c.mut
  nrow : ∀ (j : Nat), j ∈ is → ρ[j]? ≠ some .row
  run : ∀ σ H H1 v Q, Has K H H1 σ ρ → Ex H H1 → Dq K H v d → (∀ σ', Has K H H1 σ' ρ' → (∀ (j : Nat), j ∉ is → σ'[j]? = σ[j]?) → Q σ' H1) → g v σ H1 Q
structure ATs (K : Frg) (g : TGs) (is : List Nat) (ρ : Rho) (ds : List Da) (ρ' : Rho) : Prop where
  len : ρ'.length = ρ.length
  out : ∀ (j : Nat), j ∉ is → ρ'[j]? = ρ[j]?
  imm : ∀ (j : Nat), j ∈ is → ∀ c, ρ'[j]? = some c → ¬ c.mut
  nrow : ∀ (j : Nat), j ∈ is → ρ[j]? ≠ some .row
  run : ∀ σ H H1 vs Q, Has K H H1 σ ρ → Ex H H1 → DqAll K H vs ds → (∀ σ', Has K H H1 σ' ρ' → (∀ (j : Nat), j ∉ is → σ'[j]? = σ[j]?) → Q σ' H1) → g vs σ H1 Q
theorem not_row_mut {c : Cell} (h : ¬ c.mut) : c ≠ .row := fun e => by subst e; exact h True.intro
section
variable {K : Frg} {ρ ρ' ρ1 : Rho}
theorem set_get {α : Type} {l : List α} {i j : Nat} {x y : α} (h : (l.set i x)[j]? = some y) : (j = i ∧ y = x ∧ i < l.length) ∨ (j ≠ i ∧ l[j]? = some y) := by
  by_cases z : i = j
  · subst z
    by_cases w : i < l.length
    · rw [List.getElem?_set_self w] at h
      exact .inl ⟨rfl, (Option.some.inj h).symm, w⟩
    · rw [List.getElem?_eq_none (by rw [List.length_set]; omega)] at h
      cases h
  · rw [List.getElem?_set_ne z] at h
    exact .inr ⟨fun e => z e.symm, h⟩
/-- a slot takes a value -/
theorem Has.put {H H1 : Hp} {σ : L2.St} (h : Has K H H1 σ ρ) {i : Nat} {v : V} {c : Cell} (hc : ∀ d, c = .dat d → Dq K H v d) (nm : ¬ c.mut) : Has K H H1 (σ.set i (some v)) (ρ.set i c) where
  len := by rw [List.length_set, List.length_set, h.len]
  dat := fun j d e => by
    rcases set_get e with ⟨rfl, y, w⟩ | ⟨n, y⟩
    · exact ⟨v, List.getElem?_set_self (by rw [h.len]; exact w), hc d y.symm⟩
    · rw [List.getElem?_set_ne fun z => n z.symm]
      exact h.dat j d y
  own := fun j ds e => by
    rcases set_get e with ⟨rfl, y, w⟩ | ⟨n, y⟩
    · subst y
      exact absurd True.intro nm
    · rw [List.getElem?_set_ne fun z => n z.symm]
      exact h.own j ds y
  row := fun j e => by
    rcases set_get e with ⟨rfl, y, w⟩ | ⟨n, y⟩
    · subst y
      exact absurd True.intro nm
    · rw [List.getElem?_set_ne fun z => n z.symm]
      exact h.row j y
  dis := fun a b c' c'' l ne ea eb ma mb sa sb => by
    rcases set_get ea with ⟨rfl, y, w⟩ | ⟨n, y⟩
    · subst y
      exact nm ma
    · rcases set_get eb with ⟨rfl, y', w⟩ | ⟨n', y'⟩
      · subst y'
        exact nm mb
      · rw [List.getElem?_set_ne fun z => n z.symm] at sa
        rw [List.getElem?_set_ne fun z => n' z.symm] at sb
        exact h.dis a b c' c'' l ne y y' ma mb sa sb
  hal := fun j m C fs e => by
    rcases set_get e with ⟨rfl, y, w⟩ | ⟨n, y⟩
    · subst y
      exact absurd True.intro nm
    · rw [List.getElem?_set_ne fun z => n z.symm]
      exact h.hal j m C fs y
theorem at_name {i : Nat} {d : Da} (nr : ρ[i]? ≠ some .row) : AT K (gName i) [i] ρ d (ρ.set i (.dat d)) where
  len := List.length_set
  out := fun j hj => List.getElem?_set_ne (fun e : i = j => hj (by simp [e]))
  imm := fun j hj c e => by
    have ej : j = i := by simpa using hj
    subst ej
    rcases set_get e with ⟨_, y, w⟩ | ⟨n, y⟩
    · subst y
      exact fun z => z
    · exact absurd rfl n
  nrow := fun j hj => by
    have ej : j = i := by simpa using hj
    subst ej
    exact nr
  run := fun σ H H1 v Q h e x q => q _ (h.put (c := .dat d) (fun d' e' => by cases e'; exact x) (fun z => z)) fun j hj => List.getElem?_set_ne (fun e : i = j => hj (by simp [e]))
theorem ats_nil : ATs K gNil [] ρ [] ρ where
  len := rfl
  out := fun _ _ => rfl
  imm := fun _ h => absurd h (by simp)
  nrow := fun _ h => absurd h (by simp)
  run := fun σ H H1 vs Q h e x q => by
    cases x
    exact ⟨rfl, q σ h fun _ _ => rfl⟩
theorem ats_cons {g : TG} {u : TGs} {is js : List Nat} {d : Da} {ds : List Da} (a : AT K g is ρ d ρ1) (b : ATs K u js ρ1 ds ρ') : ATs K (gCons g u) (is ++ js) ρ (d :: ds) ρ' where
  len := b.len.trans a.len
  out := fun j hj => (b.out j fun z => hj (List.mem_append_right _ z)).trans (a.out j fun z => hj (List.mem_append_left _ z))
  imm := fun j hj c e => by
    by_cases z : j ∈ js
    · exact b.imm j z c e
    · rw [b.out j z] at e
      exact a.imm j ((List.mem_append.mp hj).resolve_right z) c e
  nrow := fun j hj => by
    by_cases z : j ∈ is
    · exact a.nrow j z
    · have y := b.nrow j ((List.mem_append.mp hj).resolve_left z)
      rw [a.out j z] at y
      exact y
  run := fun σ H H1 vs Q h e x q => by
    cases x with
    | cons x1 x2 =>
      refine ⟨_, _, rfl, a.run σ H H1 _ _ h e x1 fun σ' h' k => b.run σ' H H1 _ _ h' e x2 fun σ'' h'' k' => q σ'' h'' fun j hj => ?_⟩
      exact (k' j fun z => hj (List.mem_append_right _ z)).trans (k j fun z => hj (List.mem_append_left _ z))
theorem at_tup {u : TGs} {is : List Nat} {ds : List Da} {n : Nat} (hn : ds.length = n) (a : ATs K u is ρ ds ρ') : AT K (gTup K n u) is ρ (.tuple ds) ρ' where
  len := a.len
  out := a.out
  imm := a.imm
  nrow := a.nrow
  run := fun σ H H1 v Q h e x q => by
    cases x with
    | tup s y => exact ⟨_, _, rfl, Evl.ex_t e s, by rw [dps_len y]; exact hn, a.run σ H H1 _ _ h e y q⟩
end

/-! ### statements -/
inductive Out where
  | nx (ρ : Rho) | rt (d : Da) | bk (ρ : Rho) | ct (ρ : Rho)
structure Stt (K : Frg) (B : Addr → Prop) (Hs H1s H H1 : Hp) (σ : L2.St) (ρ : Rho) : Prop where
  has : Has K H H1 σ ρ
  ex : Ex H H1
  a : Ex Hs H
  c : ∀ x o, ¬ B x → H1s x = some o → H1 x = some o
  d : ∀ x o, H1s x = some o → Hs x = none → H x = none
  ownN : ∀ (i : Nat) (ds : List Da) (l : Addr), ρ[i]? = some (.own ds) → σ[i]? = some (some (V.ref l)) → H1s l = none
  rowB : ∀ (i : Nat) (l : Addr), ρ[i]? = some .row → σ[i]? = some (some (V.ref l)) → B l ∨ H1s l = none
  bIn : ∀ x, B x → Rows σ ρ x
  halN : ∀ (i : Nat) (C : Addr × Addr) (fs : List (Str × Da)) (l : Addr), ρ[i]? = some (.hal true C fs) → σ[i]? = some (some (V.ref l)) → H1s l = none
structure Fin (K : Frg) (B : Addr → Prop) (Hs H1s : Hp) (D : Ends) (O : Out → Prop) : Prop where
  nx : ∀ ρ', O (.nx ρ') → ∀ σ' H' H2, Stt K B Hs H1s H' H2 σ' ρ' → D.nx σ' H2
  rt : ∀ d, O (.rt d) → ∀ v H' H2, Gr K B Hs H1s H' H2 → Dq K H' v d → D.rt v H2
  bk : ∀ ρ', O (.bk ρ') → ∀ σ' H' H2, Stt K B Hs H1s H' H2 σ' ρ' → D.bk σ' H2
  ct : ∀ ρ', O (.ct ρ') → ∀ σ' H' H2, Stt K B Hs H1s H' H2 σ' ρ' → D.ct σ' H2
def SO (K : Frg) (t : TS) (ρ : Rho) (O : Out → Prop) : Prop := ∀ B Hs H1s H H1 σ (D : Ends), Stt K B Hs H1s H H1 σ ρ → Fin K B Hs H1s D O → t D σ H1
section
variable {K : Frg} {ρ ρ' : Rho} {B : Addr → Prop} {Hs H1s H H1 H' H2 : Hp} {σ σ' : L2.St} {O : Out → Prop} {t u : TS} {te : TE}
theorem Stt.gr (s : Stt K B Hs H1s H H1 σ ρ) (g : Gr K (Rows σ ρ) H H1 H' H2) : Stt K B Hs H1s H' H2 σ ρ where
  has := s.has.gr g
  ex := g.b
  a := s.a.trans g.a
  c := fun x o nb e => by
    by_cases r : Rows σ ρ x
    · obtain ⟨i, ei, si⟩ := r
      rcases s.rowB i x ei si with z | z
      · exact absurd z nb
      · rw [e] at z
        cases z
    · exact g.c x o r (s.c x o nb e)
  d := fun x o e n => by
    have n' := s.d x o e n
    by_cases b : B x
    · obtain ⟨_, _, _, _, _, _, y, _⟩ := s.has.rowAt (s.bIn x b)
      exact g.d x _ y n'
    · exact g.d x o (s.c x o b e) n'
  ownN := s.ownN
  rowB := s.rowB
  bIn := s.bIn
  halN := s.halN
theorem Stt.toGr (s : Stt K B Hs H1s H H1 σ ρ) : Gr K B Hs H1s H H1 := ⟨s.a, s.ex, s.c, s.d, fun x b => s.has.rowAt (s.bIn x b)⟩
/-- the slots change, what is changed by place stays -/
theorem Stt.slots {is : List Nat} (s : Stt K B Hs H1s H H1 σ ρ) (h : Has K H H1 σ' ρ') (ko : ∀ (j : Nat), j ∉ is → ρ'[j]? = ρ[j]?) (ki : ∀ (j : Nat), j ∈ is → ∀ c, ρ'[j]? = some c → ¬ c.mut)
    (kr : ∀ (j : Nat), j ∈ is → ρ[j]? ≠ some .row) (ks : ∀ (j : Nat), j ∉ is → σ'[j]? = σ[j]?) : Stt K B Hs H1s H H1 σ' ρ' where
  has := h
  ex := s.ex
  a := s.a
  c := s.c
  d := s.d
  ownN := fun i ds l e q => by
    by_cases z : i ∈ is
    · exact absurd True.intro (ki i z _ e)
    · rw [ko i z] at e
      rw [ks i z] at q
      exact s.ownN i ds l e q
  rowB := fun i l e q => by
    by_cases z : i ∈ is
    · exact absurd True.intro (ki i z _ e)
    · rw [ko i z] at e
      rw [ks i z] at q
      exact s.rowB i l e q
  bIn := fun x b => by
    obtain ⟨i, e, q⟩ := s.bIn x b
    by_cases z : i ∈ is
    · exact absurd e (kr i z)
    · exact ⟨i, by rw [ko i z]; exact e, by rw [ks i z]; exact q⟩
  halN := fun i C fs l e q => by
    by_cases z : i ∈ is
    · exact absurd True.intro (ki i z _ e)
    · rw [ko i z] at e
      rw [ks i z] at q
      exact s.halN i C fs l e q
/-- what stands behind a statement is a block -/
def thenO (K : Frg) (u : TS) (O : Out → Prop) : Out → Prop
  | .nx ρ => SO K u ρ O
  | .rt d => O (.rt d)
  | .bk ρ => O (.bk ρ)
  | .ct ρ => O (.ct ρ)
theorem SO.imp {O' : Out → Prop} (h : SO K t ρ O) (i : ∀ o, O o → O' o) : SO K t ρ O' := fun B Hs H1s H H1 σ D s f =>
  h B Hs H1s H H1 σ D s ⟨fun ρ' p => f.nx ρ' (i _ p), fun d p => f.rt d (i _ p), fun ρ' p => f.bk ρ' (i _ p), fun ρ' p => f.ct ρ' (i _ p)⟩
theorem so_seq (h : SO K t ρ (thenO K u O)) : SO K (tSeq t u) ρ O := fun B Hs H1s H H1 σ D s f =>
  h B Hs H1s H H1 σ _ s ⟨fun ρ' p σ' H' H2 s' => p B Hs H1s H' H2 σ' D s' f, f.rt, f.bk, f.ct⟩
theorem so_next (h : O (.nx ρ)) : SO K tNext ρ O := fun B Hs H1s H H1 σ D s f => f.nx ρ h σ H H1 s
theorem so_break (h : O (.bk ρ)) : SO K tBreak ρ O := fun B Hs H1s H H1 σ D s f => f.bk ρ h σ H H1 s
theorem so_cont (h : O (.ct ρ)) : SO K tCont ρ O := fun B Hs H1s H H1 σ D s f => f.ct ρ h σ H H1 s
theorem so_asg {g : TG} {is : List Nat} (h : AE K te ρ fun d => ∃ ρ', AT K g is ρ d ρ' ∧ O (.nx ρ')) : SO K (tAsg te g) ρ O := fun B Hs H1s H H1 σ D s f =>
  h σ H H1 s.has s.ex _ fun d ⟨ρ', a, o⟩ v H' H2 gr dx => a.run σ H' H2 v _ (s.has.gr gr) gr.b dx fun σ' h' k => f.nx ρ' o σ' H' H2 ((s.gr gr).slots h' a.out a.imm a.nrow k)
theorem so_set {i : Nat} (nr : ρ[i]? ≠ some .row) (h : AE K te ρ fun d => O (.nx (ρ.set i (.dat d)))) : SO K (tAsg te (gName i)) ρ O := so_asg (h.imp fun d o => ⟨_, at_name nr, o⟩)
theorem so_ret (h : AE K te ρ fun d => O (.rt d)) : SO K (tRet te) ρ O := fun B Hs H1s H H1 σ D s f =>
  h σ H H1 s.has s.ex _ fun d o v H' H2 gr dx => f.rt d o v H' H2 (s.gr gr).toGr dx
theorem so_retN (h : O (.rt .none)) : SO K tRetN ρ O := fun B Hs H1s H H1 σ D s f => f.rt _ h V.non H H1 s.toGr .non
theorem so_if {c : TT} (h : AB K c ρ fun b => (b = true → SO K t ρ O) ∧ (b = false → SO K u ρ O)) : SO K (tIfS c t u) ρ O := fun B Hs H1s H H1 σ D s f =>
  h σ H H1 s.has s.ex _ fun b o H' H2 gr => by
    cases b with
    | true => exact (o.1 rfl) B Hs H1s H' H2 σ D (s.gr gr) f
    | false => exact (o.2 rfl) B Hs H1s H' H2 σ D (s.gr gr) f
theorem so_drop (h : AE K te ρ fun _ => O (.nx ρ)) : SO K (tDrop te) ρ O := fun B Hs H1s H H1 σ D s f =>
  h σ H H1 s.has s.ex _ fun d o v H' H2 gr dx => f.nx ρ o σ H' H2 (s.gr gr)
/-- a list of one's own comes to a slot -/
theorem Stt.owned (s : Stt K B Hs H1s H H1 σ ρ) {i : Nat} {p : Addr} {xs : List V} {ds : List Da} {H0 : Hp} (n0 : H0 p = none) (e0 : ∀ x o, ¬ Rows σ ρ x → H0 x = some o → H1 x = some o) (old : ∀ x o, H1s x = some o → ∃ o', H0 x = some o')
    (was : ∀ (j : Nat) (c : Cell) (l : Addr), ρ[j]? = some c → c.mut → σ[j]? = some (some (V.ref l)) → ∃ o, H0 l = some o) (nr : ρ[i]? ≠ some .row) (n : H p = none) (hp : H1 p = some (.lst xs)) (hx : DqAll K H xs ds) :
    Stt K B Hs H1s H H1 (σ.set i (some (V.ref p))) (ρ.set i (.own ds)) := by
  have ns : H1s p = none := by
    cases z : H1s p with
    | none => rfl
    | some o =>
      obtain ⟨o', z'⟩ := old p o z
      rw [n0] at z'
      cases z'
  have ne : ∀ (j : Nat) (c : Cell) (l : Addr), ρ[j]? = some c → c.mut → σ[j]? = some (some (V.ref l)) → l ≠ p := fun j c l a b d z => by
    subst z
    obtain ⟨o, w⟩ := was j c l a b d
    rw [n0] at w
    cases w
  have hi : ∀ {c : Cell}, (ρ.set i (.own ds))[i]? = some c → (σ.set i (some (V.ref p)))[i]? = some (some (V.ref p)) := fun {c} e => by
    rcases set_get e with ⟨_, _, w⟩ | ⟨z, _⟩
    · exact List.getElem?_set_self (by rw [s.has.len]; exact w)
    · exact absurd rfl z
  refine ⟨⟨?_, fun j d e => ?_, fun j es e => ?_, fun j e => ?_, fun a b c c' l nab ea eb ma mb sa sb => ?_, fun j m C fs e => ?_⟩, s.ex, s.a, s.c, s.d, fun j es l e q => ?_, fun j l e q => ?_, fun x bx => ?_, fun j C fs l e q => ?_⟩
  · rw [List.length_set, List.length_set, s.has.len]
  · rcases set_get e with ⟨_, y, _⟩ | ⟨z, y⟩
    · cases y
    · rw [List.getElem?_set_ne fun w => z w.symm]
      exact s.has.dat j d y
  · rcases set_get e with ⟨ej, y, _⟩ | ⟨z, y⟩
    · subst ej
      cases y
      exact ⟨p, xs, hi e, n, hp, hx⟩
    · rw [List.getElem?_set_ne fun w => z w.symm]
      exact s.has.own j es y
  · rcases set_get e with ⟨_, y, _⟩ | ⟨z, y⟩
    · cases y
    · rw [List.getElem?_set_ne fun w => z w.symm]
      exact s.has.row j y
  · rcases set_get ea with ⟨za, ya, _⟩ | ⟨za, ya⟩
    · rcases set_get eb with ⟨zb, yb, _⟩ | ⟨zb, yb⟩
      · exact nab (za.trans zb.symm)
      · subst za
        rw [hi ea] at sa
        rw [List.getElem?_set_ne fun w => zb w.symm] at sb
        cases sa
        exact ne b c' _ yb mb sb rfl
    · rcases set_get eb with ⟨zb, yb, _⟩ | ⟨zb, yb⟩
      · subst zb
        rw [hi eb] at sb
        rw [List.getElem?_set_ne fun w => za w.symm] at sa
        cases sb
        exact ne a c _ ya ma sa rfl
      · rw [List.getElem?_set_ne fun w => za w.symm] at sa
        rw [List.getElem?_set_ne fun w => zb w.symm] at sb
        exact s.has.dis a b c c' l nab ya yb ma mb sa sb
  · rcases set_get e with ⟨_, y, _⟩ | ⟨z, y⟩
    · cases y
    · rw [List.getElem?_set_ne fun w => z w.symm]
      exact s.has.hal j m C fs y
  · rcases set_get e with ⟨ej, y, _⟩ | ⟨z, y⟩
    · subst ej
      rw [hi e] at q
      cases q
      exact ns
    · rw [List.getElem?_set_ne fun w => z w.symm] at q
      exact s.ownN j es l y q
  · rcases set_get e with ⟨_, y, _⟩ | ⟨z, y⟩
    · cases y
    · rw [List.getElem?_set_ne fun w => z w.symm] at q
      exact s.rowB j l y q
  · obtain ⟨j, e, q⟩ := s.bIn x bx
    have z : i ≠ j := fun w => by subst w; exact nr e
    exact ⟨j, by rw [List.getElem?_set_ne z]; exact e, by rw [List.getElem?_set_ne z]; exact q⟩
  · rcases set_get e with ⟨_, y, _⟩ | ⟨z, y⟩
    · cases y
    · rw [List.getElem?_set_ne fun w => z w.symm] at q
      exact s.halN j C fs l y q
theorem Has.there (h : Has K H H1 σ ρ) {j : Nat} {c : Cell} {l : Addr} (e : ρ[j]? = some c) (m : c.mut) (q : σ[j]? = some (some (V.ref l))) : ∃ o, H1 l = some o := by
  cases c with
  | un => exact m.elim
  | dat d => exact m.elim
  | own ds =>
    obtain ⟨l', xs, q', _, y, _⟩ := h.own j ds e
    rw [q] at q'
    cases q'
    exact ⟨_, y⟩
  | row =>
    obtain ⟨r, q', _, _, _, _, _, _, y, _⟩ := h.row j e
    rw [q] at q'
    cases q'
    exact ⟨_, y⟩
  | hal mi C fs =>
    obtain ⟨l', q', _, _, _, _, _, y, _⟩ := h.hal j mi C fs e
    rw [q] at q'
    cases q'
    exact ⟨_, y⟩
theorem Stt.old (s : Stt K B Hs H1s H H1 σ ρ) {x : Addr} {o : HO} (e : H1s x = some o) : ∃ o', H1 x = some o' := by
  by_cases b : B x
  · obtain ⟨_, _, _, _, _, _, y, _⟩ := s.has.rowAt (s.bIn x b)
    exact ⟨_, y⟩
  · exact ⟨o, s.c x o b e⟩
theorem so_own {i : Nat} (nr : ρ[i]? ≠ some .row) (h : AF K te ρ fun ds => O (.nx (ρ.set i (.own ds)))) : SO K (tAsg te (gName i)) ρ O := fun B Hs H1s H H1 σ D s f =>
  h σ H H1 s.has s.ex _ fun ds o p xs H' H2 gr n n' hp hx => f.nx _ o _ H' H2 ((s.gr gr).owned (H0 := H1) n (fun x u r z => gr.c x u r z) (fun x u z => s.old z) (fun j c l e m q => s.has.there e m q) nr n' hp hx)
/-- a list of one's own changes -/
theorem Stt.wrote (s : Stt K B Hs H1s H H1 σ ρ) {i : Nat} {l : Addr} {ds es : List Da} {ys : List V} (e : ρ[i]? = some (.own ds)) (q : σ[i]? = some (some (V.ref l))) (hy : DqAll K H ys es) : Stt K B Hs H1s H (upd H1 l (.lst ys)) σ (ρ.set i (.own es)) := by
  obtain ⟨l', xs, q', n, hl, hx⟩ := s.has.own i ds e
  rw [q] at q'
  cases q'
  have hi : i < ρ.length := (List.getElem?_eq_some_iff.mp e).1
  have ex' : Ex H (upd H1 l (.lst ys)) := fun x o z => by
    rw [upd_ne (ne_of_none z n)]
    exact s.ex x o z
  have nl := s.ownN i ds l e q
  have other : ∀ (j : Nat) (c : Cell) (l' : Addr), j ≠ i → ρ[j]? = some c → c.mut → σ[j]? = some (some (V.ref l')) → l' ≠ l := fun j c l' nj ej mj qj z => by
    subst z
    exact s.has.dis j i c _ l' nj ej e mj True.intro qj q
  refine ⟨⟨?_, fun j d e' => ?_, fun j es' e' => ?_, fun j e' => ?_, fun a b c c' l' nab ea eb ma mb sa sb => ?_, fun j m C fs e' => ?_⟩, ex', s.a, fun x o nb z => ?_, s.d, fun j es' l' e' q' => ?_, fun j l' e' q' => ?_, fun x bx => ?_, fun j C fs l' e' q' => ?_⟩
  · rw [List.length_set, s.has.len]
  · rcases set_get e' with ⟨_, y, _⟩ | ⟨z, y⟩
    · cases y
    · exact s.has.dat j d y
  · rcases set_get e' with ⟨ej, y, _⟩ | ⟨z, y⟩
    · subst ej
      cases y
      exact ⟨l, ys, q, n, upd_same, hy⟩
    · obtain ⟨l', xs', q2, n2, h2, x2⟩ := s.has.own j es' y
      exact ⟨l', xs', q2, n2, by rw [upd_ne (other j _ l' z y True.intro q2)]; exact h2, x2⟩
  · rcases set_get e' with ⟨_, y, _⟩ | ⟨z, y⟩
    · cases y
    · obtain ⟨r, q2, x2⟩ := s.has.row j y
      refine ⟨r, q2, x2.keep (Evl.Ex.refl H) x2.1 fun o w => ?_⟩
      rw [upd_ne (other j _ r z y True.intro q2)]
      exact w
  · have ga : ∃ c0, ρ[a]? = some c0 ∧ c0.mut := by
      rcases set_get ea with ⟨za, _, _⟩ | ⟨_, ya⟩
      · exact ⟨.own ds, by rw [za]; exact e, True.intro⟩
      · exact ⟨c, ya, ma⟩
    have gb : ∃ c0, ρ[b]? = some c0 ∧ c0.mut := by
      rcases set_get eb with ⟨za, _, _⟩ | ⟨_, ya⟩
      · exact ⟨.own ds, by rw [za]; exact e, True.intro⟩
      · exact ⟨c', ya, mb⟩
    obtain ⟨c1, e1, m1⟩ := ga
    obtain ⟨c2, e2, m2⟩ := gb
    exact s.has.dis a b c1 c2 l' nab e1 e2 m1 m2 sa sb
  · rcases set_get e' with ⟨_, y, _⟩ | ⟨z, y⟩
    · cases y
    · obtain ⟨l', q2, x2⟩ := s.has.hal j m C fs y
      refine ⟨l', q2, x2.keep (Evl.Ex.refl H) (fun a o _ n _ => n) fun a o nl _ h1 => ?_⟩
      rw [upd_ne fun z => nl xs (by rw [z, hl] at h1; exact (Option.some.inj h1).symm)]
      exact h1
  · rw [upd_ne (ne_of_none z nl)]
    exact s.c x o nb z
  · rcases set_get e' with ⟨ej, y, _⟩ | ⟨z, y⟩
    · subst ej
      exact s.ownN j ds l' e q'
    · exact s.ownN j es' l' y q'
  · rcases set_get e' with ⟨_, y, _⟩ | ⟨z, y⟩
    · cases y
    · exact s.rowB j l' y q'
  · obtain ⟨j, e', q'⟩ := s.bIn x bx
    have z : i ≠ j := fun w => by
      subst w
      rw [e] at e'
      cases e'
    exact ⟨j, by rw [List.getElem?_set_ne z]; exact e', q'⟩
  · rcases set_get e' with ⟨_, y, _⟩ | ⟨z, y⟩
    · cases y
    · exact s.halN j C fs l' y q'
theorem so_append {i : Nat} {ds : List Da} (e : ρ[i]? = some (.own ds)) (h : AE K te ρ fun d => ds.length < sizeLine ∧ O (.nx (ρ.set i (.own (ds ++ [d]))))) : SO K (tDrop (tBM K "list" rAppend (tVar i) (tCons te tNil))) ρ O := fun B Hs H1s H H1 σ D s f => by
  obtain ⟨l, xs, q, n, hl, hx⟩ := s.has.own i ds e
  refine ⟨V.ref l, q, Or.inl ⟨rfl, _, SqL.of hl⟩, h σ H H1 s.has s.ex _ fun d o v H' H2 gr dx => ?_⟩
  have s' := s.gr gr
  obtain ⟨l', xs', q', n', hl', hx'⟩ := s'.has.own i ds e
  rw [q] at q'
  cases q'
  refine ⟨l, xs', v, rfl, rfl, hl', by rw [dps_len hx']; exact o.1, f.nx _ o.2 σ H' _ (s'.wrote e q (dps_app hx' (dps_one dx)))⟩
/-- the list of one's own becomes a datum -/
theorem so_freeze {i : Nat} {ds : List Da} (e : ρ[i]? = some (.own ds)) (h : SO K t (ρ.set i (.dat (.list ds))) O) : SO K t ρ O := fun B Hs H1s H H1 σ D s f => by
  obtain ⟨l, xs, q, n, hl, hx⟩ := s.has.own i ds e
  have nl := s.ownN i ds l e q
  have ex1 : Ex H (upd H l (.lst xs)) := Evl.Ex.new n
  have other : ∀ (j : Nat) (c : Cell) (l' : Addr), j ≠ i → ρ[j]? = some c → c.mut → σ[j]? = some (some (V.ref l')) → l' ≠ l := fun j c l' nj ej mj qj z => by
    subst z
    exact s.has.dis j i c _ l' nj ej e mj True.intro qj q
  refine h B Hs H1s (upd H l (.lst xs)) H1 σ D ⟨⟨?_, fun j d e' => ?_, fun j es' e' => ?_, fun j e' => ?_, fun a b c c' l' nab ea eb ma mb sa sb => ?_, fun j m C fs e' => ?_⟩, fun x o z => ?_, s.a.trans ex1, s.c, fun x o z m => ?_, fun j es' l' e' q' => ?_, fun j l' e' q' => ?_, fun x bx => ?_, fun j C fs l' e' q' => ?_⟩ f
  · rw [List.length_set, s.has.len]
  · rcases set_get e' with ⟨ej, y, _⟩ | ⟨z, y⟩
    · subst ej
      cases y
      exact ⟨V.ref l, q, .lst upd_same (dps_ex ex1 ds hx)⟩
    · obtain ⟨v, q2, x2⟩ := s.has.dat j d y
      exact ⟨v, q2, dp_ex ex1 d x2⟩
  · rcases set_get e' with ⟨_, y, _⟩ | ⟨z, y⟩
    · cases y
    · obtain ⟨l', xs', q2, n2, h2, x2⟩ := s.has.own j es' y
      exact ⟨l', xs', q2, by rw [upd_ne (other j _ l' z y True.intro q2)]; exact n2, h2, dps_ex ex1 es' x2⟩
  · rcases set_get e' with ⟨_, y, _⟩ | ⟨z, y⟩
    · cases y
    · obtain ⟨r, q2, x2⟩ := s.has.row j y
      exact ⟨r, q2, x2.keep ex1 (by rw [upd_ne (other j _ r z y True.intro q2)]; exact x2.1) fun o w => w⟩
  · rcases set_get ea with ⟨_, y, _⟩ | ⟨_, ya⟩
    · subst y
      exact ma.elim
    · rcases set_get eb with ⟨_, y, _⟩ | ⟨_, yb⟩
      · subst y
        exact mb.elim
      · exact s.has.dis a b c c' l' nab ya yb ma mb sa sb
  · rcases set_get e' with ⟨_, y, _⟩ | ⟨z, y⟩
    · cases y
    · obtain ⟨l', q2, x2⟩ := s.has.hal j m C fs y
      refine ⟨l', q2, x2.keep ex1 (fun a o h1 n nl => ?_) fun a o _ _ h1 => h1⟩
      rw [upd_ne fun z => nl xs (by rw [z, hl] at h1; exact (Option.some.inj h1).symm)]
      exact n
  · by_cases w : x = l
    · subst w
      rw [upd_same] at z
      exact hl.trans z
    · rw [upd_ne w] at z
      exact s.ex x o z
  · rw [upd_ne (ne_of_none z nl)]
    exact s.d x o z m
  · rcases set_get e' with ⟨_, y, _⟩ | ⟨z, y⟩
    · cases y
    · exact s.ownN j es' l' y q'
  · rcases set_get e' with ⟨_, y, _⟩ | ⟨z, y⟩
    · cases y
    · exact s.rowB j l' y q'
  · obtain ⟨j, e', q'⟩ := s.bIn x bx
    have z : i ≠ j := fun w => by
      subst w
      rw [e] at e'
      cases e'
    exact ⟨j, by rw [List.getElem?_set_ne z]; exact e', q'⟩
  · rcases set_get e' with ⟨_, y, _⟩ | ⟨z, y⟩
    · cases y
    · exact s.halN j C fs l' y q'
end

/-! ### loops -/
def loopO (nxt O : Out → Prop) : Out → Prop
  | .nx ρ => nxt (.nx ρ)
  | .ct ρ => nxt (.nx ρ)
  | .bk ρ => O (.nx ρ)
  | .rt d => O (.rt d)
def LoopD (K : Frg) (g : TG) (is : List Nat) (tb : TS) (O : Out → Prop) : List Da → Rho → Prop
  | [], ρ => O (.nx ρ)
  | d :: ds, ρ => ∃ ρ1, AT K g is ρ d ρ1 ∧ SO K tb ρ1 (loopO (fun o => match o with | .nx ρ' => LoopD K g is tb O ds ρ' | _ => False) O)
section
variable {K : Frg} {ρ : Rho} {O : Out → Prop} {tb : TS} {g : TG} {is : List Nat} {wi : TI}
theorem so_for (h : AI K wi ρ fun ds => LoopD K g is tb O ds ρ) : SO K (tFor wi g tb) ρ O := fun B Hs H1s H H1 σ D s f =>
  h σ H H1 s.has s.ex _ fun ds p J H' H2 gr y => by
    refine ⟨fun i m σ' H3 => m = ds.length - i ∧ i ≤ ds.length ∧ ∃ ρ' Hk, Ex H' Hk ∧ Stt K B Hs H1s Hk H3 σ' ρ' ∧ LoopD K g is tb O (ds.drop i) ρ', ⟨ds.length, by simp, Nat.zero_le _, ρ, H', Evl.Ex.refl _, s.gr gr, p⟩, ?_⟩
    rintro i m σ' H3 ⟨rfl, hi, ρ', Hk, ek, s', l⟩
    obtain ⟨yg, ys⟩ := y i Hk H3 ek s'.ex
    by_cases hlt : i < ds.length
    · right
      have e : ds[i]? = some ds[i] := by simp [hlt]
      obtain ⟨go, yl⟩ := yg _ e
      rw [List.drop_eq_getElem_cons hlt] at l
      obtain ⟨ρ1, a, so⟩ := l
      refine ⟨go, fun σ'' H4 => ∃ ρ'' Hk', Ex H' Hk' ∧ Stt K B Hs H1s Hk' H4 σ'' ρ'' ∧ LoopD K g is tb O (ds.drop (i + 1)) ρ'', fun σ'' H4 z => ⟨ds.length - (i + 1), by omega, rfl, by omega, z⟩, fun x H4 yy => ?_⟩
      obtain ⟨Hk', gn, dx⟩ := yl x H4 yy
      have g2 : Gr K (Rows σ' ρ') Hk H3 Hk' H4 := GrN.up gn fun b rb => s'.has.rowAt rb
      refine a.run σ' Hk' H4 x _ (s'.has.gr g2) g2.b dx fun σ'' h'' k => ?_
      have s2 : Stt K B Hs H1s Hk' H4 σ'' ρ1 := (s'.gr g2).slots h'' a.out a.imm a.nrow k
      -- known things behind the body are at least those ahead of it: carried by the entry heap's second copy
      have s3 : Stt K B Hk' H1s Hk' H4 σ'' ρ1 := ⟨s2.has, s2.ex, Evl.Ex.refl _, s2.c, fun x o z m => m, s2.ownN, s2.rowB, s2.bIn, s2.halN⟩
      have back : ∀ {ρ0 : Rho} {σ0 : L2.St} {Ha Hb : Hp}, Stt K B Hk' H1s Ha Hb σ0 ρ0 → Stt K B Hs H1s Ha Hb σ0 ρ0 ∧ Ex H' Ha := fun {ρ0 σ0 Ha Hb} z =>
        ⟨⟨z.has, z.ex, s2.a.trans z.a, z.c, fun x o q m => z.d x o q (s2.d x o q m), z.ownN, z.rowB, z.bIn, z.halN⟩, (ek.trans gn.a).trans z.a⟩
      refine so B Hk' H1s Hk' H4 σ'' _ s3 ⟨fun ρ0 p0 σ0 Ha Hb z => ?_, fun d p0 v Ha Hb z dv => ?_, fun ρ0 p0 σ0 Ha Hb z => ?_, fun ρ0 p0 σ0 Ha Hb z => ?_⟩
      · exact ⟨ρ0, Ha, (back z).2, (back z).1, p0⟩
      · exact f.rt d p0 v Ha Hb ⟨s2.a.trans z.a, z.b, z.c, fun x o q m => z.d x o q (s2.d x o q m), z.e⟩ dv
      · exact f.nx ρ0 p0 σ0 Ha Hb (back z).1
      · exact ⟨ρ0, Ha, (back z).2, (back z).1, p0⟩
    · left
      have ei : i = ds.length := by omega
      subst ei
      rw [List.drop_length] at l
      exact ⟨ys rfl, f.nx ρ' l σ' Hk H3 s'⟩
/-- by a word of what is left and the slots -/
theorem loop_by {α : Type} (enc : α → Da) (I : List α → Rho → Prop) (hs : ∀ x xs ρ, I (x :: xs) ρ → ∃ ρ1, AT K g is ρ (enc x) ρ1 ∧ SO K tb ρ1 (loopO (fun o => match o with | .nx ρ' => I xs ρ' | _ => False) O)) (he : ∀ ρ, I [] ρ → O (.nx ρ)) :
    ∀ (xs : List α) (ρ : Rho), I xs ρ → LoopD K g is tb O (xs.map enc) ρ
  | [], ρ, h => he ρ h
  | x :: xs, ρ, h => by
    obtain ⟨ρ1, a, s⟩ := hs x xs ρ h
    refine ⟨ρ1, a, s.imp fun o p => ?_⟩
    cases o with
    | nx ρ' => exact loop_by enc I hs he xs ρ' p
    | ct ρ' => exact loop_by enc I hs he xs ρ' p
    | bk ρ' => exact p
    | rt d => exact p
end
end Ft

/-! part: FtC -/
set_option Elab.async false
set_option linter.all false
set_option maxRecDepth 100000
namespace Ft
open PySem L2

theorem sh_lay {d : Da} (h : SeqAt.shaped d = true) : d.canLay0 = true := by
  have h : (d.canLay0 && decide (d.depth ≤ 64)) = true := h
  exact (Bool.and_eq_true _ _ ▸ h).1
section
variable {K : Frg} {H H1 : Hp} {P : Da → Prop}
theorem GrN.rf (e : Ex H H1) : GrN K H H1 H H1 := GrN.mk' e (Evl.Ex.refl _)
theorem GrN.fresh {p : Addr} {o : HO} (e : Ex H H1) (n : H1 p = none) : GrN K H H1 H (upd H1 p o) := GrN.mk' e (Evl.Ex.new n)
/-! ### operations on whole numbers -/
theorem rr_ii {g : Int → Int → Int} {i j : Int} (p : P (.int (g i j))) : RR K (rI0 fun i j => .int (g i j)) (.int i) (.int j) P := fun H H1 v u e dv du Q q => by
  cases dv; cases du
  exact ⟨i, j, rfl, rfl, q _ p _ H H1 (GrN.rf e) (.int _)⟩
theorem rr_ib {g : Int → Int → Bool} {i j : Int} (p : P (.bool (g i j))) : RR K (rI0 fun i j => .bl (g i j)) (.int i) (.int j) P := fun H H1 v u e dv du Q q => by
  cases dv; cases du
  exact ⟨i, j, rfl, rfl, q _ p _ H H1 (GrN.rf e) (.bl _)⟩
theorem rr_ci {C : Int → Int → Prop} {g : Int → Int → Int} {i j : Int} (c : C i j) (p : P (.int (g i j))) : RR K (rI C fun i j => .int (g i j)) (.int i) (.int j) P := fun H H1 v u e dv du Q q => by
  cases dv; cases du
  exact ⟨i, j, rfl, rfl, c, q _ p _ H H1 (GrN.rf e) (.int _)⟩
theorem rr_l {r r' : R2} {x y : Da} (h : RR K r x y P) : RR K (fun x y H Q => r x y H Q ∨ r' x y H Q) x y P := fun H H1 v u e dv du Q q => .inl (h H H1 v u e dv du Q q)
theorem rr_r {r r' : R2} {x y : Da} (h : RR K r' x y P) : RR K (fun x y H Q => r x y H Q ∨ r' x y H Q) x y P := fun H H1 v u e dv du Q q => .inr (h H H1 v u e dv du Q q)
theorem rr_eqD {x y : Da} (hx : SeqAt.shaped x = true) (hy : SeqAt.shaped y = true) (p : P (.bool (PyData.eqv x y))) : RR K (rEqD K) x y P := fun H H1 v u e dv du Q q =>
  ⟨x, y, (dp_ex e x dv).dp _ (sh_lay hx), (dp_ex e y du).dp _ (sh_lay hy), hx, hy, q _ p _ H H1 (GrN.rf e) (.bl _)⟩
theorem rr_neD {x y : Da} (hx : SeqAt.shaped x = true) (hy : SeqAt.shaped y = true) (p : P (.bool (!PyData.eqv x y))) : RR K (rNeD K) x y P := fun H H1 v u e dv du Q q =>
  ⟨x, y, (dp_ex e x dv).dp _ (sh_lay hx), (dp_ex e y du).dp _ (sh_lay hy), hx, hy, q _ p _ H H1 (GrN.rf e) (.bl _)⟩
def isNone : Da → Bool
  | .none => true
  | _ => false
theorem dec_none {v : V} {x : Da} (d : Dq K H v x) : decide (v = .non) = isNone x := by
  cases d <;> first | rfl | exact decide_eq_false (fun h => nomatch h)
def rIsN : R2 := fun x y H Q => y = .non ∧ Q (.bl (decide (x = .non))) H
def rNotN : R2 := fun x y H Q => y = .non ∧ Q (.bl (!decide (x = .non))) H
theorem op_isN' {X : Cx} : OpR X (compareOp .Is) rIsN := op_isN
theorem op_notN' {X : Cx} : OpR X (compareOp .IsNot) rNotN := op_notN
theorem rr_isN {x : Da} (p : P (.bool (isNone x))) : RR K rIsN x .none P := fun H H1 v u e dv du Q q => by
  cases du
  exact ⟨rfl, by rw [dec_none dv]; exact q _ p _ H H1 (GrN.rf e) (.bl _)⟩
theorem rr_notN {x : Da} (p : P (.bool (!isNone x))) : RR K rNotN x .none P := fun H H1 v u e dv du Q q => by
  cases du
  exact ⟨rfl, by rw [dec_none dv]; exact q _ p _ H H1 (GrN.rf e) (.bl _)⟩
def rNotB : R2 := fun x y H Q => ∃ a b, x = .bl a ∧ y = .bl b ∧ Q (.bl (!decide (a = b))) H
theorem rr_notB {a b : Bool} (p : P (.bool (!decide (a = b)))) : RR K rNotB (.bool a) (.bool b) P := fun H H1 v u e dv du Q q => by
  cases dv; cases du
  exact ⟨a, b, rfl, rfl, q _ p _ H H1 (GrN.rf e) (.bl _)⟩

/-! ### values in a tuple of whole numbers -/
def nums (ns : List Int) : List Da := ns.map .int
abbrev tupI (ns : List Int) : Da := .tuple (nums ns)
theorem dq_nums : ∀ {vs : List V} {ns : List Int}, DqAll K H vs (nums ns) → vs = ns.map V.int
  | _, [], h => by cases h; rfl
  | _, n :: ns, h => by
    cases h with
    | cons a b =>
      cases a
      rw [dq_nums b]
      rfl
def rLtA (K : Frg) : R2 := fun x y H Q => rI0 (fun i j => .bl (decide (i < j))) x y H Q ∨ rLtT K x y H Q
theorem op_ltA {X : Cx} (hu : X.A.units < cLine) : OpR X (compareOp .Lt) (rLtA X.K) := op_lt.or (op_ltT hu)
theorem rr_ltI {i j : Int} (p : P (.bool (decide (i < j)))) : RR K (rLtA K) (.int i) (.int j) P := rr_l (rr_ib p)
theorem rr_ltT {ns ms : List Int} (p : P (.bool (HT.lexLt ns ms))) : RR K (rLtA K) (tupI ns) (tupI ms) P := rr_r fun H H1 v u e dv du Q q => by
  cases dp_ex e _ dv with
  | tup s a =>
    cases dp_ex e _ du with
    | tup s' a' =>
      rw [dq_nums a] at s
      rw [dq_nums a'] at s'
      exact ⟨_, _, ns, ms, rfl, rfl, s, s', q _ p _ H H1 (GrN.rf e) (.bl _)⟩

/-! ### places, lengths, slices, sums -/
theorem atI_dq {vs : List V} {ds : List Da} {i : Int} {d : Da} (h : DqAll K H vs ds) (e : atI ds i = some d) : ∃ v, atI vs i = some v ∧ Dq K H v d := by
  unfold atI at e ⊢
  rw [dps_len h]
  cases z : ixN ds.length i with
  | none =>
    rw [z] at e
    cases e
  | some j =>
    rw [z] at e
    exact dps_get (i := j) h e
theorem rr_ixL {ds : List Da} {i : Int} {d : Da} (a : atI ds i = some d) (p : P d) : RR K (rIx K) (.list ds) (.int i) P := fun H H1 v u e dv du Q q => by
  cases dv with
  | lst s x =>
    cases du
    obtain ⟨w, e1, dw⟩ := atI_dq x a
    exact .inl ⟨_, _, i, w, rfl, rfl, SqL.of (e _ _ s), e1, q d p w H H1 (GrN.rf e) dw⟩
theorem rr_ixT {ds : List Da} {i : Int} {d : Da} (a : atI ds i = some d) (p : P d) : RR K (rIx K) (.tuple ds) (.int i) P := fun H H1 v u e dv du Q q => by
  cases dv with
  | tup s x =>
    cases du
    obtain ⟨w, e1, dw⟩ := atI_dq x a
    exact .inr (.inl ⟨_, _, i, w, rfl, rfl, Evl.ex_t e s, e1, q d p w H H1 (GrN.rf e) dw⟩)
def rLen (K : Frg) : List V → Hp → VK → Prop := fun xs H Q => ∃ p ys, xs = [.ref p] ∧ (SqL K H p ys ∨ SqT K H p ys) ∧ Q (.int ys.length) H
theorem call_len' {X : Cx} : CallR X (.builtin "len") (rLen X.K) := call_len_seq
theorem rc_lenL {ds : List Da} (p : P (.int (ds.length : Int))) : RC K (rLen K) [.list ds] P := fun H H1 vs e dv Q q => by
  cases dv with
  | cons a b =>
    cases b
    cases a with
    | lst s x => exact ⟨_, _, rfl, .inl (SqL.of (e _ _ s)), by rw [dps_len x]; exact q _ p _ H H1 (GrN.rf e) (.int _)⟩
theorem rc_lenT {ds : List Da} (p : P (.int (ds.length : Int))) : RC K (rLen K) [.tuple ds] P := fun H H1 vs e dv Q q => by
  cases dv with
  | cons a b =>
    cases b
    cases a with
    | tup s x => exact ⟨_, _, rfl, .inr (Evl.ex_t e s), by rw [dps_len x]; exact q _ p _ H H1 (GrN.rf e) (.int _)⟩
def rTupleOf (K : Frg) : List V → Hp → VK → Prop := fun xs H Q => ∃ p ys, xs = [.ref p] ∧ ((SqL K H p ys ∧ ∀ l, H l = none → Q (.ref l) (upd H l (.tup ys))) ∨ (SqT K H p ys ∧ Q (.ref p) H))
theorem call_tupleOf {X : Cx} : CallR X (.type "tuple") (rTupleOf X.K) := call_tuple_of
theorem rc_tupleL {ds : List Da} (p : P (.tuple ds)) : RC K (rTupleOf K) [.list ds] P := fun H H1 vs e dv Q q => by
  cases dv with
  | cons a b =>
    cases b
    cases a with
    | @lst _ zs _ s x =>
      refine ⟨_, _, rfl, .inl ⟨SqL.of (e _ _ s), fun l n => ?_⟩⟩
      have g : GrN K H H1 (upd H l (.tup zs)) (upd H1 l (.tup zs)) := GrN.new e n
      exact q _ p _ _ _ g (.tup (SqT.of upd_same) (dps_ex g.a ds x))
theorem rc_tupleT {ds : List Da} (p : P (.tuple ds)) : RC K (rTupleOf K) [.tuple ds] P := fun H H1 vs e dv Q q => by
  cases dv with
  | cons a b =>
    cases b
    cases a with
    | tup s x => exact ⟨_, _, rfl, .inr ⟨Evl.ex_t e s, q _ p _ H H1 (GrN.rf e) (.tup s x)⟩⟩
def rListOf (K : Frg) : List V → Hp → VK → Prop := fun xs H Q => ∃ p ys, xs = [.ref p] ∧ (SqL K H p ys ∨ SqT K H p ys) ∧ ∀ l, H l = none → Q (.ref l) (upd H l (.lst ys))
theorem call_listOf {X : Cx} : CallR X (.type "list") (rListOf X.K) := call_list_of
theorem rf_listL {ds : List Da} {P : List Da → Prop} (p : P ds) : RF K (rListOf K) [.list ds] P := fun H H1 vs e dv Q q => by
  cases dv with
  | cons a b =>
    cases b
    cases a with
    | lst s x => exact ⟨_, _, rfl, .inl (SqL.of (e _ _ s)), fun l n => q _ p l _ H _ (GrN.fresh e n) n (Evl.fresh_back e n) upd_same x⟩
theorem rf_listT {ds : List Da} {P : List Da → Prop} (p : P ds) : RF K (rListOf K) [.tuple ds] P := fun H H1 vs e dv Q q => by
  cases dv with
  | cons a b =>
    cases b
    cases a with
    | tup s x => exact ⟨_, _, rfl, .inr (Evl.ex_t e s), fun l n => q _ p l _ H _ (GrN.fresh e n) n (Evl.fresh_back e n) upd_same x⟩
def rInt1 : List V → Hp → VK → Prop := fun xs H Q => (∃ i, xs = [.int i] ∧ Q (.int i) H) ∨ ∃ k, xs = [.bl k] ∧ Q (.int (if k then 1 else 0)) H
theorem call_int' {X : Cx} : CallR X (.type "int") rInt1 := call_int1
theorem rc_intI {i : Int} (p : P (.int i)) : RC K rInt1 [.int i] P := fun H H1 vs e dv Q q => by
  cases dv with
  | cons a b =>
    cases b; cases a
    exact .inl ⟨i, rfl, q _ p _ H H1 (GrN.rf e) (.int _)⟩
theorem rc_intB {k : Bool} (p : P (.int (if k then 1 else 0))) : RC K rInt1 [.bool k] P := fun H H1 vs e dv Q q => by
  cases dv with
  | cons a b =>
    cases b; cases a
    exact .inr ⟨k, rfl, q _ p _ H H1 (GrN.rf e) (.int _)⟩
/-- + of whole numbers, of tuples, of lists -/
def rAddA (K : Frg) : R2 := fun x y H Q => rI0 (fun i j => .int (i + j)) x y H Q ∨ (fun x y H Q => rCatA K x y H Q ∨ rCat x y H Q) x y H Q
theorem op_addA {X : Cx} : OpR X (binaryOp .Add) (rAddA X.K) := op_add.or (op_catA.or op_cat)
theorem rr_addI {i j : Int} (p : P (.int (i + j))) : RR K (rAddA K) (.int i) (.int j) P := rr_l (rr_ii p)
theorem rr_addT {ds es : List Da} (z : ds.length + es.length ≤ sizeLine) (p : P (.tuple (ds ++ es))) : RR K (rAddA K) (.tuple ds) (.tuple es) P := rr_r (rr_l fun H H1 v u e dv du Q q => by
  cases dv with
  | @tup a xs _ s x =>
    cases du with
    | @tup b ys _ s' x' =>
      refine ⟨a, b, xs, ys, rfl, rfl, Evl.ex_t e s, Evl.ex_t e s', by rw [dps_len x, dps_len x']; exact z, fun n => ?_, fun _ n => ?_, fun _ _ p' hp => ?_⟩
      · have nd : ds = [] := List.eq_nil_of_length_eq_zero (by rw [← dps_len x, n]; rfl)
        subst nd
        exact q _ p _ H H1 (GrN.rf e) (.tup s' x')
      · have nd : es = [] := List.eq_nil_of_length_eq_zero (by rw [← dps_len x', n]; rfl)
        subst nd
        rw [List.append_nil] at p
        exact q _ p _ H H1 (GrN.rf e) (.tup s x)
      · have g : GrN K H H1 (upd H p' (.tup (xs ++ ys))) (upd H1 p' (.tup (xs ++ ys))) := GrN.new e hp
        exact q _ p _ _ _ g (.tup (SqT.of upd_same) (dps_ex g.a _ (dps_app x x'))))
theorem rr_addL {ds es : List Da} (z : ds.length + es.length ≤ sizeLine) (p : P (.list (ds ++ es))) : RR K (rAddA K) (.list ds) (.list es) P := rr_r (rr_r fun H H1 v u e dv du Q q => by
  cases dv with
  | @lst a xs _ s x =>
    cases du with
    | @lst b ys _ s' x' =>
      refine ⟨a, b, xs, ys, rfl, rfl, e _ _ s, e _ _ s', by rw [dps_len x, dps_len x']; exact z, fun p' hp => ?_⟩
      have g : GrN K H H1 (upd H p' (.lst (xs ++ ys))) (upd H1 p' (.lst (xs ++ ys))) := GrN.new e hp
      exact q _ p _ _ _ g (.lst upd_same (dps_ex g.a _ (dps_app x x'))))
/-- in, not in: a list, a tuple of data of any depth -/
def rInB (K : Frg) (f : Bool → Bool) : R2 := fun x y H Q => ∃ d ds, Dp K H x d ∧ (Dp K H y (.list ds) ∨ Dp K H y (.tuple ds)) ∧ SeqAt.shaped d = true ∧ SeqAt.shaped (.tuple ds) = true ∧ Q (.bl (f (ds.any fun z => PyData.eqv z d))) H
theorem shaped_list {ds : List Da} (h : SeqAt.shaped (.tuple ds) = true) : SeqAt.shaped (.list ds) = true := by
  show (PyData.canLay0 (.list ds) && decide (PyData.depth (.list ds) ≤ 64)) = true
  rw [show PyData.canLay0 (.list ds) = PyData.canLay0 (.tuple ds) from by simp only [PyData.canLay0], show PyData.depth (.list ds) = PyData.depth (.tuple ds) from by simp only [PyData.depth]]
  exact h
theorem op_inB {X : Cx} (hu : X.A.units + 65 < cLine) : OpR X (compareOp .In) (rInB X.K id) := by
  intro pins s σ H x y v u Q I rx ry h
  obtain ⟨d, ds, hd, he, sd, se, q⟩ := h
  obtain ⟨as, r1⟩ := Dp.reads I d x v hd rx
  rcases he with he | he
  · obtain ⟨bs, r2⟩ := Dp.reads I (.list ds) y u he ry
    exact SeqAt.in_list_reads r2 r1 (SeqAt.canLay_of_shaped (shaped_list se)) (SeqAt.canLay_of_shaped sd) (PyProof.Rows.room_in_shaped sd hu) ⟨.bl _, H, I, rfl, q⟩
  · obtain ⟨bs, r2⟩ := Dp.reads I (.tuple ds) y u he ry
    exact SeqAt.in_tuple_reads r2 r1 (SeqAt.canLay_of_shaped se) (SeqAt.canLay_of_shaped sd) (PyProof.Rows.room_in_shaped sd hu) ⟨.bl _, H, I, rfl, q⟩
theorem op_notInB {X : Cx} (hu : X.A.units + 65 < cLine) : OpR X (compareOp .NotIn) (rInB X.K not) := by
  intro pins s σ H x y v u Q I rx ry h
  obtain ⟨d, ds, hd, he, sd, se, q⟩ := h
  obtain ⟨as, r1⟩ := Dp.reads I d x v hd rx
  rcases he with he | he
  · obtain ⟨bs, r2⟩ := Dp.reads I (.list ds) y u he ry
    exact SeqAt.notIn_list_reads r2 r1 (SeqAt.canLay_of_shaped (shaped_list se)) (SeqAt.canLay_of_shaped sd) (PyProof.Rows.room_in_shaped sd hu) ⟨.bl _, H, I, rfl, q⟩
  · obtain ⟨bs, r2⟩ := Dp.reads I (.tuple ds) y u he ry
    exact SeqAt.notIn_tuple_reads r2 r1 (SeqAt.canLay_of_shaped se) (SeqAt.canLay_of_shaped sd) (PyProof.Rows.room_in_shaped sd hu) ⟨.bl _, H, I, rfl, q⟩
theorem rr_inT {f : Bool → Bool} {x : Da} {ds : List Da} (hx : SeqAt.shaped x = true) (hy : SeqAt.shaped (.tuple ds) = true) (p : P (.bool (f (ds.any fun z => PyData.eqv z x)))) : RR K (rInB K f) x (.tuple ds) P := fun H H1 v u e dv du Q q =>
  ⟨x, ds, (dp_ex e _ dv).dp _ (sh_lay hx), .inr ((dp_ex e _ du).dp _ (sh_lay hy)), hx, hy, q _ p _ H H1 (GrN.rf e) (.bl _)⟩
theorem rr_inL {f : Bool → Bool} {x : Da} {ds : List Da} (hx : SeqAt.shaped x = true) (hy : SeqAt.shaped (.tuple ds) = true) (p : P (.bool (f (ds.any fun z => PyData.eqv z x)))) : RR K (rInB K f) x (.list ds) P := fun H H1 v u e dv du Q q =>
  ⟨x, ds, (dp_ex e _ dv).dp _ (sh_lay hx), .inl ((dp_ex e _ du).dp _ (by have := sh_lay hy; simpa only [PyData.canLay0] using this)), hx, hy, q _ p _ H H1 (GrN.rf e) (.bl _)⟩
end

/-! ### tests -/
section
variable {K : Frg} {ρ : Rho} {te ta tb : TE} {t u : TT}
theorem ab_test {P : Bool → Prop} (h : AE K te ρ fun d => ∃ b, d = .bool b ∧ P b) : AB K (tTest te) ρ P := fun σ H H1 s e Q q => h σ H H1 s e _ fun d ⟨b, ed, p⟩ v H' H2 g dx => by
  subst ed
  cases dx
  exact ⟨b, rfl, q b p H' H2 g⟩
theorem ab_val {P : Bool → Prop} (h : AE K te ρ fun d => ∃ b, d = .bool b ∧ P b) : AB K (tB te) ρ P := fun σ H H1 s e Q q => h σ H H1 s e _ fun d ⟨b, ed, p⟩ v H' H2 g dx => by
  subst ed
  cases dx
  exact ⟨b, rfl, q b p H' H2 g⟩
theorem ab_yes {P : Bool → Prop} (p : P true) : AB K tYes ρ P := fun σ H H1 s e Q q => q true p H H1 (Gr.refl e fun _ => s.rowAt)
theorem ab_and {P : Bool → Prop} (h : AB K t ρ fun a => (a = true → AB K u ρ P) ∧ (a = false → P false)) : AB K (tAnd t u) ρ P := fun σ H H1 s e Q q => h σ H H1 s e _ fun a k H' H2 g => by
  cases a with
  | true => exact (k.1 rfl) σ H' H2 (s.gr g) g.b Q fun b p H3 H4 g2 => q b p H3 H4 (g.trans g2)
  | false => exact q false (k.2 rfl) H' H2 g
theorem ab_or {P : Bool → Prop} (h : AB K t ρ fun a => (a = false → AB K u ρ P) ∧ (a = true → P true)) : AB K (tOr t u) ρ P := fun σ H H1 s e Q q => h σ H H1 s e _ fun a k H' H2 g => by
  cases a with
  | false => exact (k.1 rfl) σ H' H2 (s.gr g) g.b Q fun b p H3 H4 g2 => q b p H3 H4 (g.trans g2)
  | true => exact q true (k.2 rfl) H' H2 g
theorem ab_not {P : Bool → Prop} (h : AB K t ρ fun a => P (!a)) : AB K (tNot t) ρ P := fun σ H H1 s e Q q => h σ H H1 s e _ fun a k H' H2 g => q _ k H' H2 g
theorem ae_andV {P : Da → Prop} (h : AE K ta ρ fun d => ∃ a, d = .bool a ∧ (a = true → AE K tb ρ P) ∧ (a = false → P (.bool false))) : AE K (tAndV ta tb) ρ P := fun σ H H1 s e Q q => h σ H H1 s e _ fun d ⟨a, ed, k⟩ v H' H2 g dx => by
  subst ed
  cases dx
  cases a with
  | true => exact ⟨true, rfl, (k.1 rfl) σ H' H2 (s.gr g) g.b Q fun b p v H3 H4 g2 => q b p v H3 H4 (g.trans g2)⟩
  | false => exact ⟨false, rfl, q _ (k.2 rfl) _ H' H2 g (.bl _)⟩
theorem ae_orV {P : Da → Prop} (h : AE K ta ρ fun d => ∃ a, d = .bool a ∧ (a = false → AE K tb ρ P) ∧ (a = true → P (.bool true))) : AE K (tOrV ta tb) ρ P := fun σ H H1 s e Q q => h σ H H1 s e _ fun d ⟨a, ed, k⟩ v H' H2 g dx => by
  subst ed
  cases dx
  cases a with
  | false => exact ⟨false, rfl, (k.1 rfl) σ H' H2 (s.gr g) g.b Q fun b p v H3 H4 g2 => q b p v H3 H4 (g.trans g2)⟩
  | true => exact ⟨true, rfl, q _ (k.2 rfl) _ H' H2 g (.bl _)⟩
theorem ae_notV {P : Da → Prop} (h : AE K ta ρ fun d => ∃ a, d = .bool a ∧ P (.bool (!a))) : AE K (tNotV ta) ρ P := fun σ H H1 s e Q q => h σ H H1 s e _ fun d ⟨a, ed, k⟩ v H' H2 g dx => by
  subst ed
  cases dx
  exact ⟨a, rfl, q _ k _ H' H2 g (.bl _)⟩
theorem ae_ifE {P : Da → Prop} (h : AB K t ρ fun a => (a = true → AE K ta ρ P) ∧ (a = false → AE K tb ρ P)) : AE K (tIf t ta tb) ρ P := fun σ H H1 s e Q q => h σ H H1 s e _ fun a k H' H2 g => by
  cases a with
  | true => exact (k.1 rfl) σ H' H2 (s.gr g) g.b Q fun b p v H3 H4 g2 => q b p v H3 H4 (g.trans g2)
  | false => exact (k.2 rfl) σ H' H2 (s.gr g) g.b Q fun b p v H3 H4 g2 => q b p v H3 H4 (g.trans g2)
theorem ae_chain {r r' : R2} {tc : TE} {P : Da → Prop} (h : AE K ta ρ fun x => AE K tb ρ fun y => RR K r x y fun z => ∃ k, z = .bool k ∧ (k = true → AE K tc ρ fun w => RR K r' y w P) ∧ (k = false → P (.bool false))) : AE K (tChain r r' ta tb tc) ρ P := fun σ H H1 s e Q q =>
  h σ H H1 s e _ fun x hx v H' H2 g dx => hx σ H' H2 (s.gr g) g.b _ fun y hy u H'' H3 g2 dy =>
    hy H'' H3 v u g2.b (dp_ex g2.a x dx) dy _ fun d ⟨k, ed, hk⟩ z H4 H5 g3 dz => by
      subst ed
      cases dz
      have g4 := (g.trans g2).trans (GrN.up g3 fun a ra => ((s.gr g).gr g2).rowAt ra)
      refine ⟨k, rfl, ?_⟩
      cases k with
      | false => exact q _ (hk.2 rfl) _ H4 H5 g4 (.bl _)
      | true =>
        refine (hk.1 rfl) σ H4 H5 (s.gr g4) g4.b _ fun w hw z' H6 H7 g5 dw => ?_
        exact hw H6 H7 u z' g5.b (dp_ex g5.a _ (dp_ex g3.a _ dy)) dw Q fun d p v2 H8 H9 g6 d2 => q d p v2 H8 H9 ((g4.trans g5).trans (GrN.up g6 fun a ra => ((s.gr g4).gr g5).rowAt ra)) d2
end

/-! ### isinstance -/
def tyName : Da → String
  | .none => "NoneType"
  | .bool _ => "bool"
  | .int _ => "int"
  | .str _ => "str"
  | .list _ => "list"
  | .tuple _ => "tuple"
  | .dict _ => "dict"
section
variable {K : Frg} {ρ : Rho} {te : TE} {H : Hp} {P : Da → Prop}
theorem tyx_of {v : V} {d : Da} (h : Dq K H v d) : TyX K H v (.type (tyName d)) := by
  cases h with
  | non => exact .base .non
  | bl b => exact .base (.bl b)
  | int i => exact .base (.int i)
  | str x => exact .base (.str x)
  | lst h _ => exact .base (.lst h)
  | tup h _ =>
    rcases h with (h | ⟨o, h⟩) | ⟨o, its, n, h, c, _⟩
    · exact .base (.tup h)
    · exact .fTuple h
    · exact .kTuple h c
  | dct h => exact .base (.dK h)
theorem ae_isi {n : String} (h : AE K te ρ fun d => ∃ b, kitB (tyName d) n = some b ∧ P (.bool b)) : AE K (tCB (rIsi K) (tCons te (tCons (tC (.ty n)) tNil))) ρ P := fun σ H H1 s e Q q =>
  h σ H H1 s e _ fun d ⟨b, eb, p⟩ v H' H2 g dx => ⟨v, .ty n, _, _, b, rfl, .ty n, tyx_of (dp_ex g.b d dx), kit_ty eb, q _ p _ H' H2 g (.bl _)⟩
theorem ae_isi2 {n m : String} (h : AE K te ρ fun d => ∃ b c, kitB (tyName d) n = some b ∧ kitB (tyName d) m = some c ∧ P (.bool (b || c))) : AE K (tCB (rIsiT K) (tCons te (tCons (tTup (tCons (tC (.ty n)) (tCons (tC (.ty m)) tNil))) tNil))) ρ P := fun σ H H1 s e Q q =>
  h σ H H1 s e _ fun d ⟨b, c, eb, ec, p⟩ v H' H2 g dx => ⟨by show 2 ≤ sizeLine; decide, fun a n' => by
    have f : Ex H2 (upd H2 a (.tup [.ty n, .ty m])) := Evl.Ex.new n'
    refine ⟨v, a, [.ty n, .ty m], _, [.type n, .type m], b || c, rfl, upd_same, .cons (.ty n) (.cons (.ty m) .nil), tyx_of (dp_ex (g.b.trans f) d dx), ?_, q _ p _ H' _ (g.trans (GrN.up (GrN.mk' g.b f) fun x rx => (s.gr g).rowAt rx)) (.bl _)⟩
    refine kitAny_cons (kit_ty eb) (fun e => ?_) (fun e => by rw [e]; rfl)
    rw [e]
    refine kitAny_cons (kit_ty ec) (fun e' => ?_) (fun e' => by rw [e']; rfl)
    rw [e']
    exact kitAny_nil⟩
end
end Ft

/-! part: FtD -/
set_option Elab.async false
set_option linter.all false
set_option maxRecDepth 100000
namespace Ft
open PySem L2

/-! ### comprehensions -/
def wipeR (ρ : Rho) : List Nat → Rho
  | [] => ρ
  | v :: vs => (wipeR ρ vs).set v .un
section
variable {K : Frg} {H H1 H' H2 : Hp} {σ σ' : L2.St} {ρ ρ' : Rho}
theorem Has.drop1 (h : Has K H H1 σ ρ) (i : Nat) : Has K H H1 (σ.set i none) (ρ.set i .un) where
  len := by rw [List.length_set, List.length_set, h.len]
  dat := fun j d e => by
    rcases set_get e with ⟨_, y, _⟩ | ⟨n, y⟩
    · cases y
    · rw [List.getElem?_set_ne fun z => n z.symm]
      exact h.dat j d y
  own := fun j d e => by
    rcases set_get e with ⟨_, y, _⟩ | ⟨n, y⟩
    · cases y
    · rw [List.getElem?_set_ne fun z => n z.symm]
      exact h.own j d y
  row := fun j e => by
    rcases set_get e with ⟨_, y, _⟩ | ⟨n, y⟩
    · cases y
    · rw [List.getElem?_set_ne fun z => n z.symm]
      exact h.row j y
  dis := fun a b c c' l ne ea eb ma mb sa sb => by
    rcases set_get ea with ⟨_, y, _⟩ | ⟨n, y⟩
    · subst y
      exact ma
    · rcases set_get eb with ⟨_, y', _⟩ | ⟨n', y'⟩
      · subst y'
        exact mb
      · rw [List.getElem?_set_ne fun z => n z.symm] at sa
        rw [List.getElem?_set_ne fun z => n' z.symm] at sb
        exact h.dis a b c c' l ne y y' ma mb sa sb
  hal := fun j m C fs e => by
    rcases set_get e with ⟨_, y, _⟩ | ⟨n, y⟩
    · cases y
    · rw [List.getElem?_set_ne fun z => n z.symm]
      exact h.hal j m C fs y
theorem Has.wipe (h : Has K H H1 σ ρ) : ∀ vs : List Nat, Has K H H1 (L2.wipe σ vs) (wipeR ρ vs)
  | [] => h
  | v :: vs => (Has.wipe h vs).drop1 v
theorem wipeR_row : ∀ {vs : List Nat} {i : Nat}, (wipeR ρ vs)[i]? = some .row → ρ[i]? = some .row
  | [], i, h => h
  | v :: vs, i, h => by
    rcases set_get (show ((wipeR ρ vs).set v .un)[i]? = some .row from h) with ⟨_, y, _⟩ | ⟨_, y⟩
    · cases y
    · exact wipeR_row y
theorem wipe_set : ∀ (vs : List Nat) (j : Nat), (L2.wipe σ vs)[j]? = if j ∈ vs then (σ[j]?).map (fun _ => none) else σ[j]?
  | [], j => by simp [L2.wipe]
  | v :: vs, j => by
    have ih := wipe_set vs j
    show ((L2.wipe σ vs).set v none)[j]? = _
    by_cases z : v = j
    · subst z
      rw [List.getElem?_set, if_pos rfl, if_pos (List.mem_cons_self), L2.wipe_length]
      by_cases w : v < σ.length
      · rw [if_pos w, List.getElem?_eq_getElem w]
        rfl
      · rw [if_neg w, List.getElem?_eq_none (by omega)]
        rfl
    · rw [List.getElem?_set_ne z, ih]
      by_cases w : j ∈ vs
      · rw [if_pos w, if_pos (List.mem_cons_of_mem _ w)]
      · rw [if_neg w, if_neg (by simp only [List.mem_cons, not_or]; exact ⟨fun q => z q.symm, w⟩)]
theorem wipe_eq {vs : List Nat} (hl : σ'.length = σ.length) (h : ∀ (j : Nat), j ∉ vs → σ'[j]? = σ[j]?) : L2.wipe σ' vs = L2.wipe σ vs := by
  refine List.ext_getElem? fun j => ?_
  rw [wipe_set, wipe_set]
  by_cases w : j ∈ vs
  · rw [if_pos w, if_pos w]
    by_cases z : j < σ.length
    · rw [List.getElem?_eq_getElem z, List.getElem?_eq_getElem (by omega : j < σ'.length)]
      rfl
    · rw [List.getElem?_eq_none (by omega), List.getElem?_eq_none (by omega)]
  · rw [if_neg w, if_neg w, h j w]
theorem Gr.wr {R : Addr → Prop} {p : Addr} {o : HO} (g : Gr K R H H1 H' H2) (n1 : H1 p = none) (n' : H' p = none) (nr : ¬ R p) : Gr K R H H1 H' (upd H2 p o) where
  a := g.a
  b := fun x u e => by rw [upd_ne (ne_of_none e n')]; exact g.b x u e
  c := fun x u r e => by rw [upd_ne (ne_of_none e n1)]; exact g.c x u r e
  d := g.d
  e := fun x r => (g.e x r).keep (Evl.Ex.refl _) (g.e x r).1 fun u w => by
    rw [upd_ne fun z => nr (by rw [← z]; exact r)]
    exact w
end
/-- the items one by one: the target, the test, the element -/
def CompD (K : Frg) (g : TG) (is : List Nat) (tt : TT) (te : TE) (ρ : Rho) : List Da → (List Da → Prop) → Prop
  | [], P => P []
  | d :: ds, P => ∃ ρ1, AT K g is ρ d ρ1 ∧ AB K tt ρ1 fun b => (b = true → AE K te ρ1 fun e => CompD K g is tt te ρ ds fun es => P (e :: es)) ∧ (b = false → CompD K g is tt te ρ ds P)
section
variable {K : Frg} {ρ : Rho} {g : TG} {is vs : List Nat} {tt : TT} {te : TE} {wi : TI}
theorem CompD.imp : ∀ {ds : List Da} {P P' : List Da → Prop}, CompD K g is tt te ρ ds P → (∀ es, P es → P' es) → CompD K g is tt te ρ ds P'
  | [], P, P', h, i => i _ h
  | d :: ds, P, P', ⟨ρ1, a, b⟩, i => ⟨ρ1, a, b.imp fun k z => ⟨fun e => (z.1 e).imp fun x w => CompD.imp w fun es p => i _ p, fun e => CompD.imp (z.2 e) i⟩⟩
/-- each item's test and element known -/
theorem comp_fm {α : Type} (enc : α → Da) (f : α → Bool) (v : α → Da) {P : List Da → Prop} : ∀ (xs : List α), (∀ x ∈ xs, ∃ ρ1, AT K g is ρ (enc x) ρ1 ∧ AB K tt ρ1 (fun b => b = f x) ∧ (f x = true → AE K te ρ1 fun d => d = v x)) → P ((xs.filter f).map v) → CompD K g is tt te ρ (xs.map enc) P
  | [], h, p => p
  | x :: xs, h, p => by
    obtain ⟨ρ1, a, b, c⟩ := h x List.mem_cons_self
    have ih := fun (P : List Da → Prop) (p : P ((xs.filter f).map v)) => comp_fm enc f v (P := P) xs (fun y hy => h y (List.mem_cons_of_mem _ hy)) p
    refine ⟨ρ1, a, b.imp fun k ek => ⟨fun e => ?_, fun e => ?_⟩⟩
    · have fx : f x = true := ek.symm.trans e
      refine (c fx).imp fun d ed => ?_
      subst ed
      refine ih _ ?_
      rw [List.filter_cons, if_pos fx] at p
      exact p
    · have fx : f x = false := ek.symm.trans e
      refine ih _ ?_
      rw [List.filter_cons, if_neg (by rw [fx]; exact Bool.false_ne_true)] at p
      exact p
theorem af_lc {P : List Da → Prop} (h : AI K wi ρ fun ds => ds.length ≤ 100000 ∧ CompD K g is tt te (wipeR ρ vs) ds P) (his : ∀ j ∈ is, j ∈ vs) : AF K (tLc wi g tt te vs) ρ P := fun σ H H1 s e Q q =>
  h σ H H1 s e _ fun ds ⟨hz, c⟩ J H' H2 gr y => by
    intro L hL
    have n1 : H1 L = none := gr.old hL
    have n' : H' L = none := Evl.fresh_back gr.b hL
    have nR : ¬ Rows σ ρ L := fun r => by
      obtain ⟨_, _, _, _, _, _, y, _⟩ := s.rowAt r
      rw [n1] at y
      cases y
    refine ⟨fun i m H3 => m = ds.length - i ∧ i ≤ ds.length ∧ ∃ Hk acc es, Gr K (Rows σ ρ) H H1 Hk H3 ∧ Ex H' Hk ∧ Hk L = none ∧ H3 L = some (.lst acc) ∧ DqAll K Hk acc es ∧ es.length ≤ i ∧ CompD K g is tt te (wipeR ρ vs) (ds.drop i) (fun fs => P (es ++ fs)),
      ⟨ds.length, by simp, Nat.zero_le _, H', [], [], gr.wr n1 n' nR, Evl.Ex.refl _, n', upd_same, .nil, Nat.le_refl _, c⟩, ?_⟩
    rintro i m H3 ⟨rfl, hi, Hk, acc, es, g1, ek, nk, hL3, dacc, hes, cd⟩
    obtain ⟨yg, ys⟩ := y i Hk H3 ek g1.b
    by_cases hlt : i < ds.length
    · right
      have ei : ds[i]? = some ds[i] := by simp [hlt]
      obtain ⟨go, yl⟩ := yg _ ei
      rw [List.drop_eq_getElem_cons hlt] at cd
      obtain ⟨ρ1, a, b⟩ := cd
      refine ⟨go, fun H5 => ∃ Hk acc es, Gr K (Rows σ ρ) H H1 Hk H5 ∧ Ex H' Hk ∧ Hk L = none ∧ H5 L = some (.lst acc) ∧ DqAll K Hk acc es ∧ es.length ≤ i + 1 ∧ CompD K g is tt te (wipeR ρ vs) (ds.drop (i + 1)) (fun fs => P (es ++ fs)), fun H5 z => ⟨ds.length - (i + 1), by omega, rfl, by omega, z⟩, fun x H4 yy => ?_⟩
      obtain ⟨Hk', gn, dx⟩ := yl x H4 yy
      have s1 := s.gr g1
      have g2 := g1.trans (GrN.up gn fun b rb => s1.rowAt rb)
      have nk2 : Hk' L = none := gn.d L _ hL3 nk
      have hL4 : H4 L = some (.lst acc) := gn.c L _ (fun z => z) hL3
      refine a.run (L2.wipe σ vs) Hk' H4 x _ ((s.gr g2).wipe vs) gn.b dx fun σ2 h2 k => ⟨?_, ?_⟩
      · have e1 : L2.wipe σ2 vs = L2.wipe (L2.wipe σ vs) vs := wipe_eq (by rw [h2.len, a.len, ← ((s.gr g2).wipe vs).len]) fun j hj => k j fun z => hj (his j z)
        rw [e1]
        exact wipe_eq (L2.wipe_length σ vs) fun j hj => by rw [wipe_set, if_neg hj]
      · have sub : ∀ x, Rows σ2 ρ1 x → Rows σ ρ x := fun x ⟨j, e1, e2⟩ => by
          have z : j ∉ is := fun z => a.imm j z _ e1 True.intro
          rw [a.out j z] at e1
          rw [k j z] at e2
          exact ⟨j, wipeR_row e1, (L2.wipe_some e2).1⟩
        refine b σ2 Hk' H4 h2 gn.b _ fun bb kb H5 H6 g3 => ?_
        have g4 := g2.trans (Gr.up g3 sub fun x rx => (s.gr g2).rowAt rx)
        have hL6 : H6 L = some (.lst acc) := g3.c L _ (fun z => nR (sub L z)) hL4
        have nk5 : H5 L = none := g3.d L _ hL4 nk2
        have da5 : DqAll K H5 acc es := dps_ex g3.a _ (dps_ex gn.a _ dacc)
        cases bb with
        | false => exact ⟨H5, acc, es, g4, (ek.trans gn.a).trans g3.a, nk5, hL6, da5, by omega, kb.2 rfl⟩
        | true =>
          refine (kb.1 rfl) σ2 H5 H6 (h2.gr g3) g3.b _ fun d kd v H7 H8 g5 dv => ?_
          have g6 := g4.trans (Gr.up g5 sub fun x rx => (s.gr g4).rowAt rx)
          have hL8 : H8 L = some (.lst acc) := g5.c L _ (fun z => nR (sub L z)) hL6
          have nk7 : H7 L = none := g5.d L _ hL6 nk5
          have la : acc.length ≤ i := by rw [dps_len da5]; exact hes
          refine ⟨acc, hL8, Nat.lt_of_lt_of_le (by omega : acc.length < 1000000) (by decide), H7, acc ++ [v], es ++ [d], g6.wr n1 nk7 nR, ((ek.trans gn.a).trans g3.a).trans g5.a, nk7, upd_same, dps_app (dps_ex g5.a _ da5) (dps_one dv), by rw [List.length_append]; simp; omega, ?_⟩
          refine kd.imp fun fs p => ?_
          rw [List.append_assoc]
          exact p
    · left
      have e2 : i = ds.length := by omega
      subst e2
      rw [List.drop_length] at cd
      have p : P (es ++ []) := cd
      rw [List.append_nil] at p
      exact ⟨ys rfl, q es p L acc Hk H3 g1 n1 nk hL3 dacc⟩
end

/-! ### what is gone over -/
section
variable {K : Frg} {ρ : Rho} {tl : TE} {ta : TA} {P : List Da → Prop}
theorem yld_walk {J : It} {G : Hp → Prop} {xs : List V} {H' : Hp} {ds : List Da} (w : Walk J xs.length G (YAt xs)) (hG : ∀ H, Ex H' H → G H) (dx : DqAll K H' xs ds) : Yld K J H' ds := fun i Hk H3 e1 e2 => by
  have hl := dps_len dx
  have gg := hG H3 (e1.trans e2)
  refine ⟨fun d ed => ?_, fun ed => ?_⟩
  · have hi : i < xs.length := by rw [hl]; exact (List.getElem?_eq_some_iff.mp ed).1
    refine ⟨w.goes i H3 hi gg, fun x H4 yy => ?_⟩
    obtain ⟨eh, ex⟩ := w.yields i H3 x H4 hi gg yy
    subst eh
    obtain ⟨v, ev, dv⟩ := dps_get dx ed
    rw [ex] at ev
    cases ev
    exact ⟨Hk, GrN.rf e2, dp_ex e1 d dv⟩
  · subst ed
    rw [← hl]
    exact w.stops H3 gg
theorem ai_tup (h : AE K tl ρ fun d => ∃ ds, d = .tuple ds ∧ P ds) : AI K (iTup K tl) ρ P := fun σ H H1 s e R q => h σ H H1 s e _ fun d ⟨ds, ed, p⟩ v H' H2 g dx => by
  subst ed
  cases dx with
  | tup t x => exact ⟨_, rfl, ⟨_, Evl.ex_t g.b t⟩, q ds p _ H' H2 g (yld_walk walk_tup (fun H3 e3 => Evl.ex_t e3 t) x)⟩
theorem ai_lst (h : AE K tl ρ fun d => ∃ ds, d = .list ds ∧ P ds) : AI K (iList K tl) ρ P := fun σ H H1 s e R q => h σ H H1 s e _ fun d ⟨ds, ed, p⟩ v H' H2 g dx => by
  subst ed
  cases dx with
  | lst t x => exact ⟨_, rfl, ⟨_, SqL.of (g.b _ _ t)⟩, q ds p _ H' H2 g (yld_walk walk_list (fun H3 e3 => SqL.of (e3 _ _ t)) x)⟩
/-- over a list or a tuple -/
def iSeq (K : Frg) (tl : TE) : TI := fun σ H R => iList K tl σ H R ∨ iTup K tl σ H R
theorem pi_seq {X : Cx} {tg l : Expr} (hl : PE X l tl) : PI X tg l (iSeq X.K tl) := ⟨fun pins s σ H R I h => h.elim ((pi_list hl).run pins s σ H R I) ((pi_tup hl).run pins s σ H R I)⟩
theorem ai_seqT (h : AE K tl ρ fun d => ∃ ds, d = .tuple ds ∧ P ds) : AI K (iSeq K tl) ρ P := fun σ H H1 s e R q => .inr (ai_tup h σ H H1 s e R q)
theorem ai_seqL (h : AE K tl ρ fun d => ∃ ds, d = .list ds ∧ P ds) : AI K (iSeq K tl) ρ P := fun σ H H1 s e R q => .inl (ai_lst h σ H H1 s e R q)
theorem yld_rng {lo : Int} {n : Nat} {H' : Hp} : Yld K (Itr lo n) H' ((List.range n).map fun (i : Nat) => .int (lo + (i : Int))) := fun i Hk H3 e1 e2 => by
  refine ⟨fun d ed => ?_, fun ed => ?_⟩
  · have hi : i < n := by simpa using (List.getElem?_eq_some_iff.mp ed).1
    refine ⟨hi, fun x H4 yy => ?_⟩
    obtain ⟨eh, ex⟩ := yy
    subst eh ex
    rw [List.getElem?_map, List.getElem?_range hi] at ed
    cases ed
    exact ⟨Hk, GrN.rf e2, .int _⟩
  · show n ≤ i
    rw [ed]
    simp
theorem ai_rng1 (h : AA K ta ρ fun vs => ∃ j : Int, vs = [.int j] ∧ (-(2 ^ 62) ≤ j ∧ j < 2 ^ 62) ∧ P ((List.range j.toNat).map fun (i : Nat) => .int (i : Int))) : AI K (iRng1 ta) ρ P := fun σ H H1 s e R q => h σ H H1 s e _ fun ds ⟨j, ed, b, p⟩ vs H' H2 g dx => by
  subst ed
  cases dx with
  | cons a r =>
    cases r
    cases a
    have p' : P ((List.range j.toNat).map fun (i : Nat) => .int (0 + (i : Int))) := by
      simp only [Int.zero_add]
      exact p
    exact ⟨j, rfl, b.1, b.2, q _ p' _ H' H2 g yld_rng⟩
theorem ai_rng2 (h : AA K ta ρ fun vs => ∃ i j : Int, vs = [.int i, .int j] ∧ (-(2 ^ 62) ≤ i ∧ i < 2 ^ 62 ∧ -(2 ^ 62) ≤ j ∧ j < 2 ^ 62) ∧ P ((List.range (j - i).toNat).map fun (k : Nat) => .int (i + (k : Int)))) : AI K (iRng2 ta) ρ P := fun σ H H1 s e R q => h σ H H1 s e _ fun ds ⟨i, j, ed, b, p⟩ vs H' H2 g dx => by
  subst ed
  cases dx with
  | cons a r =>
    cases r with
    | cons a' r' =>
      cases r'
      cases a
      cases a'
      exact ⟨i, j, rfl, b, q _ p _ H' H2 g yld_rng⟩
theorem yld_pair {J : It} {n : Nat} {xs ys : List V} {H' : Hp} {ds es : List Da} (G : Hp → Prop) (hG : ∀ H, Ex H' H → G H)
    (go : ∀ i H, G H → i < xs.length → i < ys.length → J.go i H) (st : ∀ i H, G H → (xs.length ≤ i ∨ ys.length ≤ i) → J.stop i H)
    (yl : ∀ i H v H4, G H → J.yld i H v H4 → ∃ T x y, v = V.ref T ∧ H T = none ∧ H4 = upd H T (.tup [x, y]) ∧ xs[i]? = some x ∧ ys[i]? = some y) (dx : DqAll K H' xs ds) (dy : DqAll K H' ys es) :
    Yld K J H' (List.zipWith (fun x y => .tuple [x, y]) ds es) := fun i Hk H3 e1 e2 => by
  have hl := dps_len dx
  have hm := dps_len dy
  have gg := hG H3 (e1.trans e2)
  refine ⟨fun d ed => ?_, fun ed => ?_⟩
  · have hi := (List.getElem?_eq_some_iff.mp ed).1
    rw [List.length_zipWith] at hi
    refine ⟨go i H3 gg (by omega) (by omega), fun v H4 yy => ?_⟩
    obtain ⟨T, x, y, ev, hT, eh, ex, ey⟩ := yl i H3 v H4 gg yy
    subst ev eh
    rw [List.getElem?_zipWith] at ed
    have h1 : i < ds.length := by omega
    have h2 : i < es.length := by omega
    rw [List.getElem?_eq_getElem h1, List.getElem?_eq_getElem h2] at ed
    cases ed
    obtain ⟨v1, ev1, dv1⟩ := dps_get dx (List.getElem?_eq_getElem h1)
    obtain ⟨v2, ev2, dv2⟩ := dps_get dy (List.getElem?_eq_getElem h2)
    rw [ex] at ev1
    rw [ey] at ev2
    cases ev1
    cases ev2
    have g : GrN K Hk H3 (upd Hk T (.tup [x, y])) (upd H3 T (.tup [x, y])) := GrN.new e2 hT
    exact ⟨_, g, .tup (SqT.of upd_same) (.cons (dp_ex (e1.trans g.a) _ dv1) (.cons (dp_ex (e1.trans g.a) _ dv2) .nil))⟩
  · rw [List.length_zipWith] at ed
    exact st i H3 gg (by omega)
theorem sqt_inj {H : Hp} {a : Addr} {xs ys : List V} (h : SqT K H a xs) (h' : SqT K H a ys) (ht : H a = some (.tup xs)) : H a = some (.tup xs) := ht
theorem ai_zip (h : AA K ta ρ fun vs => ∃ ds es, vs = [.tuple ds, .tuple es] ∧ P (List.zipWith (fun x y => .tuple [x, y]) ds es)) : AI K (RZ.iZipA K ta) ρ P := fun σ H H1 s e R q => h σ H H1 s e _ fun vs ⟨ds, es, ed, p⟩ us H' H2 g dx => by
  subst ed
  cases dx with
  | cons a r =>
    cases r with
    | cons a' r' =>
      cases r'
      cases a with
      | @tup a xs _ t x =>
        cases a' with
        | @tup b ys _ t' x' =>
          refine ⟨a, b, xs, ys, rfl, .inr ⟨Evl.ex_t g.b t, Evl.ex_t g.b t', q _ p _ H' H2 g ?_⟩⟩
          refine yld_pair (n := 0) (fun H => SqT K H a xs ∧ SqT K H b ys) (fun H e => ⟨Evl.ex_t e t, Evl.ex_t e t'⟩) (fun i H gg h1 h2 => ⟨xs, ys, xs[i], ys[i], gg.1, gg.2, by simp [h1], by simp [h2]⟩)
            (fun i H gg hh => ⟨xs, ys, gg.1, gg.2, hh⟩) (fun i H v H4 gg yy => ?_) x x'
          obtain ⟨T, x0, y0, ev, hT, eh, e1, e2⟩ := yy
          exact ⟨T, x0, y0, ev, hT, eh, e1 _ gg.1, e2 _ gg.2⟩
/-! ### slices -/
def rSlQ (K : Frg) : V → Option Int → Option Int → Hp → VK → Prop := fun x lo hi H Q => rSlA K x lo hi H Q ∨ rSlL K x lo hi H Q
theorem sl_any {X : Cx} : SlR X (rSlQ X.K) := sl_tupA.or sl_list
def AO (K : Frg) (to : TO) (ρ : Rho) (P : Option Int → Prop) : Prop := ∀ σ H H1, Has K H H1 σ ρ → Ex H H1 → ∀ Q : Option Int → Hp → Prop, (∀ d, P d → ∀ H' H2, Gr K (Rows σ ρ) H H1 H' H2 → Q d H2) → to σ H1 Q
theorem ao_none {P : Option Int → Prop} (p : P none) : AO K tNoPart ρ P := fun σ H H1 s e Q q => q none p H H1 (Gr.refl e fun _ => s.rowAt)
theorem ao_some {P : Option Int → Prop} (h : AE K tl ρ fun d => ∃ i, d = .int i ∧ P (some i)) : AO K (tPart tl) ρ P := fun σ H H1 s e Q q => h σ H H1 s e _ fun d ⟨i, ed, p⟩ v H' H2 g dx => by
  subst ed
  cases dx
  exact ⟨i, rfl, q _ p H' H2 g⟩
def cutD (ds : List Da) (i j : Option Int) : List Da := (ds.drop (HT.sIx ds.length 0 i)).take (HT.sIx ds.length ds.length j - HT.sIx ds.length 0 i)
theorem ae_slT {tl' : TE} {ta tb : TO} {P : Da → Prop} (h : AE K tl' ρ fun d => ∃ ds, d = .tuple ds ∧ AO K ta ρ fun i => AO K tb ρ fun j => P (.tuple (cutD ds i j))) : AE K (tSl (rSlQ K) tl' ta tb) ρ P := fun σ H H1 s e Q q =>
  h σ H H1 s e _ fun d ⟨ds, ed, ha⟩ v H' H2 g dx => ha σ H' H2 (s.gr g) g.b _ fun i hb H3 H4 g2 => hb σ H3 H4 ((s.gr g).gr g2) g2.b _ fun j p H5 H6 g3 => by
    subst ed
    have g4 := (g.trans g2).trans g3
    cases dp_ex (g2.a.trans g3.a) _ dx with
    | @tup a xs _ t x =>
      refine .inl ⟨a, xs, rfl, Evl.ex_t g3.b t, fun hw => ?_, fun _ l n => ?_⟩
      · have e1 : cutD ds i j = ds := by
          unfold cutD
          rw [← dps_len x, hw.1, hw.2, List.drop_zero, Nat.sub_zero, dps_len x, List.take_length]
        have p : P (.tuple (cutD ds i j)) := p
        rw [e1] at p
        exact q _ p _ H5 H6 g4 (.tup t x)
      · have g5 : GrN K H5 H6 (upd H5 l (.tup (cutV xs i j))) (upd H6 l (.tup (cutV xs i j))) := GrN.new g3.b n
        exact q _ p _ _ _ (g4.trans (GrN.up g5 fun b rb => (s.gr g4).rowAt rb)) (.tup (SqT.of upd_same) (dps_ex g5.a _ (dps_cut x i j)))
theorem af_slL {tl' : TE} {ta tb : TO} {P : List Da → Prop} (h : AE K tl' ρ fun d => ∃ ds, d = .list ds ∧ AO K ta ρ fun i => AO K tb ρ fun j => P (cutD ds i j)) : AF K (tSl (rSlQ K) tl' ta tb) ρ P := fun σ H H1 s e Q q =>
  h σ H H1 s e _ fun d ⟨ds, ed, ha⟩ v H' H2 g dx => ha σ H' H2 (s.gr g) g.b _ fun i hb H3 H4 g2 => hb σ H3 H4 ((s.gr g).gr g2) g2.b _ fun j p H5 H6 g3 => by
    subst ed
    have g4 := (g.trans g2).trans g3
    cases dp_ex (g2.a.trans g3.a) _ dx with
    | @lst a xs _ t x =>
      refine .inr ⟨a, xs, rfl, SqL.of (g3.b _ _ t), fun l n => ?_⟩
      exact q _ p l _ H5 _ (g4.trans (GrN.up (GrN.fresh g3.b n) fun b rb => (s.gr g4).rowAt rb)) (g4.old n) (Evl.fresh_back g3.b n) upd_same (dps_cut x i j)
/-! ### a list repeated -/
theorem af_rep {t : TA} {tb : TE} {P : List Da → Prop} (h : AA K t ρ fun ds => ds.length = 1 ∧ AE K tb ρ fun k => ∃ j : Int, k = .int j ∧ (0 ≤ j ∧ j ≤ 100000) ∧ P (List.replicate j.toNat (ds.getD 0 .none))) : AF K (tOp rRep (tLst t) tb) ρ P := fun σ H H1 s e Q q =>
  h σ H H1 s e _ fun ds ⟨hl, hb⟩ vs H' H2 g dx => ⟨by rw [dps_len dx, hl]; decide, fun a n => by
    have f : Ex H2 (upd H2 a (.lst vs)) := Evl.Ex.new n
    have g2 := g.trans (GrN.up (GrN.mk' g.b f) fun b rb => (s.gr g).rowAt rb)
    have na : H' a = none := Evl.fresh_back g.b n
    refine hb σ H' _ (s.gr g2) g2.b _ fun k ⟨j, ek, bj, p⟩ u H3 H4 g3 dk => ?_
    subst ek
    cases dk
    have n1 : ¬ Rows σ ρ a := fun r => by
      obtain ⟨_, _, _, _, _, _, y, _⟩ := (s.gr g).rowAt r
      rw [n] at y
      cases y
    have ha : H4 a = some (.lst vs) := g3.c a _ n1 upd_same
    match ds, vs, hl, dx with
    | [d], [v], _, .cons dv .nil =>
      refine ⟨a, j, [v], rfl, rfl, ha, by omega, by omega, ?_, fun l nl => ?_⟩
      · refine Nat.le_trans (?_ : [v].length * j.toNat ≤ 100000) (by decide)
        rw [List.length_singleton]
        omega
      · have er : (List.replicate j.toNat [v]).flatten = List.replicate j.toNat v := by
          generalize j.toNat = m
          induction m with
          | zero => rfl
          | succ m ih =>
            rw [List.replicate_succ, List.flatten_cons, ih]
            rfl
        rw [er]
        have g4 := g2.trans g3
        exact q _ p l _ H3 _ (g4.trans (GrN.up (GrN.fresh g3.b nl) fun b rb => (s.gr g4).rowAt rb)) (g4.old nl) (Evl.fresh_back g3.b nl) upd_same (dps_rep (dp_ex g3.a _ dv) _)⟩
end
end Ft

/-! part: FtE -/
set_option Elab.async false
set_option linter.all false
set_option maxRecDepth 100000
namespace Ft
open PySem L2
/-! ### enumerate of a tuple -/
set_option maxHeartbeats 1000000 in
theorem enum_new1 {v : Value} {ob : Obj} {G : Heap → Prop} (B : Begins v ob G) :
    Meets (Builtin.«enumerate.__new__» ⟨[.type "enumerate", v], []⟩) (fun _ R z => G z.heap ∧
      R (.ok (.ret (.ref (z.heap.push ob).objs.size))) { z with heap := (z.heap.push ob).push { cls := .type "enumerate", data := .fields #[.none, .bool false, .ref z.heap.objs.size, rawInt 0, .none, .none] } }) :=
  .of_wp fun prog w A R z hz => by
    obtain ⟨h0, g0, d0, t0, o0⟩ := z; obtain ⟨hG, hR⟩ := hz
    have isEnum := sub_enumerate
    have start : ∀ {A' : Around} {E : Value → Shared → Prop} {Q : Value → Shared → Prop}, Q (.ref h0.objs.size) ⟨h0.push ob, g0, d0, t0, o0⟩ → wpAny (model prog w) A' (pyIter v) Q E ⟨h0, g0, d0, t0, o0⟩ :=
      fun k => B.iter prog w _ _ ⟨h0, g0, d0, t0, o0⟩ _ hG k
    wp_walk using start
    refine wpAny_stack_any fun _ => wpAny_pure ?_
    split
    · rename_i cc _ _ _ _ _
      cases (cc == Value.type "enumerate") <;> (wp_walk using start; exact ⟨_, rfl, hR⟩)
    · wp_walk using start
      exact ⟨_, rfl, hR⟩
section
variable {prog : Program} {w : World} {A : Around} {E : Value → Shared → Prop} {s : Shared}
theorem enum_call1 {v : Value} {ob : Obj} {G : Heap → Prop} {Q : Value → Shared → Prop} (B : Begins v ob G) (hG : G s.heap)
    (k : ∀ h', IsEnum h' (s.heap.objs.size + 1) s.heap.objs.size 0 .none → h'.get? s.heap.objs.size = some ob → (∀ b u, s.heap.get? b = some u → h'.get? b = some u) → Q (.ref (s.heap.objs.size + 1)) { s with heap := h' }) :
    wpAny (model prog w) A (call (.type "enumerate") [v]) Q E s := by
  refine callType_new F.called_enumerate (by decide) (F.typeCall_enumerate_1 _) (F.newCall_enumerate_1 _) (fun z => F.args_object_init_2 z _) F.entry_enumerate_new (enum_new1 B) ⟨hG, ?_⟩
  have sz : (s.heap.push ob).objs.size = s.heap.objs.size + 1 := Heap.size_push ..
  show _ ∧ _
  rw [sz]
  have en : IsEnum ((s.heap.push ob).push { cls := .type "enumerate", data := .fields #[.none, .bool false, .ref s.heap.objs.size, rawInt 0, .none, .none] }) (s.heap.objs.size + 1) s.heap.objs.size 0 .none := by
    have y := Heap.get?_push_size (s.heap.push ob) (o := { cls := .type "enumerate", data := .fields #[.none, .bool false, .ref s.heap.objs.size, rawInt 0, .none, .none] }) rfl
    rw [sz] at y
    exact y
  exact ⟨⟨_, en, rfl⟩, k _ en (Heap.get?_push_of_some _ (Heap.get?_push_size _ B.free)) fun b u x => Heap.get?_push_of_some _ (Heap.get?_push_of_some _ x)⟩
end
/-- the tuple at a as it stands at each turn, its places counted -/
def IteT (K : Frg) (a : Addr) : It where
  go := fun i H => ∃ (xs : List V) (x : V), SqT K H a xs ∧ xs[i]? = some x
  yld := fun i H v H' => ∃ T x, v = .ref T ∧ H T = none ∧ H' = upd H T (.tup [.int (i : Nat), x]) ∧ ∀ xs, SqT K H a xs → xs[i]? = some x
  stop := fun i H => ∃ xs : List V, SqT K H a xs ∧ xs.length ≤ i
theorem turn_enumT {P : Program} {w : World} {K : Frg} {elts : List Expr} {kk : Nat} {tpos : Pos} (a e it : Addr) :
    Turn P w K (.Tuple elts kk tpos) (IteT K a) [e, it] e (fun i h => (∃ old, IsEnum h e it ((i : Nat) : Int) old) ∧ h.IsTupleIter it a i ∧ e ≠ it) where
  mem := List.mem_cons_self
  obj := fun i h ⟨⟨old, he⟩, ⟨o, ho, _, hd⟩, _⟩ b hb => by
    rcases (by simpa using hb : b = e ∨ b = it) with z | z
    · subst z
      exact ⟨_, he, fun v q => nomatch q⟩
    · subst z
      exact ⟨o, ho, fun v q => by rw [hd] at q; cases q⟩
  keep := fun i h h' ⟨⟨old, he⟩, hi, hne⟩ k => ⟨⟨old, k e List.mem_cons_self _ he⟩, hi.at fun o q => k it (List.mem_cons_of_mem _ List.mem_cons_self) o q, hne⟩
  item := by
    intro X hP hw hK hc i pins s σ H E I hf ⟨⟨old, he⟩, hit, hne⟩ ⟨xs, x, hq, hx⟩
    subst hP hw hK
    obtain ⟨its, rv, p, _⟩ := I.tuple hq
    obtain ⟨u, hu, ru⟩ := rv.get hx
    have le : e < s.heap.objs.size := Heap.lt_size he
    have li : it < s.heap.objs.size := let ⟨_, q, _⟩ := hit; Heap.lt_size q
    have nt : a ≠ it := fun z => by
      subst z
      obtain ⟨o, ho, hcl, _⟩ := hit
      obtain ⟨o', ho', hcl', _⟩ := p
      rw [ho] at ho'
      cases ho'
      rw [hcl] at hcl'
      exact absurd (Value.type.inj hcl') (by decide)
    have na : e ≠ a := fun z => by
      subst z
      obtain ⟨o', ho', hcl', _⟩ := p
      rw [he] at ho'
      cases ho'
      exact absurd (Value.type.inj hcl') (by decide)
    have D := Draws.tuple (prog := X.prog) (w := X.w) (A := X.A.in1) (I.ok.hd hc) it a nt its.toArray
    have hlt : i < its.toArray.size := by
      have := (List.getElem?_eq_some_iff.mp hu).1
      simpa using this
    refine wpAny_pyNext_enum_itemC D he ⟨hit, p⟩ hlt hne (by simp [hne, na]) fun y h' tk ey ho st' hT hsz hk => ?_
    have eu : y = u := by
      have e1 : its.toArray[i]? = some u := by simpa using hu
      exact Option.some.inj (ey.symm.trans e1)
    subst eu
    refine ⟨_, rfl, wpAny_letOwnedTupleGo_enum (s := { s with heap := h', toks := tk + 1 }) ho fun h'' he' sb => ?_⟩
    have hT2 := (sb.2 _ (Nat.ne_of_gt le)).trans hT
    have new : ObjOk X.prog X.w (upd H s.heap.objs.size (.tup [.int (i : Nat), x])) h'' s.heap.objs.size (.tup [.int (i : Nat), x]) :=
      ⟨by show 2 ≤ sizeLine; decide, _, .cons ⟨_, rfl⟩ (.cons ru .nil), ⟨_, hT2, rfl, _, rfl⟩⟩
    have I1 : Inv X pins σ (upd H s.heap.objs.size (.tup [.int (i : Nat), x])) { s with heap := h'', toks := tk + 1 } :=
      I.turnedNew (ch := [e, it]) (fun b ob hb q => (sb.2 b fun z => hb (by simp [z])).trans (hk b ob (fun z => hb (by simp [z])) (fun z => hb (by simp [z])) q)) hf (Nat.le_refl _) new
    refine ⟨.ref s.heap.objs.size, _, I1, rfl, ⟨_, x, rfl, I.hok.fresh (Nat.le_refl _), rfl, fun ys hy => by rw [I.tuple_inj hy hq]; exact hx⟩, ⟨⟨y, ?_⟩, st'.1.at fun o q => (sb.2 it (Ne.symm hne)).trans q, hne⟩, fun b hb => ?_⟩
    · have e1 : ((i + 1 : Nat) : Int) = (i : Int) + 1 := by omega
      rw [e1]
      exact he'
    · have lb : b < s.heap.objs.size := by
        rcases (by simpa using hb : b = e ∨ b = it) with z | z <;> (rw [z]; assumption)
      rw [upd_ne (Nat.ne_of_lt lb)]
      exact (hf b hb).1
  done := by
    intro X hP hw hK hc i pins s σ H E I hf ⟨⟨old, he⟩, hit, hne⟩ ⟨xs, hq, hx⟩
    subst hP hw hK
    obtain ⟨its, rv, p, _⟩ := I.tuple hq
    obtain ⟨f0, f1, f2, f3, f4, f5⟩ := hf it (List.mem_cons_of_mem _ List.mem_cons_self)
    have ll := rv.length
    refine enum_end (I.ok.hd hc) he hit p (by simp; omega) fun h' eb => ⟨rfl, I.turned (t' := s.toks) (fun b o hb q => eb b o hb q) f0 f1 f3 f4 f5⟩
  self := fun A i s Q E ⟨⟨_, he⟩, _⟩ h => wpAny_pyIter_enum he h
where
  enum_end {prog : Program} {w : World} {A : Around} {E : Value → Shared → Prop} {s : Shared} {e it a : Addr} {i : Nat} {items : Array Value} {old : Value} {Q : Option Value → Shared → Prop} (hh : A.handled = none)
      (he : IsEnum s.heap e it ((i : Nat) : Int) old) (hit : s.heap.IsTupleIter it a i) (p : s.heap.IsTuple a items) (hle : items.size ≤ i) (hQ : ∀ h', Heap.ExtBut it s.heap h' → Q none { s with heap := h' }) : wpAny (model prog w) A (pyNext (.ref e)) Q E s := by
    have D : Draws prog w A.in1 it [it, a] i (fun _ _ => True) (fun j h => j = i ∧ h.IsTupleIter it a i ∧ h.IsTuple a items) :=
      { live := fun _ _ st => let ⟨o, ho, _⟩ := st.2.1; ⟨o, ho⟩
        frame := fun _ _ _ st k => ⟨st.1, st.2.1.at fun o q => k it (by simp) o q, st.2.2.at fun o q => k a (by simp) o q⟩
        item := fun j z Q E hj st _ => absurd st.1 (Nat.ne_of_lt hj)
        done := fun z Q E st hE => wpAny_nextOf_tuple_end (A := A.in1) hh st.2.1 st.2.2 (by simp; omega) hE }
    exact wpAny_pyNext_enum_endD D he ⟨rfl, hit, p⟩ hQ
/-- enumerate of a tuple: by its reading -/
def iEnumT (K : Frg) (ta : TA) : TI := fun σ H R => ta σ H fun vs H1 => ∃ a xs, vs = [V.ref a] ∧ SqT K H1 a xs ∧ R (IteT K a) H1
theorem pi_enumT {X : Cx} {e : Expr} {ta : TA} {p pos tpos : Pos} {elts : List Expr} {kk : Nat} (hg : Gl X "enumerate") (hm : X.mg "enumerate" = none) (ha : PA X [e] ta) (hs : starEach [e] X.env = [(false, eval e X.env)] := by rfl) :
    PI X (.Tuple elts kk tpos) (.Call (.Name "enumerate" p) [e] [] pos) (iEnumT X.K ta) := by
  refine ⟨fun pins s σ H R I h => PyProof.Rows.Call_ (ld_blt I hg hm PyProof.Rows.boot_enumerate (PyProof.Rows.callWith_type1 (thn (ha.run pos pins s σ H _ I h) fun us s1 ⟨vs, H1, I1, r1, a, xs, ex, hq, q⟩ => ?_) hs rfl))⟩
  subst ex
  cases r1 with
  | cons r rr =>
    cases rr
    cases r
    obtain ⟨its, rv, tp, _⟩ := I1.tuple hq
    refine enum_call1 (begins_tuple a its.toArray) tp fun h' he hit hk => wpAny_pyIter_enum he ?_
    refine ⟨s1.heap.objs.size + 1, [s1.heap.objs.size + 1, s1.heap.objs.size], _, _, H1, rfl, I1.kept (t' := s1.toks) hk, turn_enumT a (s1.heap.objs.size + 1) s1.heap.objs.size, ⟨⟨.none, he⟩, ⟨_, hit, rfl, rfl⟩, Nat.succ_ne_self _⟩, fun b hb => ?_, q⟩
    have hle : s1.heap.objs.size ≤ b := by
      rcases (by simpa using hb : b = s1.heap.objs.size + 1 ∨ b = s1.heap.objs.size) with z | z
      · rw [z]
        exact Nat.le_add_right _ _
      · rw [z]
        exact Nat.le_refl _
    exact I1.fpOk hle (I1.hok.fresh hle)
theorem ai_enum {K : Frg} {ρ : Rho} {ta : TA} {P : List Da → Prop} (h : AA K ta ρ fun vs => ∃ ds, vs = [.tuple ds] ∧ P (List.zipWith (fun (i : Nat) x => .tuple [.int (i : Int), x]) (List.range ds.length) ds)) : AI K (iEnumT K ta) ρ P := fun σ H H1 s e R q => h σ H H1 s e _ fun vs ⟨ds, ed, p⟩ us H' H2 g dx => by
  subst ed
  cases dx with
  | cons a r =>
    cases r
    cases a with
    | @tup a xs _ t x =>
      refine ⟨a, xs, rfl, Evl.ex_t g.b t, q _ p _ H' H2 g fun i Hk H3 e1 e2 => ?_⟩
      have hl := dps_len x
      have t3 : SqT K H3 a xs := Evl.ex_t (e1.trans e2) t
      refine ⟨fun d ed => ?_, fun ed => ?_⟩
      · have hi := (List.getElem?_eq_some_iff.mp ed).1
        rw [List.length_zipWith, List.length_range] at hi
        have h1 : i < ds.length := by omega
        refine ⟨⟨xs, xs[i], t3, by simp [hl, h1]⟩, fun v H4 ⟨T, y, ev, hT, eh, ey⟩ => ?_⟩
        subst ev eh
        rw [List.getElem?_zipWith, List.getElem?_range h1, List.getElem?_eq_getElem h1] at ed
        cases ed
        obtain ⟨v1, ev1, dv1⟩ := dps_get x (List.getElem?_eq_getElem h1)
        have ey' := ey xs t3
        rw [ev1] at ey'
        cases ey'
        have g2 : GrN K Hk H3 (upd Hk T (.tup [.int (i : Nat), y])) (upd H3 T (.tup [.int (i : Nat), y])) := GrN.new e2 hT
        exact ⟨_, g2, .tup (SqT.of upd_same) (.cons (.int _) (.cons (dp_ex (e1.trans g2.a) _ dv1) .nil))⟩
      · rw [List.length_zipWith, List.length_range] at ed
        exact ⟨xs, t3, by omega⟩
end Ft

/-! part: FtS -/
set_option Elab.async false
set_option linter.all false
set_option maxRecDepth 100000
namespace Ft
open PySem L2 PyProof.Rows
/-! ### sorted of tuples of whole numbers, of any lengths -/
section
variable {prog : Program} {w : World} {A : Around} {E : Value → Shared → Prop} {s : Shared}
def AllTI (h : Heap) (vs : List Value) : Prop := ∀ v ∈ vs, ∃ ns, TS.TupInts h v ns
theorem firsts_mixed : ∀ (vs : List Value), AllTI s.heap vs → ∃ fs : List (Option Value), (∀ f ∈ fs, f = none ∨ ∃ n t, f = some (.int n t)) ∧ fs.length = vs.length ∧
    ∀ {M : Model} {E : Value → Shared → Prop} {Q : List (Option Value) → Shared → Prop}, Q fs s → wpAny M A (vs.mapM firstOfTuple') Q E s
  | [], _ => ⟨[], fun f h => absurd h (by simp), rfl, fun q => by rw [List.mapM_nil]; exact wpAny_pure q⟩
  | v :: vs, h => by
    obtain ⟨fs, h1, h2, h3⟩ := firsts_mixed vs fun v hv => h v (List.mem_cons_of_mem _ hv)
    obtain ⟨ns, a, xs, rfl, ⟨o, ho, hc, n, hd⟩, hi⟩ := h v List.mem_cons_self
    refine ⟨xs[0]? :: fs, fun f hf => ?_, by rw [List.length_cons, List.length_cons, h2], fun {M E Q} q => ?_⟩
    · rcases List.mem_cons.mp hf with z | z
      · subst z
        cases hl : xs.toList with
        | nil =>
          have e0 : xs = #[] := by
            have := congrArg List.toArray hl
            simpa using this
          left
          rw [e0]
          rfl
        | cons x r =>
          have e0 : xs[0]? = some x := by rw [← Array.getElem?_toList, hl]; rfl
          rw [hl] at hi
          cases hi with
          | cons a t _ => exact .inr ⟨_, _, e0⟩
      · exact h1 f z
    · rw [List.mapM_cons]
      refine wpAny_bind ?_
      rw [PySem.W.kas_first_eq]
      refine wpAny_bind (wpAny_typeOf (T := "tuple") ⟨o, ho, hc⟩ ?_)
      rw [if_neg (by first | decide | simp)]
      exact wpAny_bind (listItems_at ho hd (wpAny_pure (wpAny_bind (h3 (wpAny_pure q)))))
theorem tups_kind {vs : List Value} (h0 : 0 < vs.length) (x : AllTI s.heap vs) : ∃ κ, (κ = general' ∨ κ = oneType' ∨ κ = tuples' true) ∧ ∀ (Q : SortKind → Shared → Prop) (E : Value → Shared → Prop), Q κ s → wpAny (model prog w) A (keyKind' vs.toArray) Q E s := by
  obtain ⟨fs, h1, h2, h3⟩ := firsts_mixed (A := A) vs x
  by_cases all : fs.toArray.all (fun f => f.isSome) = true
  · refine ⟨tuples' true, .inr (.inr rfl), fun Q E q => ?_⟩
    rw [kat_kind_eq, List.mapM_toArray, map_eq_pure_bind]
    refine wpAny_bind (wpAny_bind (h3 (wpAny_pure ?_)))
    rw [if_pos all]
    refine wpAny_bind (wpAny_rule ?_)
    obtain ⟨gs, hg⟩ : ∃ gs : List Value, fs = gs.map some := by
      have hs : ∀ f ∈ fs, f.isSome = true := by simpa using all
      clear h1 h2 h3 all q
      induction fs with
      | nil => exact ⟨[], rfl⟩
      | cons f fs ih =>
        obtain ⟨gs, hg⟩ := ih fun f hf => hs f (List.mem_cons_of_mem _ hf)
        obtain ⟨v, hv⟩ := Option.isSome_iff_exists.mp (hs f List.mem_cons_self)
        exact ⟨v :: gs, by rw [hv, hg]; rfl⟩
    subst hg
    have hfm : ((gs.map some).toArray.filterMap id) = gs.toArray := by simp
    rw [hfm, oneTypeOnly'_eq, List.mapM_toArray, map_eq_pure_bind]
    have hty : ∀ v ∈ gs, ∀ (Q' : Value → Shared → Prop), Q' (.type "int") s → wpAny (model prog w) A (typeOf v) Q' E s := fun v hv Q' hq => by
      rcases h1 (some v) (List.mem_map.mpr ⟨v, hv, rfl⟩) with z | ⟨n, t, z⟩
      · cases z
      · cases z
        exact wpAny_typeOf (typeIs_int s n t) hq
    refine wpAny_bind (wpAny_bind (wpAny_bind (PySem.W.kas_mapM (r := Value.type "int") _ hty (wpAny_pure ?_))))
    match gs, h2, h0 with
    | [], h2, h0 => exact absurd h0 (by rw [← h2]; simp)
    | g :: gr, _, _ =>
      have a1 : ((List.map (fun _ => Value.type "int") (g :: gr)).toArray.all fun x => x == Value.type "int") = true := by
        simp only [List.all_toArray, List.all_map, List.all_eq_true]
        intro _ _
        rfl
      have a0 : (List.map (fun _ => Value.type "int") (g :: gr)).toArray[0]? = some (Value.type "int") := by simp
      rw [a0]
      simp only [a1, if_true]
      have a2 : (Value.type "int" != Value.type "tuple") = true := by first | decide +kernel | rfl
      have a3 : (Option.some (Value.type "int")).any (fun x => x != Value.type "tuple") = true := a2
      refine wpAny_pure (wpAny_pure ?_)
      rw [a3]
      exact q
  · by_cases first : (fs.toArray[0]?.bind id).isSome = true
    · refine ⟨general', .inl rfl, fun Q E q => ?_⟩
      rw [kat_kind_eq, List.mapM_toArray, map_eq_pure_bind]
      refine wpAny_bind (wpAny_bind (h3 (wpAny_pure ?_)))
      rw [if_neg all, if_pos first]
      exact wpAny_pure q
    · refine ⟨oneType', .inr (.inl rfl), fun Q E q => ?_⟩
      rw [kat_kind_eq, List.mapM_toArray, map_eq_pure_bind]
      refine wpAny_bind (wpAny_bind (h3 (wpAny_pure ?_)))
      rw [if_neg all, if_neg first, oneTypeOnly'_eq, List.mapM_toArray, map_eq_pure_bind]
      have hty : ∀ v ∈ vs, ∀ (Q' : Value → Shared → Prop), Q' (.type "tuple") s → wpAny (model prog w) A (typeOf v) Q' E s := fun v hv Q' hq => by
        obtain ⟨ns, a, xs, rfl, t, _⟩ := x v hv
        exact wpAny_typeOf t.typeIs hq
      refine wpAny_bind (wpAny_bind (wpAny_bind (PySem.W.kas_mapM (r := Value.type "tuple") _ hty (wpAny_pure ?_))))
      match vs, h0 with
      | g :: gr, _ =>
        have a1 : ((List.map (fun _ => Value.type "tuple") (g :: gr)).toArray.all fun x => x == Value.type "tuple") = true := by
          simp only [List.all_toArray, List.all_map, List.all_eq_true]
          intro _ _
          rfl
        have a0 : (List.map (fun _ => Value.type "tuple") (g :: gr)).toArray[0]? = some (Value.type "tuple") := by simp
        rw [a0]
        simp only [a1, if_true]
        exact wpAny_pure (wpAny_pure q)
theorem lex_go {fin : Bool} {Q : Bool → Shared → Prop} : ∀ {xs ys : List Value} {ns ms : List Int} (i : Nat), IntsAre xs ns → IntsAre ys ms → fin = decide (ns.length < ms.length) → Q (HT.lexLt ns ms) s → PySem.W.KatLex prog w A true fin Q (xs.zip ys) i s
  | [], ys, ns, ms, i, hx, hy, hf, q => by
    cases hx
    have e : HT.lexLt [] ms = fin := by
      rw [hf]
      cases ms with
      | nil => rfl
      | cons m ms => rw [HT.lexLt_nil_cons]; exact (decide_eq_true (by simp)).symm
    rw [e] at q
    exact PySem.W.kat_nil q
  | x :: xs, [], ns, ms, i, hx, hy, hf, q => by
    cases hy
    cases hx with
    | cons a t h =>
      rename_i ns'
      have e : HT.lexLt (a :: ns') [] = fin := by
        rw [hf, HT.lexLt_cons_nil]
        exact (decide_eq_false (by simp)).symm
      rw [e] at q
      exact PySem.W.kat_nil q
  | x :: xs, y :: ys, ns, ms, i, hx, hy, hf, q => by
    cases hx with
    | cons a t hx' =>
      cases hy with
      | cons b u hy' =>
        rw [HT.lexLt_cons] at q
        refine PySem.W.kat_cons (SeqAt.EqAt.int_int a t b u prog w _ _ (PySem.W.kat_go (fun e => ?_) fun e => ?_))
        · have eab : a = b := by simpa using e
          rw [if_pos eab] at q
          exact PySem.W.kat_yes (lex_go (i + 1) hx' hy' (by rw [hf, List.length_cons, List.length_cons]; simp) q)
        · have nab : ¬ a = b := by simpa using e
          rw [if_neg nab] at q
          exact PySem.W.kat_no (oneLt_any_int q)
theorem tups_cmp {vs : List Value} {κ : SortKind} (hκ : κ = general' ∨ κ = oneType' ∨ κ = tuples' true) (x : AllTI s.heap vs) (hu : A.units < cLine) :
    SrtO.Cmp prog w A s κ (fun p => p.1 ∈ vs) (SrtO.lt2 fun v u => HT.lexLt (TS.intsOf s.heap v) (TS.intsOf s.heap u)) := by
  intro p q hp hq
  obtain ⟨ns, tp⟩ := x _ hp
  obtain ⟨ms, tq⟩ := x _ hq
  show wpAny (model prog w) A (keyLt' κ p.1 q.1) (fun r s' => s' = s ∧ r = HT.lexLt (TS.intsOf s.heap p.1) (TS.intsOf s.heap q.1)) (fun _ _ => False) s
  rw [tp.ints, tq.ints]
  generalize p.1 = v at tp
  generalize q.1 = u at tq
  obtain ⟨a, xs, rfl, t1, i1⟩ := tp
  obtain ⟨b, ys, rfl, t2, i2⟩ := tq
  rcases hκ with z | z | z
  · subst z
    show wpAny (model prog w) A (oneLt' false (.ref a) (.ref b)) _ _ s
    exact PySem.W.kat_one _ _ (HT.lt_tupInts t1 t2 i1 i2 hu ⟨rfl, rfl⟩)
  · subst z
    rw [keyLt'_oneType, oneLt'_eq]
    simp only [if_true]
    refine wpAny_bind (wpAny_cRoomFor hu ?_)
    obtain ⟨⟨cls, dd, data, sl⟩, ho, hc, n, hd⟩ := id t1
    obtain ⟨⟨cls2, dd2, data2, sl2⟩, ho2, hc2, n2, hd2⟩ := id t2
    simp only at hc hd hc2 hd2
    subst hc hd hc2 hd2
    refine wpAny_bind (wpAny_callSpecialIfBound?_slot (T := "tuple") ⟨_, ho, rfl⟩ PySem.F.slot_tuple_lt (call_meets PySem.F.slot_tuple_lt ⟨_, ho, rfl⟩ PySem.F.entry_tuple_lt (PySem.F.args_tuple_lt_2 _ _) (HT.tuple_lt_ints a b xs ys n n2 dd dd2 sl sl2 ns ms i1 i2) ⟨ho, ho2, ?_⟩))
    exact wpAny_truthy_bool ⟨rfl, rfl⟩
  · subst z
    obtain ⟨o, ho, _, n, hd⟩ := t1
    obtain ⟨o', ho', _, n', hd'⟩ := t2
    refine PySem.W.kat_lt ho hd ho' hd' (lex_go 0 i1 i2 ?_ ⟨rfl, rfl⟩)
    have l1 := i1.length
    have l2 := i2.length
    rw [Array.length_toList] at l1 l2
    rw [l1, l2]
theorem lex_swo (k : Value → List Int) : SrtO.Swo fun v u => HT.lexLt (k v) (k u) := by
  have as : ∀ a b : List Int, HT.lexLt a b = true → HT.lexLt b a = false := by
    intro a
    induction a with
    | nil =>
      intro b h
      cases b with
      | nil => rfl
      | cons y ys => rfl
    | cons x xs ih =>
      intro b h
      cases b with
      | nil => cases h
      | cons y ys =>
        rw [HT.lexLt_cons] at h ⊢
        by_cases e : x = y
        · subst e
          rw [if_pos rfl] at h ⊢
          exact ih ys h
        · rw [if_neg e] at h
          rw [if_neg fun z => e z.symm]
          have := of_decide_eq_true h
          exact decide_eq_false (by omega)
  have tr : ∀ a b c : List Int, HT.lexLt b a = false → HT.lexLt c b = false → HT.lexLt c a = false := by
    intro a
    induction a with
    | nil =>
      intro b c _ _
      cases c <;> rfl
    | cons x xs ih =>
      intro b c h1 h2
      cases b with
      | nil => cases h1
      | cons y ys =>
        cases c with
        | nil => cases h2
        | cons z zs =>
          rw [HT.lexLt_cons] at h1 h2 ⊢
          by_cases e1 : y = x
          · subst e1
            rw [if_pos rfl] at h1
            by_cases e2 : z = y
            · subst e2
              rw [if_pos rfl] at h2 ⊢
              exact ih ys zs h1 h2
            · rw [if_neg e2] at h2 ⊢
              exact h2
          · rw [if_neg e1] at h1
            have g1 := of_decide_eq_false h1
            by_cases e2 : z = y
            · subst e2
              rw [if_neg e1]
              exact h1
            · rw [if_neg e2] at h2
              have g2 := of_decide_eq_false h2
              rw [if_neg (by omega)]
              exact decide_eq_false (by omega)
  exact ⟨fun x y h => as _ _ h, fun x y z h1 h2 => tr _ _ _ h1 h2⟩
end
def rSortT (K : Frg) : List V → Hp → VK → Prop := fun vs H Q => ∃ (a : Addr) (ks : List (Addr × List Int)), vs = [V.ref a] ∧ SqL K H a (ks.map fun p => V.ref p.1) ∧ (∀ p ∈ ks, SqT K H p.1 (p.2.map V.int)) ∧
  ∀ out : List (Addr × List Int), out.Perm ks → out.Pairwise (fun x y => HT.lexLt y.2 x.2 = false) → ∀ l, H l = none → Q (V.ref l) (upd H l (.lst (out.map fun p => V.ref p.1)))
theorem call_sortT {X : Cx} (hu : X.A.units + 64 < cLine) : CallR X (.builtin "sorted") (rSortT X.K) := by
  intro pins s σ H vs us Q I r h
  obtain ⟨a, ks, rfl, hL, hT, q⟩ := h
  have e1 := Vals.ref1 r
  subst e1
  obtain ⟨its, rv, pl, hz⟩ := I.list hL
  have e2 := refs_of_vals rv
  subst e2
  rw [List.length_map] at hz
  have key : ∀ p ∈ ks, TS.TupInts s.heap (.ref p.1) p.2 := fun p hp => by
    obtain ⟨us, r2, t, _⟩ := I.tuple (hT p hp)
    exact ⟨p.1, us.toArray, rfl, t, Vals.ints r2⟩
  have all : AllTI s.heap (ks.map fun p => Value.ref p.1) := fun v hv => by
    obtain ⟨p, hp, rfl⟩ := List.mem_map.mp hv
    exact ⟨p.2, key p hp⟩
  refine SrtO.sorted_ord (lex_swo (TS.intsOf s.heap)) pl.isList (by rw [List.length_map]; exact hz) (fun h2 h₁ b hb kk => ?_) fun out hs hb => ?_
  · intro h' keep
    have all' : AllTI h' (ks.map fun p => Value.ref p.1) := fun v hv => by
      obtain ⟨ns, t⟩ := all v hv
      exact ⟨ns, t.keeps fun c o e _ => keep c o (kk c o e).1 (kk c o e).2⟩
    obtain ⟨κ, hκ, hk⟩ := tups_kind (prog := X.prog) (w := X.w) (A := X.A.in1.in1) (s := { s with heap := h' }) (by omega) all'
    refine ⟨κ, hk, ?_⟩
    have hu2 : (X.A.in1.in1).units < cLine := by
      show X.A.units + 1 + 1 < cLine
      omega
    intro p p' hp hp'
    have c := tups_cmp (prog := X.prog) (w := X.w) (s := { s with heap := h' }) hκ all' hu2 p p' hp hp'
    have ek : ∀ v ∈ ks.map (fun p => Value.ref p.1), TS.intsOf h' v = TS.intsOf s.heap v := fun v hv => by
      obtain ⟨ns, t⟩ := all v hv
      rw [t.ints]
      exact (t.keeps fun c o e _ => keep c o (kk c o e).1 (kk c o e).2).ints
    have c' : wpAny (model X.prog X.w) X.A.in1.in1 (keyLt' κ p.1 p'.1) (fun r s' => s' = { s with heap := h' } ∧ r = HT.lexLt (TS.intsOf h' p.1) (TS.intsOf h' p'.1)) (fun _ _ => False) { s with heap := h' } := c
    rw [ek _ hp, ek _ hp'] at c'
    exact c'
  · let g : Value → Addr × List Int := fun v => (match v with | .ref a => a | _ => 0, TS.intsOf s.heap v)
    have gk : ∀ p ∈ ks, g (.ref p.1) = p := fun p hp => by
      show (p.1, TS.intsOf s.heap (.ref p.1)) = p
      rw [(key p hp).ints]
    have pm : (out.map g).Perm ks := by
      have z := hb.perm.map g
      rw [List.map_map] at z
      have e3 : ks.map (g ∘ fun p => Value.ref p.1) = ks := by
        refine (List.map_congr_left fun p hp => gk p hp).trans (List.map_id' _)
      rw [e3] at z
      exact z
    have er : out = (out.map g).map fun p => Value.ref p.1 := by
      rw [List.map_map]
      refine (List.map_id' out).symm.trans (List.map_congr_left fun v hv => ?_)
      obtain ⟨p, hp, rfl⟩ := List.mem_map.mp (hb.perm.mem_iff.mp hv)
      rfl
    have pw : (out.map g).Pairwise (fun x y => HT.lexLt y.2 x.2 = false) := List.pairwise_map.mpr hs
    obtain ⟨e, he⟩ := PyProof.Rows.sortedAll_at s.heap (ks.map fun p => Value.ref p.1) out.toArray
    have hn : s.heap.objs.size ≤ s.heap.objs.size + 1 := Nat.le_succ _
    refine ⟨V.ref (s.heap.objs.size + 1), _, I.laid (t' := s.toks) (o := .lst ((out.map g).map fun p => V.ref p.1)) (fun b o q => PyProof.Rows.sortedAll_old q) hn ⟨?_, out, e, ?_, he⟩, rfl, q _ pm pw _ (I.hok.fresh hn)⟩
    · rw [List.length_map, List.length_map, hb.perm.length_eq, List.length_map]
      exact hz
    · have v2 := vals_of_refs (out.map g)
      rw [← er] at v2
      exact v2
theorem rf_sortT {K : Frg} {cs : List (List Int)} {P : List Da → Prop} (p : ∀ out : List (List Int), out.Perm cs → out.Pairwise (fun x y => HT.lexLt y x = false) → P (out.map tupI)) : RF K (rSortT K) [.list (cs.map tupI)] P := fun H H1 vs e dv Q q => by
  cases dv with
  | cons a b =>
    cases b
    cases a with
    | @lst a xs _ s x =>
      have ks : ∃ ks : List (Addr × List Int), xs = ks.map (fun p => V.ref p.1) ∧ cs = ks.map (·.2) ∧ ∀ p ∈ ks, SqT K H p.1 (p.2.map V.int) := by
        clear s q p
        induction cs generalizing xs with
        | nil =>
          cases x
          exact ⟨[], rfl, rfl, fun p h => absurd h (by simp)⟩
        | cons c cs ih =>
          cases x with
          | cons y z =>
            obtain ⟨ks, e1, e2, e3⟩ := ih z
            cases y with
            | @tup b ys _ t y =>
              rw [dq_nums y] at t
              refine ⟨(b, c) :: ks, by rw [e1]; rfl, by rw [e2]; rfl, fun p hp => ?_⟩
              rcases List.mem_cons.mp hp with z | z
              · subst z
                exact t
              · exact e3 p z
      obtain ⟨ks, e1, e2, e3⟩ := ks
      subst e1 e2
      refine ⟨a, ks, rfl, SqL.of (e _ _ s), fun r hr => Evl.ex_t e (e3 r hr), fun out pm pw l n => ?_⟩
      have pm2 : (out.map (·.2)).Perm (ks.map (·.2)) := pm.map _
      refine q _ (p (out.map (·.2)) pm2 (List.pairwise_map.mpr pw)) l (out.map fun r => V.ref r.1) H _ (GrN.fresh e n) n (Evl.fresh_back e n) upd_same ?_
      have all : ∀ r ∈ out, SqT K H r.1 (r.2.map V.int) := fun r hr => e3 r (pm.mem_iff.mp hr)
      clear pm pw pm2
      induction out with
      | nil => exact .nil
      | cons r out ih =>
        refine .cons (.tup (all r List.mem_cons_self) ?_) (ih fun r hr => all r (List.mem_cons_of_mem _ hr))
        clear all ih
        show DqAll K H (r.2.map V.int) (nums r.2)
        generalize r.2 = ns
        induction ns with
        | nil => exact .nil
        | cons k ns ih => exact .cons (.int k) ih
end Ft

/-! part: FtG -/
set_option Elab.async false
set_option linter.all false
set_option maxRecDepth 100000
namespace Ft
open PySem L2
/-! ### defs -/
section
variable {P : Program} {w : World} {K : Frg} {mg : Str → Option Value} {base : Heap}
structure DefAt (P : Program) (w : World) (K : Frg) (mg : Str → Option Value) (base : Heap) (k : Nat) (x : Str) (ps : List Str) (sp : Sp) : Prop where
  ex : ∃ f fd, FnOk P w K mg base CX0 k f fd ps sp ∧ Binds K fd ps [] ∧ PySem.W.keepIn K (.ref f) = true ∧ mg x = some (.ref f)
structure FunAt (K : Frg) (mg : Str → Option Value) (x : Str) (ps : List Str) (st : Stmt) : Prop where
  ex : ∃ f fd, Fun K x x st f fd ∧ Binds K fd ps [] ∧ mg x = some (.ref f)
theorem DefAt.mono {j k : Nat} {x : Str} {ps : List Str} {sp : Sp} (d : DefAt P w K mg base j x ps sp) (h : j ≤ k) : DefAt P w K mg base k x ps sp :=
  let ⟨f, fd, a, b⟩ := d.ex; ⟨f, fd, a.mono h, b⟩
theorem pe_def {X : Cx} {k : Nat} {x : Str} {ps : List Str} {sp : Sp} {e : Expr} {es : List Expr} {t : TA} {p pos : Pos} (d : DefAt X.prog X.w X.K X.mg X.base k x ps sp) (hr : Room k X.A) (hg : Gl X x) (ha : PA X (e :: es) t)
    (hdb : (x == ("__debug__" : Str)) = false := by decide) (he : starEach (e :: es) X.env = (false, eval e X.env) :: starEach es X.env := by rfl) (hpl : (backTo pos (starEach es X.env)).any (·.1) = false := by rfl) :
    PE X (.Call (.Name x p) (e :: es) [] pos) (tCall sp [] E0 t) := by
  obtain ⟨f, fd, G, b, kp, m⟩ := d.ex
  exact pe_call G hr hg m kp b .nil pass0 ha hdb he hpl
theorem pe_def0 {X : Cx} {k : Nat} {x : Str} {ps : List Str} {sp : Sp} {p pos : Pos} (d : DefAt X.prog X.w X.K X.mg X.base k x ps sp) (hr : Room k X.A) (hg : Gl X x)
    (hdb : (x == ("__debug__" : Str)) = false := by decide) : PE X (.Call (.Name x p) [] [] pos) (tCall sp [] E0 tNil) := by
  obtain ⟨f, fd, G, b, kp, m⟩ := d.ex
  exact pe_call0 G hr hg m kp b .nil pass0 hdb
def retO (P : Da → Prop) : Out → Prop
  | .rt d => P d
  | .nx _ => P .none
  | _ => False
def rho0 (n : Nat) (ds : List Da) : Rho := ds.map Cell.dat ++ List.replicate (n - ds.length) .un
theorem dats_get {ds : List Da} {m i : Nat} {c : Cell} (h : (ds.map Cell.dat ++ List.replicate m .un)[i]? = some c) : (∃ d, c = .dat d ∧ ds[i]? = some d) ∨ c = .un := by
  by_cases z : i < ds.length
  · rw [List.getElem?_append_left (by rw [List.length_map]; exact z), List.getElem?_map, List.getElem?_eq_getElem z] at h
    cases h
    exact .inl ⟨_, rfl, List.getElem?_eq_getElem z⟩
  · rw [List.getElem?_append_right (by rw [List.length_map]; omega), List.getElem?_replicate] at h
    split at h
    · cases h
      exact .inr rfl
    · cases h
theorem start_get {vs : List V} {m i : Nat} {v : V} (h : vs[i]? = some v) : (vs.map some ++ List.replicate m (none : Option V))[i]? = some (some v) := by
  have hi := (List.getElem?_eq_some_iff.mp h).1
  rw [List.getElem?_append_left (by rw [List.length_map]; exact hi), List.getElem?_map, h]
  rfl
theorem has0 {N : List Str} {H H1 : Hp} {vs : List V} {ds : List Da} (dx : DqAll K H vs ds) : Has K H H1 (start N vs) (rho0 N.length ds) where
  len := by
    unfold L2.start rho0
    rw [List.length_append, List.length_append, List.length_map, List.length_map, List.length_replicate, List.length_replicate, dps_len dx]
  dat := fun i d e => by
    rcases dats_get e with ⟨d', e1, e2⟩ | e1
    · cases e1
      obtain ⟨v, ev, dv⟩ := dps_get dx e2
      exact ⟨v, start_get ev, dv⟩
    · cases e1
  own := fun i d e => by rcases dats_get e with ⟨d', e1, e2⟩ | e1 <;> cases e1
  row := fun i e => by rcases dats_get e with ⟨d', e1, e2⟩ | e1 <;> cases e1
  dis := fun a b c c' l ne ea eb ma mb sa sb => by
    rcases dats_get ea with ⟨d', e1, e2⟩ | e1 <;> (subst e1; exact ma)
  hal := fun i m C fs e => by rcases dats_get e with ⟨d', e1, e2⟩ | e1 <;> cases e1
theorem mk_def {k : Nat} {x : Str} {st : Stmt} {N ps : List Str} {W : WP} (F : FunAt K mg x ps st) (S : FnScope N ps (defScope st)) (hl : ∀ ds P, W ds P → ds.length = ps.length)
    (body : ∀ (f : Addr) (cdv : Value) (A : Around) (outer : List Env) (s : Shared) (H : Hp) (E : XK), Room k (A.deeper (PyProof.Rows.envOfC x (defScope st) s.heap.objs.size f cdv)) →
      ∃ t, PSs (cxOf CX0 P w K mg base N x (defScope st) f cdv A outer s H E).nox (defBody st) t ∧ ∀ ds P, W ds P → SO K t (rho0 N.length ds) (retO P)) : DefAt P w K mg base (k + 1) x ps (spW K W) := by
  obtain ⟨f, fd, F, b, m⟩ := F.ex
  refine ⟨f, fd, F.ok S (fun vs H Q E ⟨ds, P, H0, e, dx, wp, q⟩ => (dps_len dx).trans (hl ds P wp)) (fun cdv A outer s H vs Q E hr ⟨ds, P, H0, e, dx, wp, q⟩ => ?_), b, F.kp, m⟩
  obtain ⟨t, pt, so⟩ := body f cdv A outer s H E hr
  refine ⟨t, pt, so ds P wp (fun _ => False) H0 H H0 H (start N vs) _ ⟨has0 dx, e, Evl.Ex.refl _, fun x o _ z => z, fun x o _ z => z, fun i es l z => ?_, fun i l z => ?_, fun x z => z.elim, fun i C fs l z => ?_⟩ ⟨fun ρ' p σ' H' H2 s' => q _ p _ H' H2 s'.toGr .non, fun d p v H' H2 g dv => q d p v H' H2 g dv, fun ρ' p => p.elim, fun ρ' p => p.elim⟩⟩
  · rcases dats_get z with ⟨d', e1, e2⟩ | e1 <;> cases e1
  · rcases dats_get z with ⟨d', e1, e2⟩ | e1 <;> cases e1
  · rcases dats_get z with ⟨d', e1, e2⟩ | e1 <;> cases e1
/-- its first argument the row -/
def rhoR (n : Nat) (ds : List Da) : Rho := .row :: (ds.map Cell.dat ++ List.replicate (n - 1 - ds.length) .un)
theorem cons_get {α : Type} {l : List α} {a c : α} {i : Nat} (h : (a :: l)[i]? = some c) : (i = 0 ∧ c = a) ∨ ∃ j, i = j + 1 ∧ l[j]? = some c := by
  cases i with
  | zero => exact .inl ⟨rfl, (Option.some.inj h).symm⟩
  | succ j => exact .inr ⟨j, rfl, by simpa using h⟩
theorem hasR {N : List Str} {H H1 : Hp} {r : Addr} {vs : List V} {ds : List Da} (rx : RowAt K H H1 r) (dx : DqAll K H vs ds) : Has K H H1 (start N (V.ref r :: vs)) (rhoR N.length ds) where
  len := by
    unfold L2.start rhoR
    have e := dps_len dx
    simp only [List.length_append, List.length_cons, List.length_map, List.length_replicate]
    omega
  dat := fun i d e => by
    rcases cons_get e with ⟨_, z⟩ | ⟨j, rfl, e'⟩
    · cases z
    · rcases dats_get e' with ⟨d', e1, e2⟩ | e1
      · cases e1
        obtain ⟨v, ev, dv⟩ := dps_get dx e2
        exact ⟨v, start_get (vs := V.ref r :: vs) (i := j + 1) (by simpa using ev), dv⟩
      · cases e1
  own := fun i d e => by
    rcases cons_get e with ⟨_, z⟩ | ⟨j, rfl, e'⟩
    · cases z
    · rcases dats_get e' with ⟨d', e1, e2⟩ | e1 <;> cases e1
  row := fun i e => by
    rcases cons_get e with ⟨rfl, z⟩ | ⟨j, rfl, e'⟩
    · exact ⟨r, rfl, rx⟩
    · rcases dats_get e' with ⟨d', e1, e2⟩ | e1 <;> cases e1
  dis := fun a b c c' l ne ea eb ma mb sa sb => by
    rcases cons_get ea with ⟨rfl, z⟩ | ⟨j, rfl, e'⟩
    · rcases cons_get eb with ⟨rfl, z'⟩ | ⟨j', rfl, e''⟩
      · exact ne rfl
      · rcases dats_get e'' with ⟨d', e1, e2⟩ | e1 <;> (subst e1; exact mb)
    · rcases dats_get e' with ⟨d', e1, e2⟩ | e1 <;> (subst e1; exact ma)
  hal := fun i m C fs e => by
    rcases cons_get e with ⟨_, z⟩ | ⟨j, rfl, e'⟩
    · cases z
    · rcases dats_get e' with ⟨d', e1, e2⟩ | e1 <;> cases e1
theorem mk_defR {k : Nat} {x : Str} {st : Stmt} {N ps : List Str} {W : WP} (F : FunAt K mg x ps st) (S : FnScope N ps (defScope st)) (hl : ∀ ds P, W ds P → ds.length + 1 = ps.length)
    (body : ∀ (f : Addr) (cdv : Value) (A : Around) (outer : List Env) (s : Shared) (H : Hp) (E : XK), Room k (A.deeper (PyProof.Rows.envOfC x (defScope st) s.heap.objs.size f cdv)) →
      ∃ t, PSs (cxOf CX0 P w K mg base N x (defScope st) f cdv A outer s H E).nox (defBody st) t ∧ ∀ ds P, W ds P → SO K t (rhoR N.length ds) (retO P)) : DefAt P w K mg base (k + 1) x ps (spR K W) := by
  obtain ⟨f, fd, F, b, m⟩ := F.ex
  refine ⟨f, fd, F.ok S (fun vs H Q E ⟨r, us, ds, P, H0, ev, e, rx, dx, wp, q⟩ => by rw [ev, List.length_cons, dps_len dx]; exact hl ds P wp) (fun cdv A outer s H vs Q E hr ⟨r, us, ds, P, H0, ev, e, rx, dx, wp, q⟩ => ?_), b, F.kp, m⟩
  subst ev
  obtain ⟨t, pt, so⟩ := body f cdv A outer s H E hr
  refine ⟨t, pt, so ds P wp (fun a => a = r) H0 H H0 H (start N (V.ref r :: us)) _ ⟨hasR rx dx, e, Evl.Ex.refl _, fun x o _ z => z, fun x o _ z => z, fun i es l z => ?_, fun i l z zz => ?_, fun x z => ?_, fun i C fs l z => ?_⟩ ⟨fun ρ' p σ' H' H2 s' => q _ p _ H' H2 s'.toGr .non, fun d p v H' H2 g dv => q d p v H' H2 g dv, fun ρ' p => p.elim, fun ρ' p => p.elim⟩⟩
  · rcases cons_get z with ⟨_, y⟩ | ⟨j, rfl, e'⟩
    · cases y
    · rcases dats_get e' with ⟨d', e1, e2⟩ | e1 <;> cases e1
  · rcases cons_get z with ⟨rfl, y⟩ | ⟨j, rfl, e'⟩
    · left
      have y : some (some (V.ref r)) = some (some (V.ref l)) := zz
      cases y
      rfl
    · rcases dats_get e' with ⟨d', e1, e2⟩ | e1 <;> cases e1
  · subst z
    exact ⟨0, rfl, rfl⟩
  · rcases cons_get z with ⟨_, y⟩ | ⟨j, rfl, e'⟩
    · cases y
    · rcases dats_get e' with ⟨d', e1, e2⟩ | e1 <;> cases e1
/-- a def told by another reading of its promise -/
theorem DefAt.imp {k : Nat} {x : Str} {ps : List Str} {sp sp' : Sp} (d : DefAt P w K mg base k x ps sp) (h : ∀ vs H Q E, sp' vs H Q E → sp vs H Q E) : DefAt P w K mg base k x ps sp' :=
  let ⟨f, fd, a, b⟩ := d.ex; ⟨f, fd, a.imp h, b⟩
end

/-! ### both sides written -/
section
variable {K : Frg} {ρ : Rho} {O : Out → Prop} {i j : Nat} {ta tb : TE}
theorem so_par (hi : ρ[i]? ≠ some .row) (hj : ρ[j]? ≠ some .row) (hij : i ≠ j) (h : AE K ta ρ fun d => AE K tb ρ fun e => O (.nx ((ρ.set i (.dat d)).set j (.dat e)))) : SO K (tPar i j (tCons ta (tCons tb tNil))) ρ O := fun B Hs H1s H H1 σ D s f =>
  h σ H H1 s.has s.ex _ fun d hd v H' H2 g dx => hd σ H' H2 (s.has.gr g) g.b _ fun e o u H3 H4 g2 dy => by
    refine ⟨v, u, rfl, f.nx _ o _ H3 H4 ?_⟩
    have s2 := s.gr (g.trans g2)
    refine s2.slots (is := [i, j]) ((s2.has.put (c := .dat d) (fun d' e' => by cases e'; exact dp_ex g2.a _ dx) fun z => z).put (c := .dat e) (fun d' e' => by cases e'; exact dy) fun z => z) (fun m hm => ?_) (fun m hm c e' => ?_) (fun m hm => ?_) fun m hm => ?_
    · rw [List.getElem?_set_ne (fun z => hm (by simp [z])), List.getElem?_set_ne (fun z => hm (by simp [z]))]
    · rcases set_get e' with ⟨_, y, _⟩ | ⟨n, y⟩
      · subst y
        exact fun z => z
      · rcases set_get y with ⟨_, y', _⟩ | ⟨n', y'⟩
        · subst y'
          exact fun z => z
        · have hm' : m = i ∨ m = j := by simpa using hm
          exact absurd hm' (by simp [n, n'])
    · have hm' : m = i ∨ m = j := by simpa using hm
      rcases hm' with z | z <;> (subst z; assumption)
    · rw [List.getElem?_set_ne (fun z => hm (by simp [z])), List.getElem?_set_ne (fun z => hm (by simp [z]))]
/-- the first a list of one's own -/
theorem so_par1 (hi : ρ[i]? ≠ some .row) (hj : ρ[j]? ≠ some .row) (hij : i ≠ j) (h : AF K ta ρ fun ds => AE K tb ρ fun e => O (.nx ((ρ.set j (.dat e)).set i (.own ds)))) : SO K (tPar i j (tCons ta (tCons tb tNil))) ρ O := fun B Hs H1s H H1 σ D s f =>
  h σ H H1 s.has s.ex _ fun ds hd p xs H' H2 g n1 n' hp dx => hd σ H' H2 (s.has.gr g) g.b _ fun e o u H3 H4 g2 dy => by
    refine ⟨V.ref p, u, rfl, ?_⟩
    have nR : ¬ Rows σ ρ p := fun r => by
      obtain ⟨_, _, _, _, _, _, y, _⟩ := s.has.rowAt r
      rw [n1] at y
      cases y
    have s2 := s.gr (g.trans g2)
    have s3 : Stt K B Hs H1s H3 H4 (σ.set j (some u)) (ρ.set j (.dat e)) := by
      refine s2.slots (is := [j]) (s2.has.put (c := .dat e) (fun d' e' => by cases e'; exact dy) fun z => z) (fun m hm => ?_) (fun m hm c e' => ?_) (fun m hm => ?_) fun m hm => ?_
      · rw [List.getElem?_set_ne (fun z => hm (by simp [z]))]
      · rcases set_get e' with ⟨_, y, _⟩ | ⟨nn, y⟩
        · subst y
          exact fun z => z
        · exact absurd (by simpa using hm) nn
      · have hm' : m = j := by simpa using hm
        subst hm'
        exact hj
      · rw [List.getElem?_set_ne (fun z => hm (by simp [z]))]
    rw [List.set_comm _ _ hij]
    refine f.nx _ o _ H3 H4 (s3.owned (H0 := H1) n1 (fun x u' r z => ?_) (fun x u' z => s.old z) (fun m c l e1 m1 q => ?_) ?_ (g2.d p _ hp n') (g2.c p _ nR hp) (dps_ex g2.a _ dx))
    · refine (g.trans g2).c x u' (fun ⟨m, e1, e2⟩ => r ⟨m, ?_, ?_⟩) z
      · rw [List.getElem?_set_ne fun w => by subst w; exact hj e1]
        exact e1
      · rw [List.getElem?_set_ne fun w => by subst w; exact hj e1]
        exact e2
    · rcases set_get e1 with ⟨_, y, _⟩ | ⟨nn, y⟩
      · subst y
        exact m1.elim
      · rw [List.getElem?_set_ne fun w => nn w.symm] at q
        exact s.has.there y m1 q
    · intro y
      rcases set_get y with ⟨_, y', _⟩ | ⟨_, y'⟩
      · cases y'
      · exact hi y'
/-- xs[k] += e, xs a list of one's own of whole numbers -/
def rGetN : V → V → Hp → VK → Prop := fun x y H Q => ∃ p xs i v, x = .ref p ∧ y = .int i ∧ H p = some (.lst xs) ∧ 0 ≤ i ∧ xs[i.toNat]? = some v ∧ Q v H
theorem get_listN {X : Cx} : PGet X rGetN := by
  intro pins s σ H o i ov iv Q I ro ri h
  obtain ⟨p, xs, k, v, rfl, rfl, hp, h0, hv, q⟩ := h
  cases ro
  obtain ⟨t, rfl⟩ := ri
  obtain ⟨its, r, pl, hz⟩ := I.list (SqL.of (K := X.K) hp)
  obtain ⟨w, ew, rw'⟩ := r.get hv
  have hl := r.length
  have hi := (List.getElem?_eq_some_iff.mp hv).1
  have hn := line63
  exact PyProof.Rows.getItem_listL pl.isList h0 (by omega) ew ⟨v, H, I, rw', q⟩
theorem so_augAt {ti te : TE} {f : Int → Int → Int} {ns : List Int} (e : ρ[i]? = some (.own (nums ns))) (h : AE K ti ρ fun k => ∃ (m : Nat) (z : Int), k = .int (m : Int) ∧ ns[m]? = some z ∧ AE K te ρ fun y => ∃ w : Int, y = .int w ∧ O (.nx (ρ.set i (.own (nums (ns.set m (f z w))))))) :
    SO K (tAugS (tVar i) ti te rGetN (ipI f) rSetL) ρ O := fun B Hs H1s H H1 σ D s fin => by
  obtain ⟨l, xs, q, n, hl, hx⟩ := s.has.own i _ e
  refine ⟨V.ref l, q, h σ H H1 s.has s.ex _ fun k ⟨m, z, ek, hm, hy⟩ v H' H2 gr dx => ?_⟩
  subst ek
  cases dx
  have s' := s.gr gr
  obtain ⟨l', xs', q', n', hl', hx'⟩ := s'.has.own i _ e
  rw [q] at q'
  cases q'
  have hd : (nums ns)[m]? = some (.int z) := by
    show (ns.map PyData.int)[m]? = _
    rw [List.getElem?_map, hm]
    rfl
  obtain ⟨v1, ev1, dv1⟩ := dps_get hx' hd
  cases dv1
  refine ⟨l, xs', (m : Int), V.int z, rfl, rfl, hl', by omega, by simpa using ev1, hy σ H' H2 s'.has gr.b _ fun y ⟨w, ey, o⟩ u H3 H4 g2 dy => ?_⟩
  subst ey
  cases dy
  have s2 := s'.gr g2
  obtain ⟨l2, xs2, q2, n2, hl2, hx2⟩ := s2.has.own i _ e
  rw [q] at q2
  cases q2
  refine ⟨z, w, rfl, rfl, l, xs2, (m : Int), m, rfl, rfl, hl2, ?_, fin.nx _ o σ H3 _ ?_⟩
  · have hlt := (List.getElem?_eq_some_iff.mp hd).1
    unfold ixN
    rw [if_pos (by omega), if_pos (by rw [dps_len hx2]; omega)]
    rfl
  · have es : nums (ns.set m (f z w)) = (nums ns).set m (.int (f z w)) := List.map_set
    rw [es]
    exact s2.wrote e q (dps_set (.int _) m hx2)
end
end Ft

/-! part: FtH -/
set_option Elab.async false
set_option linter.all false
set_option maxRecDepth 100000
namespace Ft
open PySem L2
/-- the built-in names that a text of ours calls -/
structure Blt (mg : Str → Option Value) : Prop where
  m_len : mg "len" = none
  m_tuple : mg "tuple" = none
  m_list : mg "list" = none
  m_int : mg "int" = none
  m_str : mg "str" = none
  m_bool : mg "bool" = none
  m_isinstance : mg "isinstance" = none
  m_zip : mg "zip" = none
  m_enumerate : mg "enumerate" = none
  m_range : mg "range" = none
  m_sorted : mg "sorted" = none
  m_set : mg "set" = none
/-- a module's constant -/
def GlobC (K : Frg) (mg : Str → Option Value) (x : Str) (d : Da) : Prop := ∃ u v, mg x = some u ∧ RelV v u ∧ ∀ H, Dq K H v d
def tD (K : Frg) (d : Da) : TE := fun σ H Q => ∀ v, (∀ H, Dq K H v d) → Q v H
theorem pe_globD {X : Cx} {x : Str} {d : Da} {pos : Pos} (h : GlobC X.K X.mg x d) (hg : Gl X x) (hd : (x == ("__debug__" : Str)) = false := by decide) : PE X (.Name x pos) (tD X.K d) := by
  obtain ⟨u, v, m, r, dv⟩ := h
  exact ⟨fun pins s σ H Q I q => (pe_glob hg m r hd).run pins s σ H Q I (q v dv)⟩
section
variable {K : Frg} {ρ : Rho} {P : Da → Prop}
theorem ae_globD {d : Da} (p : P d) : AE K (tD K d) ρ P := fun σ H H1 s e Q q v dv => q d p v H H1 (Gr.refl e fun _ => s.rowAt) (dv H)
theorem op_notB' {X : Cx} : OpR X (compareOp .IsNot) rNotB := op_isnot_bl
theorem ru_neg {i : Int} (p : P (.int (-i))) : RU K (rU fun i => .int (-i)) (.int i) P := fun H H1 v e dv Q q => by
  cases dv
  exact ⟨i, rfl, q _ p _ H H1 (GrN.rf e) (.int _)⟩
end
/-! ### shapes, equality -/
def Gd (n : Nat) (d : Da) : Prop := d.canLay0 = true ∧ d.depth ≤ n
def GdAll (n : Nat) (ds : List Da) : Prop := ∀ d ∈ ds, Gd n d
theorem Gd.mono {n m : Nat} {d : Da} (h : Gd n d) (l : n ≤ m) : Gd m d := ⟨h.1, Nat.le_trans h.2 l⟩
theorem gd_lay {n : Nat} : ∀ {ds : List Da}, GdAll n ds → PyData.canLayAll0 ds = true ∧ PyData.depthAll ds ≤ n
  | [], _ => ⟨by simp [PyData.canLayAll0], by simp [PyData.depthAll]⟩
  | d :: ds, h => by
    have a := h d List.mem_cons_self
    have b := gd_lay fun x hx => h x (List.mem_cons_of_mem _ hx)
    refine ⟨by simp [PyData.canLayAll0, a.1, b.1], ?_⟩
    have := a.2
    simp only [PyData.depthAll]
    omega
theorem gd_tup {n : Nat} {ds : List Da} (h : GdAll n ds) : Gd (n + 1) (.tuple ds) := by
  have b := gd_lay h
  exact ⟨by simp only [PyData.canLay0]; exact b.1, by simp only [PyData.depth]; omega⟩
theorem gd_lst {n : Nat} {ds : List Da} (h : GdAll n ds) : Gd (n + 1) (.list ds) := by
  have b := gd_lay h
  exact ⟨by simp only [PyData.canLay0]; exact b.1, by simp only [PyData.depth]; omega⟩
theorem gd_int {n : Nat} {i : Int} : Gd n (.int i) := ⟨by simp [PyData.canLay0], by simp [PyData.depth]⟩
theorem gd_bl {n : Nat} {i : Bool} : Gd n (.bool i) := ⟨by simp [PyData.canLay0], by simp [PyData.depth]⟩
theorem gd_non {n : Nat} : Gd n .none := ⟨by simp [PyData.canLay0], by simp [PyData.depth]⟩
theorem gd_nil {n : Nat} : GdAll n [] := fun d h => absurd h (by simp)
theorem gd_cons {n : Nat} {d : Da} {ds : List Da} (a : Gd n d) (b : GdAll n ds) : GdAll n (d :: ds) := fun x hx => by
  rcases List.mem_cons.mp hx with z | z
  · subst z
    exact a
  · exact b x z
theorem gd_map {α : Type} {n : Nat} {f : α → Da} {xs : List α} (h : ∀ x ∈ xs, Gd n (f x)) : GdAll n (xs.map f) := fun d hd => by
  obtain ⟨x, hx, rfl⟩ := List.mem_map.mp hd
  exact h x hx
theorem Gd.sh {n : Nat} {d : Da} (h : Gd n d) (l : n ≤ 64) : SeqAt.shaped d = true := by
  show (d.canLay0 && decide (d.depth ≤ 64)) = true
  rw [h.1, Bool.true_and]
  exact decide_eq_true (Nat.le_trans h.2 l)
theorem gd_nums {ns : List Int} : GdAll 0 (nums ns) := gd_map fun _ _ => gd_int
theorem gd_tupI {ns : List Int} : Gd 1 (tupI ns) := gd_tup gd_nums
abbrev clubs (cs : List (List Int)) : List Da := cs.map tupI
theorem gd_clubs {cs : List (List Int)} : GdAll 1 (clubs cs) := gd_map fun _ _ => gd_tupI
theorem sh_int {i : Int} : SeqAt.shaped (.int i) = true := (gd_int (n := 0)).sh (by decide)
theorem sh_bl {i : Bool} : SeqAt.shaped (.bool i) = true := (gd_bl (n := 0)).sh (by decide)
theorem sh_non : SeqAt.shaped .none = true := (gd_non (n := 0)).sh (by decide)
theorem eqv_bl {b : Bool} : PyData.eqv (.bool b) (.bool b) = true := by simp [PyData.eqv]
theorem sh_tupI {ns : List Int} : SeqAt.shaped (tupI ns) = true := gd_tupI.sh (by decide)
theorem sh_clubsT {cs : List (List Int)} : SeqAt.shaped (.tuple (clubs cs)) = true := (gd_tup gd_clubs).sh (by decide)
theorem sh_clubsL {cs : List (List Int)} : SeqAt.shaped (.list (clubs cs)) = true := (gd_lst gd_clubs).sh (by decide)
theorem sh_nilL : SeqAt.shaped (.list []) = true := (gd_lst (n := 0) gd_nil).sh (by decide)
theorem eqv_int {i j : Int} : PyData.eqv (.int i) (.int j) = decide (i = j) := by
  simp only [PyData.eqv]
  by_cases e : i = j
  · subst e; simp
  · rw [decide_eq_false e]; exact beq_eq_false_iff_ne.mpr e
theorem eqv_str {i j : Str} : PyData.eqv (.str i) (.str j) = decide (i = j) := by
  simp only [PyData.eqv]
  by_cases e : i = j
  · subst e; simp
  · rw [decide_eq_false e]; exact beq_eq_false_iff_ne.mpr e
theorem eqvAll_map {α : Type} [DecidableEq α] {f : α → Da} (h : ∀ x y, PyData.eqv (f x) (f y) = decide (x = y)) : ∀ xs ys : List α, PyData.eqvAll (xs.map f) (ys.map f) = decide (xs = ys)
  | [], [] => by simp [PyData.eqvAll]
  | [], _ :: _ => by simp [PyData.eqvAll]
  | _ :: _, [] => by simp [PyData.eqvAll]
  | x :: xs, y :: ys => by
    rw [List.map_cons, List.map_cons, PyData.eqvAll, h, eqvAll_map h xs ys]
    by_cases e : x = y
    · subst e
      simp
    · simp [e]
theorem eqv_tupI {a b : List Int} : PyData.eqv (tupI a) (tupI b) = decide (a = b) := by
  rw [PyData.eqv]
  exact eqvAll_map (fun _ _ => eqv_int) a b
theorem any_int {ns : List Int} {p : Int} : ((nums ns).any fun z => PyData.eqv z (.int p)) = decide (p ∈ ns) := by
  unfold nums
  rw [List.any_map]
  induction ns with
  | nil => simp
  | cons n ns ih =>
    rw [List.any_cons, ih]
    show (PyData.eqv (.int n) (.int p) || decide (p ∈ ns)) = _
    rw [eqv_int]
    by_cases e : n = p
    · subst e; simp
    · have e' : ¬ p = n := fun z => e z.symm
      simp [e, e']
theorem any_club {cs : List (List Int)} {c : List Int} : ((clubs cs).any fun z => PyData.eqv z (tupI c)) = decide (c ∈ cs) := by
  unfold clubs
  rw [List.any_map]
  induction cs with
  | nil => simp
  | cons n ns ih =>
    rw [List.any_cons, ih]
    show (PyData.eqv (tupI n) (tupI c) || decide (c ∈ ns)) = _
    rw [eqv_tupI]
    by_cases e : n = c
    · subst e; simp
    · have e' : ¬ c = n := fun z => e z.symm
      simp [e, e']
theorem eqv_nil {cs : List Da} : PyData.eqv (.list cs) (.list []) = cs.isEmpty := by
  cases cs <;> simp [PyData.eqv, PyData.eqvAll]
/-- the words of the rules -/
def wd (b : Bool) : Str := if b then "odd" else "even"
theorem wd_inj : ∀ {a b : Bool}, wd a = wd b → a = b := by decide
theorem gd_wd {b : Bool} {n : Nat} : Gd n (.str (wd b)) := ⟨by cases b <;> (simp only [PyData.canLay0]; decide +kernel), by simp [PyData.depth]⟩
abbrev ruleD (r : Bool × Bool) : Da := .tuple [.str (wd r.1), .str (wd r.2)]
theorem gd_rule {r : Bool × Bool} : Gd 1 (ruleD r) := gd_tup (gd_cons gd_wd (gd_cons gd_wd gd_nil))
theorem eqv_wd {a b : Bool} : PyData.eqv (.str (wd a)) (.str (wd b)) = decide (a = b) := by
  rw [eqv_str]
  by_cases e : a = b
  · subst e; simp
  · rw [decide_eq_false e, decide_eq_false fun z => e (wd_inj z)]
theorem eqv_rule {a b : Bool × Bool} : PyData.eqv (ruleD a) (ruleD b) = decide (a = b) := by
  obtain ⟨a1, a2⟩ := a
  obtain ⟨b1, b2⟩ := b
  simp only [ruleD, PyData.eqv, PyData.eqvAll]
  have h1 := eqv_wd (a := a1) (b := b1)
  have h2 := eqv_wd (a := a2) (b := b2)
  simp only [PyData.eqv] at h1 h2
  rw [h1, h2]
  revert a1 a2 b1 b2
  decide
theorem sh_wd {b : Bool} : SeqAt.shaped (.str (wd b)) = true := (gd_wd (n := 0)).sh (by decide)
theorem sh_rule {r : Bool × Bool} : SeqAt.shaped (ruleD r) = true := gd_rule.sh (by decide)
theorem sh_rules {rs : List (Bool × Bool)} : SeqAt.shaped (.tuple (rs.map ruleD)) = true := (gd_tup (gd_map fun _ _ => gd_rule)).sh (by decide)
theorem sh_odd : SeqAt.shaped (.str "odd") = true := sh_wd (b := true)
/-- a town -/
abbrev townD (n : Int) (cs : List (List Int)) : Da := .tuple [.int n, .tuple (clubs cs)]
theorem gd_town {n : Int} {cs : List (List Int)} : Gd 3 (townD n cs) := gd_tup (gd_cons gd_int (gd_cons (gd_tup gd_clubs) gd_nil))
/-! ### isinstance of data -/
def isI : Da → Bool
  | .int _ => true
  | .bool _ => true
  | _ => false
def isB : Da → Bool
  | .bool _ => true
  | _ => false
def isTu : Da → Bool
  | .tuple _ => true
  | _ => false
def isLi : Da → Bool
  | .list _ => true
  | _ => false
def isSt : Da → Bool
  | .str _ => true
  | _ => false
theorem kit_I (d : Da) : kitB (tyName d) "int" = some (isI d) := by cases d <;> (simp only [tyName, isI, isB, isTu, isLi, isSt]; decide +kernel)
theorem kit_B (d : Da) : kitB (tyName d) "bool" = some (isB d) := by cases d <;> (simp only [tyName, isI, isB, isTu, isLi, isSt]; decide +kernel)
theorem kit_T (d : Da) : kitB (tyName d) "tuple" = some (isTu d) := by cases d <;> (simp only [tyName, isI, isB, isTu, isLi, isSt]; decide +kernel)
theorem kit_L (d : Da) : kitB (tyName d) "list" = some (isLi d) := by cases d <;> (simp only [tyName, isI, isB, isTu, isLi, isSt]; decide +kernel)
theorem kit_S (d : Da) : kitB (tyName d) "str" = some (isSt d) := by cases d <;> (simp only [tyName, isI, isB, isTu, isLi, isSt]; decide +kernel)
section
variable {K : Frg} {ρ : Rho} {te : TE} {P : Da → Prop}
theorem ae_isI (h : AE K te ρ fun d => P (.bool (isI d))) : AE K (tCB (rIsi K) (tCons te (tCons (tC (.ty "int")) tNil))) ρ P := ae_isi (h.imp fun d p => ⟨_, kit_I d, p⟩)
theorem ae_isB (h : AE K te ρ fun d => P (.bool (isB d))) : AE K (tCB (rIsi K) (tCons te (tCons (tC (.ty "bool")) tNil))) ρ P := ae_isi (h.imp fun d p => ⟨_, kit_B d, p⟩)
theorem ae_isT (h : AE K te ρ fun d => P (.bool (isTu d))) : AE K (tCB (rIsi K) (tCons te (tCons (tC (.ty "tuple")) tNil))) ρ P := ae_isi (h.imp fun d p => ⟨_, kit_T d, p⟩)
theorem ae_isL (h : AE K te ρ fun d => P (.bool (isLi d))) : AE K (tCB (rIsi K) (tCons te (tCons (tC (.ty "list")) tNil))) ρ P := ae_isi (h.imp fun d p => ⟨_, kit_L d, p⟩)
theorem ae_isS (h : AE K te ρ fun d => P (.bool (isSt d))) : AE K (tCB (rIsi K) (tCons te (tCons (tC (.ty "str")) tNil))) ρ P := ae_isi (h.imp fun d p => ⟨_, kit_S d, p⟩)
theorem ae_isTL (h : AE K te ρ fun d => P (.bool (isTu d || isLi d))) : AE K (tCB (rIsiT K) (tCons te (tCons (tTup (tCons (tC (.ty "tuple")) (tCons (tC (.ty "list")) tNil))) tNil))) ρ P := ae_isi2 (h.imp fun d p => ⟨_, _, kit_T d, kit_L d, p⟩)
end
theorem un65 {k : Nat} {A : Around} (r : Room k A) : A.units + 65 < cLine := by
  have := r.un
  omega
/-! ### the rules, the written part named -/
section
variable {X : Cx} {K : Frg}
theorem op_eqK (hk : X.K = K) (hu : X.A.units + 64 < cLine) : OpR X (compareOp .Eq) (rEqD K) := by subst hk; exact op_eqD hu
theorem op_neK (hk : X.K = K) (hu : X.A.units + 64 < cLine) : OpR X (compareOp .NotEq) (rNeD K) := by subst hk; exact op_neD hu
theorem op_ltK (hk : X.K = K) (hu : X.A.units < cLine) : OpR X (compareOp .Lt) (rLtA K) := by subst hk; exact op_ltA hu
theorem op_inK (hk : X.K = K) (hu : X.A.units + 65 < cLine) : OpR X (compareOp .In) (rInB K id) := by subst hk; exact op_inB hu
theorem op_notInK (hk : X.K = K) (hu : X.A.units + 65 < cLine) : OpR X (compareOp .NotIn) (rInB K not) := by subst hk; exact op_notInB hu
theorem op_addK (hk : X.K = K) : OpR X (binaryOp .Add) (rAddA K) := by subst hk; exact op_addA
theorem ix_K (hk : X.K = K) : IxR X (rIx K) := by subst hk; exact ix_seq
theorem sl_K (hk : X.K = K) : SlR X (rSlQ K) := by subst hk; exact sl_any
theorem call_lenK (hk : X.K = K) : CallR X (.builtin "len") (rLen K) := by subst hk; exact call_len'
theorem call_tupK (hk : X.K = K) : CallR X (.type "tuple") (rTupleOf K) := by subst hk; exact call_tupleOf
theorem call_lstK (hk : X.K = K) : CallR X (.type "list") (rListOf K) := by subst hk; exact call_listOf
theorem call_sortK (hk : X.K = K) (hu : X.A.units + 64 < cLine) : CallR X (.builtin "sorted") (rSortT K) := by subst hk; exact call_sortT hu
theorem call_isiK (hk : X.K = K) : CallR X (.builtin "isinstance") (rIsi K) := by subst hk; exact call_isi
theorem call_isiTK (hk : X.K = K) : CallR X (.builtin "isinstance") (rIsiT K) := by subst hk; exact call_isiT
theorem pe_globK (hk : X.K = K) {x : Str} {d : Da} {pos : Pos} (h : GlobC K X.mg x d) (hg : Gl X x) (hd : (x == ("__debug__" : Str)) = false := by decide) : PE X (.Name x pos) (tD K d) := by subst hk; exact pe_globD h hg hd
theorem pi_seqK (hk : X.K = K) {tg l : Expr} {tl : TE} (hl : PE X l tl) : PI X tg l (iSeq K tl) := by subst hk; exact pi_seq hl
theorem pi_zipK (hk : X.K = K) {e e2 : Expr} {ta : TA} {p pos tpos : Pos} {elts : List Expr} {kk : Nat} (hg : Gl X "zip") (hm : X.mg "zip" = none) (ha : PA X [e, e2] ta)
    (hs : starEach [e, e2] X.env = (false, eval e X.env) :: starEach [e2] X.env := by rfl) (hpl : (backTo pos (starEach [e2] X.env)).any (·.1) = false := by rfl) :
    PI X (.Tuple elts kk tpos) (.Call (.Name "zip" p) [e, e2] [] pos) (RZ.iZipA K ta) := by subst hk; exact RZ.pi_zipA hg hm ha hs hpl
theorem pi_enumK (hk : X.K = K) {e : Expr} {ta : TA} {p pos tpos : Pos} {elts : List Expr} {kk : Nat} (hg : Gl X "enumerate") (hm : X.mg "enumerate" = none) (ha : PA X [e] ta) (hs : starEach [e] X.env = [(false, eval e X.env)] := by rfl) :
    PI X (.Tuple elts kk tpos) (.Call (.Name "enumerate" p) [e] [] pos) (iEnumT K ta) := by subst hk; exact pi_enumT hg hm ha hs
theorem pe_bmK (hk : X.K = K) {e : Expr} {T : String} {r : V → List V → Hp → VK → Prop} {ta : TE} {t : TA} (h : PE X e (tBM X.K T r ta t)) : PE X e (tBM K T r ta t) := by subst hk; exact h
theorem pg_tupK (hk : X.K = K) {es : List Expr} {k : Nat} {t : TGs} {n : Nat} {pos : Pos} (hc : X.calm = true) (h : PGs X es t) (hn : (assignEach es X.env).length = n := by rfl) (hst : (assignEach es X.env).findIdx? (·.1) = none := by rfl) : PG X (.Tuple es k pos) (gTup K n t) := by
  subst hk
  exact pg_tup hc h hn hst
end
/-! ### two names at once -/
theorem so_asg2 {K : Frg} {ρ : Rho} {O : Out → Prop} {te : TE} {i j m : Nat} (hm : 2 = m) (ni : ρ[i]? ≠ some .row) (nj : ρ[j]? ≠ some .row) (h : AE K te ρ fun d => ∃ a b, d = .tuple [a, b] ∧ O (.nx ((ρ.set i (.dat a)).set j (.dat b)))) :
    SO K (tAsg te (gTup K m (gCons (gName i) (gCons (gName j) gNil)))) ρ O := so_asg (is := [i] ++ ([j] ++ [])) (h.imp fun d ⟨a, b, e, o⟩ => by
  subst e
  refine ⟨_, at_tup hm (ats_cons (at_name ni) (ats_cons (at_name fun z => ?_) ats_nil)), o⟩
  rcases set_get z with ⟨_, y, _⟩ | ⟨_, y⟩
  · cases y
  · exact nj y)
theorem at_two {K : Frg} {ρ : Rho} {i j m : Nat} {a b : Da} (hm : 2 = m) (ni : ρ[i]? ≠ some .row) (nj : ρ[j]? ≠ some .row) : AT K (gTup K m (gCons (gName i) (gCons (gName j) gNil))) ([i] ++ ([j] ++ [])) ρ (.tuple [a, b]) ((ρ.set i (.dat a)).set j (.dat b)) :=
  at_tup hm (ats_cons (at_name ni) (ats_cons (at_name fun z => by
    rcases set_get z with ⟨_, y, _⟩ | ⟨_, y⟩
    · cases y
    · exact nj y) ats_nil))
/-! ### short displays -/
section
variable {K : Frg} {ρ : Rho} {ta tb : TE} {P : Da → Prop}
theorem ae_tup1 (h : AE K ta ρ fun a => P (.tuple [a])) : AE K (tTup (tCons ta tNil)) ρ P := ae_tup (aa_cons (h.imp fun a p => aa_nil ⟨by show 1 ≤ sizeLine; decide, p⟩))
theorem ae_tup2 (h : AE K ta ρ fun a => AE K tb ρ fun b => P (.tuple [a, b])) : AE K (tTup (tCons ta (tCons tb tNil))) ρ P := ae_tup (aa_cons (h.imp fun a p => aa_cons (p.imp fun b q => aa_nil ⟨by show 2 ≤ sizeLine; decide, q⟩)))
theorem ae_tup0 (p : P (.tuple [])) : AE K (tTup tNil) ρ P := ae_tup (aa_nil ⟨by show 0 ≤ sizeLine; decide, p⟩)
theorem ae_lst0 (p : P (.list [])) : AE K (tLst tNil) ρ P := af_ae (af_lst (aa_nil ⟨by show 0 ≤ sizeLine; decide, p⟩))
theorem ae_lst1 (h : AE K ta ρ fun a => P (.list [a])) : AE K (tLst (tCons ta tNil)) ρ P := af_ae (af_lst (aa_cons (h.imp fun a p => aa_nil ⟨by show 1 ≤ sizeLine; decide, p⟩)))
theorem ae_lst2 (h : AE K ta ρ fun a => AE K tb ρ fun b => P (.list [a, b])) : AE K (tLst (tCons ta (tCons tb tNil))) ρ P := af_ae (af_lst (aa_cons (h.imp fun a p => aa_cons (p.imp fun b q => aa_nil ⟨by show 2 ≤ sizeLine; decide, q⟩))))
theorem af_lst0 {P : List Da → Prop} (p : P []) : AF K (tLst tNil) ρ P := af_lst (aa_nil ⟨by show 0 ≤ sizeLine; decide, p⟩)
end
/-! ### ends -/
section
variable {K : Frg} {ρ : Rho} {P : Da → Prop} {O N : Out → Prop} {u : TS} {d : Da}
theorem thenO_nx (h : SO K u ρ O) : thenO K u O (.nx ρ) := h
theorem thenO_rt (h : O (.rt d)) : thenO K u O (.rt d) := h
theorem thenO_bk (h : O (.bk ρ)) : thenO K u O (.bk ρ) := h
theorem thenO_ct (h : O (.ct ρ)) : thenO K u O (.ct ρ) := h
theorem retO_rt (h : P d) : retO P (.rt d) := h
theorem retO_nx (h : P .none) : retO P (.nx ρ) := h
theorem loopO_nx (h : N (.nx ρ)) : loopO N O (.nx ρ) := h
theorem loopO_ct (h : N (.nx ρ)) : loopO N O (.ct ρ) := h
theorem loopO_bk (h : O (.nx ρ)) : loopO N O (.bk ρ) := h
theorem loopO_rt (h : O (.rt d)) : loopO N O (.rt d) := h
end
/-! ### ways -/
theorem wayT {b : Bool} {A C : Prop} (e : b = true) (h : A) : (b = true → A) ∧ (b = false → C) := ⟨fun _ => h, fun z => absurd (e.symm.trans z) (by decide)⟩
theorem wayF {b : Bool} {A C : Prop} (e : b = false) (h : C) : (b = true → A) ∧ (b = false → C) := ⟨fun z => absurd (e.symm.trans z) (by decide), fun _ => h⟩
theorem wayT' {b : Bool} {A C : Prop} (e : b = true) (h : A) : (b = false → C) ∧ (b = true → A) := ⟨fun z => absurd (e.symm.trans z) (by decide), fun _ => h⟩
theorem wayF' {b : Bool} {A C : Prop} (e : b = false) (h : C) : (b = false → C) ∧ (b = true → A) := ⟨fun _ => h, fun z => absurd (e.symm.trans z) (by decide)⟩
theorem jk_nr {o : Option Da} : some (jk o) ≠ some Cell.row := by cases o <;> (intro h; cases h)
theorem jk_dat (d : Da) : Cell.dat d = jk (some d) := rfl
/-- a loop over data, by a word of what is left and the slots -/
theorem loop_d {K : Frg} {g : TG} {is : List Nat} {tb : TS} {O : Out → Prop} (I : List Da → Rho → Prop) (hs : ∀ x xs ρ, I (x :: xs) ρ → ∃ ρ1, AT K g is ρ x ρ1 ∧ SO K tb ρ1 (loopO (fun o => match o with | .nx ρ' => I xs ρ' | _ => False) O)) (he : ∀ ρ, I [] ρ → O (.nx ρ)) (xs : List Da) (ρ : Rho) (h : I xs ρ) :
    LoopD K g is tb O xs ρ := by
  have q := loop_by (K := K) (g := g) (is := is) (tb := tb) (O := O) (fun x : Da => x) I hs he xs ρ h
  rw [List.map_id'] at q
  exact q
theorem cut_from {ds : List Da} {k : Nat} : cutD ds (some (k : Int)) none = ds.drop k := by
  unfold cutD
  rw [HT.sIx_nat, HT.sIx_none]
  by_cases h : k ≤ ds.length
  · rw [Nat.min_eq_left h]
    exact List.take_of_length_le (by rw [List.length_drop]; omega)
  · rw [Nat.min_eq_right (by omega), Nat.sub_self, List.take_zero, List.drop_eq_nil_of_le (by omega)]
theorem zip_pair : ∀ as bs : List (List Int), List.zipWith (fun x y => PyData.tuple [x, y]) (clubs as) (clubs bs) = (as.zip bs).map fun p => .tuple [tupI p.1, tupI p.2]
  | [], bs => rfl
  | a :: as, [] => rfl
  | a :: as, b :: bs => by
    have ih := zip_pair as bs
    show PyData.tuple [tupI a, tupI b] :: List.zipWith _ (clubs as) (clubs bs) = _
    rw [ih]
    rfl
theorem enum_from : ∀ (cs : List (List Int)) (k : Nat), List.zipWith (fun (i : Nat) x => PyData.tuple [.int (i : Int), x]) (List.range' k cs.length) (clubs cs) = (cs.zipIdx k).map fun p => .tuple [.int (p.2 : Int), tupI p.1]
  | [], _ => rfl
  | c :: cs, k => by
    have ih := enum_from cs (k + 1)
    show PyData.tuple [.int (k : Int), tupI c] :: List.zipWith _ (List.range' (k + 1) cs.length) (clubs cs) = _
    rw [ih]
    rfl
theorem enum_clubs {cs : List (List Int)} : List.zipWith (fun (i : Nat) x => PyData.tuple [.int (i : Int), x]) (List.range (clubs cs).length) (clubs cs) = cs.zipIdx.map fun p => .tuple [.int (p.2 : Int), tupI p.1] := by
  rw [List.length_map, List.range_eq_range']
  exact enum_from cs 0
theorem len_nums {c : List Int} : ((nums c).length : Int) = (c.length : Int) := by
  show ((c.map PyData.int).length : Int) = _
  rw [List.length_map]
def four : List (Bool × Bool) := [(false, false), (false, true), (true, false), (true, true)]
end Ft

/-! part: FtV -/
set_option Elab.async false
set_option linter.all false
namespace Ft
/-! ### rows of bits -/
abbrev Vec := List Bool
def dot : Vec → Vec → Bool
  | a :: x, b :: y => (a && b) ^^ dot x y
  | _, _ => false
def add : Vec → Vec → Vec
  | a :: x, b :: y => (a ^^ b) :: add x y
  | _, _ => []
def vecs : Nat → List Vec
  | 0 => [[]]
  | n + 1 => (vecs n).map (false :: ·) ++ (vecs n).map (true :: ·)
def zer (n : Nat) : Vec := List.replicate n false
def ones (n : Nat) : Vec := List.replicate n true
theorem nodup_sub_len {α : Type} [DecidableEq α] : ∀ {l l' : List α}, l.Nodup → (∀ x ∈ l, x ∈ l') → l.length ≤ l'.length
  | [], _, _, _ => Nat.zero_le _
  | a :: l, l', h, s => by
    have h' := List.nodup_cons.mp h
    have ih := nodup_sub_len (l := l) (l' := l'.erase a) h'.2 fun x hx => (List.mem_erase_of_ne (fun e : x = a => h'.1 (by rw [← e]; exact hx))).mpr (s x (List.mem_cons_of_mem _ hx))
    have ha := s a List.mem_cons_self
    rw [List.length_erase_of_mem ha] at ih
    have := List.length_pos_of_mem ha
    simp only [List.length_cons]
    omega
theorem nodup_map {α β : Type} {f : α → β} : ∀ {l : List α}, l.Nodup → (∀ x ∈ l, ∀ y ∈ l, f x = f y → x = y) → (l.map f).Nodup
  | [], _, _ => List.nodup_nil
  | a :: l, h, s => by
    have h' := List.nodup_cons.mp h
    refine List.nodup_cons.mpr ⟨fun z => ?_, nodup_map h'.2 fun x hx y hy => s x (List.mem_cons_of_mem _ hx) y (List.mem_cons_of_mem _ hy)⟩
    obtain ⟨b, hb, e⟩ := List.mem_map.mp z
    exact h'.1 (s b (List.mem_cons_of_mem _ hb) a List.mem_cons_self e ▸ hb)
theorem nodup_same_len {α : Type} [DecidableEq α] {l l' : List α} (h : l.Nodup) (h' : l'.Nodup) (e : ∀ x, x ∈ l ↔ x ∈ l') : l.length = l'.length :=
  Nat.le_antisymm (nodup_sub_len h fun x z => (e x).mp z) (nodup_sub_len h' fun x z => (e x).mpr z)
theorem dot_comm : ∀ x y : Vec, dot x y = dot y x
  | [], [] => rfl
  | [], _ :: _ => rfl
  | _ :: _, [] => rfl
  | a :: x, b :: y => by simp only [dot, dot_comm x y, Bool.and_comm a b]
theorem dot_add : ∀ {x y : Vec} (z : Vec), x.length = y.length → dot (add x y) z = (dot x z ^^ dot y z)
  | [], [], _, _ => by simp [add, dot]
  | a :: x, b :: y, [], _ => by simp [add, dot]
  | a :: x, b :: y, c :: z, h => by
    simp only [add, dot, dot_add (x := x) (y := y) z (by simpa using h)]
    cases a <;> cases b <;> cases c <;> simp
theorem add_len : ∀ {x y : Vec}, x.length = y.length → (add x y).length = y.length
  | [], [], _ => rfl
  | a :: x, b :: y, h => by simp only [add, List.length_cons, add_len (x := x) (y := y) (by simpa using h)]
theorem add_self : ∀ x : Vec, add x x = zer x.length
  | [] => rfl
  | a :: x => by simp only [add, add_self x, Bool.xor_self]; rfl
theorem add_zer : ∀ {x : Vec} {n : Nat}, x.length = n → add x (zer n) = x
  | [], _, _ => by simp [add]
  | a :: x, n + 1, h => by
    show add (a :: x) (false :: zer n) = _
    simp only [add, add_zer (x := x) (n := n) (by simpa using h), Bool.xor_false]
theorem add_comm : ∀ x y : Vec, add x y = add y x
  | [], [] => rfl
  | [], _ :: _ => rfl
  | _ :: _, [] => rfl
  | a :: x, b :: y => by simp only [add, add_comm x y, Bool.xor_comm a b]
theorem add_assoc : ∀ x y z : Vec, add (add x y) z = add x (add y z)
  | [], _, _ => by simp [add]
  | _ :: _, [], _ => by simp [add]
  | _ :: _, _ :: _, [] => by simp [add]
  | a :: x, b :: y, c :: z => by simp only [add, add_assoc x y z, Bool.xor_assoc]
theorem add_back {x y : Vec} (h : x.length = y.length) : add x (add x y) = y := by
  rw [← add_assoc, add_self, add_comm, add_zer h.symm]
theorem zer_len (n : Nat) : (zer n).length = n := List.length_replicate
theorem ones_len (n : Nat) : (ones n).length = n := List.length_replicate
theorem dot_zer : ∀ (n : Nat) (x : Vec), dot (zer n) x = false
  | 0, _ => by simp [zer, dot]
  | n + 1, [] => by simp [dot, zer]
  | n + 1, a :: x => by
    show (false && a ^^ dot (zer n) x) = false
    simp [dot_zer n x]
theorem dot_ones : ∀ {x : Vec} {n : Nat}, x.length = n → dot x (ones n) = dot x x
  | [], _, _ => by simp [dot]
  | a :: x, n + 1, h => by
    show (a && true ^^ dot x (ones n)) = _
    simp [dot, dot_ones (x := x) (n := n) (by simpa using h)]
theorem dot_self_add {x y : Vec} (h : x.length = y.length) : dot (add x y) (add x y) = (dot x x ^^ dot y y) := by
  have e := add_len h
  rw [← dot_ones e, dot_add _ h, dot_ones h, dot_ones rfl]
theorem mem_vecs : ∀ {n : Nat} {v : Vec}, v ∈ vecs n ↔ v.length = n
  | 0, v => by simp [vecs]
  | n + 1, v => by
    rw [vecs, List.mem_append, List.mem_map, List.mem_map]
    constructor
    · rintro (⟨x, hx, rfl⟩ | ⟨x, hx, rfl⟩) <;> simp [mem_vecs.mp hx]
    · intro h
      match v, h with
      | false :: x, h => exact .inl ⟨x, mem_vecs.mpr (by simpa using h), rfl⟩
      | true :: x, h => exact .inr ⟨x, mem_vecs.mpr (by simpa using h), rfl⟩
theorem vecs_len : ∀ n, (vecs n).length = 2 ^ n
  | 0 => rfl
  | n + 1 => by
    rw [vecs, List.length_append, List.length_map, List.length_map, vecs_len n, Nat.pow_succ]
    omega
theorem vecs_nodup : ∀ n, (vecs n).Nodup
  | 0 => by simp [vecs]
  | n + 1 => by
    rw [vecs, List.nodup_append]
    refine ⟨nodup_map (vecs_nodup n) fun x _ y _ e => (List.cons.inj e).2, nodup_map (vecs_nodup n) fun x _ y _ e => (List.cons.inj e).2, fun a ha b hb e => ?_⟩
    obtain ⟨x, _, rfl⟩ := List.mem_map.mp ha
    obtain ⟨y, _, rfl⟩ := List.mem_map.mp hb
    cases e

/-! ### a sum of signs -/
def sg (b : Bool) : Int := if b then -1 else 1
def isum : List Int → Int
  | [] => 0
  | a :: l => a + isum l
theorem isum_app : ∀ l m : List Int, isum (l ++ m) = isum l + isum m
  | [], m => by simp [isum]
  | a :: l, m => by simp only [List.cons_append, isum, isum_app l m]; omega
theorem isum_mul (c : Int) : ∀ l : List Int, isum (l.map (c * ·)) = c * isum l
  | [] => by simp [isum]
  | a :: l => by simp only [List.map_cons, isum, isum_mul c l, Int.mul_add]
theorem isum_add {α : Type} (f g : α → Int) : ∀ l : List α, isum (l.map fun x => f x + g x) = isum (l.map f) + isum (l.map g)
  | [] => by simp [isum]
  | a :: l => by simp only [List.map_cons, isum, isum_add f g l]; omega
theorem isum_zero {α : Type} : ∀ l : List α, isum (l.map fun _ => (0 : Int)) = 0
  | [] => rfl
  | a :: l => by simp only [List.map_cons, isum, isum_zero l]; omega
theorem isum_swap {α β : Type} (f : α → β → Int) (m : List β) : ∀ l : List α, isum (l.map fun x => isum (m.map fun y => f x y)) = isum (m.map fun y => isum (l.map fun x => f x y))
  | [] => by simp only [List.map_nil, isum, isum_zero]
  | a :: l => by
    simp only [List.map_cons, isum, isum_swap f m l]
    rw [← isum_add]
theorem isum_if {α : Type} (c : Int) (p : α → Bool) : ∀ l : List α, isum (l.map fun x => if p x then c else 0) = c * ((l.filter p).length : Int)
  | [] => by simp [isum]
  | a :: l => by
    simp only [List.map_cons, isum, isum_if c p l, List.filter_cons]
    cases p a <;> simp [Int.mul_add]
    omega
theorem isum_sg {α : Type} (p : α → Bool) : ∀ l : List α, isum (l.map fun x => sg (p x)) = ((l.filter fun x => !p x).length : Int) - ((l.filter p).length : Int)
  | [] => by simp [isum]
  | a :: l => by
    simp only [List.map_cons, isum, isum_sg p l, List.filter_cons]
    cases p a <;> simp [sg] <;> omega
theorem chars : ∀ {n : Nat} {w : Vec}, w.length = n → isum ((vecs n).map fun v => sg (dot v w)) = if w = zer n then (2 ^ n : Int) else 0
  | 0, [], _ => by simp [vecs, isum, dot, sg, zer]
  | n + 1, b :: w, h => by
    have hw : w.length = n := by simpa using h
    have e : ∀ c : Bool, isum ((vecs n).map fun v => sg (dot (c :: v) (b :: w))) = sg (c && b) * isum ((vecs n).map fun v => sg (dot v w)) := fun c => by
      rw [← isum_mul, List.map_map]
      congr 2
      funext v
      show sg ((c && b) ^^ dot v w) = sg (c && b) * sg (dot v w)
      cases (c && b) <;> cases dot v w <;> rfl
    rw [vecs, List.map_append, isum_app, List.map_map, List.map_map]
    show isum ((vecs n).map fun v => sg (dot (false :: v) (b :: w))) + isum ((vecs n).map fun v => sg (dot (true :: v) (b :: w))) = _
    rw [e, e, chars hw]
    have z : (b :: w = zer (n + 1)) ↔ (b = false ∧ w = zer n) := by
      rw [show zer (n + 1) = false :: zer n from rfl, List.cons.injEq]
    by_cases hz : w = zer n
    · cases b
      · rw [if_pos hz, if_pos (z.mpr ⟨rfl, hz⟩)]
        simp [sg, Int.pow_succ]
        omega
      · rw [if_pos hz, if_neg (fun k => by cases (z.mp k).1)]
        simp [sg]
        omega
    · rw [if_neg hz, if_neg (fun k => hz (z.mp k).2)]
      simp
structure Grp (n : Nat) (W : List Vec) : Prop where
  nodup : W.Nodup
  len : ∀ w ∈ W, w.length = n
  zero : zer n ∈ W
  clo : ∀ a ∈ W, ∀ b ∈ W, add a b ∈ W
def perp (n : Nat) (W : List Vec) : List Vec := (vecs n).filter fun v => W.all fun w => !dot v w
theorem mem_perp {n : Nat} {W : List Vec} {v : Vec} : v ∈ perp n W ↔ v.length = n ∧ ∀ w ∈ W, dot v w = false := by
  rw [perp, List.mem_filter, mem_vecs, List.all_eq_true]
  simp
theorem perp_nodup {n : Nat} {W : List Vec} : (perp n W).Nodup := (vecs_nodup n).filter _
theorem Grp.half {n : Nat} {W : List Vec} (G : Grp n W) {v : Vec} (hv : v.length = n) : isum (W.map fun w => sg (dot v w)) = if (W.all fun w => !dot v w) then (W.length : Int) else 0 := by
  rw [isum_sg]
  by_cases h : (W.all fun w => !dot v w) = true
  · rw [if_pos h]
    rw [List.all_eq_true] at h
    rw [List.filter_eq_self.mpr fun x hx => by simpa using h x hx, List.filter_eq_nil_iff.mpr fun x hx => by simpa using h x hx]
    simp
  · rw [if_neg h]
    have : ∃ w ∈ W, dot v w = true := by
      simpa using h
    obtain ⟨w0, hw0, d0⟩ := this
    have le : ∀ p : Bool, (W.filter fun w => dot v w == p).length ≤ (W.filter fun w => dot v w == !p).length := fun p => by
      have nd : ((W.filter fun w => dot v w == p).map (add w0)).Nodup := nodup_map (G.nodup.filter _) fun x hx y hy e => by
        have lx := G.len x (List.mem_filter.mp hx).1
        have ly := G.len y (List.mem_filter.mp hy).1
        have l0 := G.len w0 hw0
        rw [← add_back (x := w0) (y := x) (by omega), e, add_back (by omega)]
      have := nodup_sub_len nd (l' := W.filter fun w => dot v w == !p) fun x hx => by
        obtain ⟨y, hy, rfl⟩ := List.mem_map.mp hx
        obtain ⟨hy, ey⟩ := List.mem_filter.mp hy
        refine List.mem_filter.mpr ⟨G.clo _ hw0 _ hy, ?_⟩
        rw [dot_comm, dot_add _ (by rw [G.len _ hw0, G.len _ hy]), dot_comm, d0, dot_comm y v]
        have ey : dot v y = p := by simpa using ey
        rw [ey]
        cases p <;> rfl
      rwa [List.length_map] at this
    have e1 : (fun w => !dot v w) = (fun w => dot v w == false) := by funext w; cases dot v w <;> rfl
    have e2 : (W.filter fun w => dot v w) = W.filter fun w => dot v w == true := by congr 1; funext w; cases dot v w <;> rfl
    have a := le false
    have b := le true
    rw [e1]
    have e3 := congrArg List.length e2
    simp only [Bool.not_false, Bool.not_true] at a b
    have e4 : (W.filter fun w => dot v w).length = (W.filter fun w => dot v w == false).length := by omega
    have e5 : (W.filter fun w => dot v w) = List.filter (dot v) W := rfl
    rw [e5] at e4
    omega
theorem Grp.card {n : Nat} {W : List Vec} (G : Grp n W) : W.length * (perp n W).length = 2 ^ n := by
  have a : isum ((vecs n).map fun v => isum (W.map fun w => sg (dot v w))) = (W.length : Int) * ((perp n W).length : Int) := by
    rw [perp, ← isum_if]
    congr 1
    refine List.map_congr_left fun v hv => ?_
    exact G.half (mem_vecs.mp hv)
  have b : isum (W.map fun w => isum ((vecs n).map fun v => sg (dot v w))) = (2 ^ n : Int) := by
    have : W.map (fun w => isum ((vecs n).map fun v => sg (dot v w))) = W.map fun w => if decide (w = zer n) then (2 ^ n : Int) else 0 := List.map_congr_left fun w hw => by
      rw [chars (G.len w hw)]
      simp
    rw [this, isum_if]
    have : (W.filter fun w => decide (w = zer n)).length = 1 := by
      refine nodup_same_len (l' := [zer n]) (G.nodup.filter _) (by simp) fun x => ?_
      rw [List.mem_filter]
      constructor
      · intro h
        simpa using h.2
      · intro h
        have : x = zer n := by simpa using h
        subst this
        exact ⟨G.zero, by simp⟩
    rw [this]
    omega
  rw [isum_swap, b] at a
  have : ((W.length * (perp n W).length : Nat) : Int) = ((2 ^ n : Nat) : Int) := by
    rw [Int.natCast_mul, ← a]
    simp
  exact Int.ofNat.inj this
end Ft

/-! part: FtW -/
set_option Elab.async false
set_option linter.all false
namespace Ft
/-! ### towns of rows of bits: a rule r, true for odd: r.1 of sizes, r.2 of what two share -/
structure KeepV (n : Nat) (r : Bool × Bool) (X : List Vec) : Prop where
  nodup : X.Nodup
  len : ∀ a ∈ X, a.length = n
  size : ∀ a ∈ X, dot a a = r.1
  meet : ∀ a ∈ X, ∀ b ∈ X, a ≠ b → dot a b = r.2
def FitV (r : Bool × Bool) (X : List Vec) (v : Vec) : Prop := dot v v = r.1 ∧ ∀ a ∈ X, dot v a = r.2
def FullV (n : Nat) (r : Bool × Bool) (X : List Vec) : Prop := ∀ v, v.length = n → FitV r X v → v ∈ X
def mostN (n : Nat) : Bool × Bool → Nat
  | (true, false) => n
  | (false, true) => if n % 2 = 1 then n else n - 1
  | (false, false) => 2 ^ (n / 2)
  | (true, true) => 2 ^ ((n - 1) / 2)
theorem KeepV.le {n : Nat} {r : Bool × Bool} {X : List Vec} (h : KeepV n r X) : X.length ≤ 2 ^ n := by
  rw [← vecs_len n]
  exact nodup_sub_len h.nodup fun x hx => mem_vecs.mpr (h.len x hx)
theorem KeepV.snoc {n : Nat} {r : Bool × Bool} {X : List Vec} (h : KeepV n r X) {v : Vec} (hv : v.length = n) (f : FitV r X v) (nx : v ∉ X) : KeepV n r (X ++ [v]) where
  nodup := by
    rw [List.nodup_append]
    refine ⟨h.nodup, by simp, fun a ha b hb e => nx ?_⟩
    have : b = v := by simpa using hb
    rw [← this, ← e]
    exact ha
  len := fun a ha => by
    rcases List.mem_append.mp ha with z | z
    · exact h.len a z
    · rw [show a = v by simpa using z, hv]
  size := fun a ha => by
    rcases List.mem_append.mp ha with z | z
    · exact h.size a z
    · rw [show a = v by simpa using z, f.1]
  meet := fun a ha b hb ne => by
    rcases List.mem_append.mp ha with z | z <;> rcases List.mem_append.mp hb with y | y
    · exact h.meet a z b y ne
    · rw [show b = v by simpa using y, dot_comm]
      exact f.2 a z
    · rw [show a = v by simpa using z]
      exact f.2 b y
    · exact absurd ((show a = v by simpa using z).trans (show b = v by simpa using y).symm) ne
theorem KeepV.grow {n : Nat} {r : Bool × Bool} : ∀ (k : Nat) {X : List Vec}, KeepV n r X → 2 ^ n ≤ X.length + k → ∃ Y, KeepV n r Y ∧ FullV n r Y ∧ ∀ x ∈ X, x ∈ Y
  | k, X, h, hk => by
    by_cases f : FullV n r X
    · exact ⟨X, h, f, fun x z => z⟩
    · have : ∃ v : Vec, v.length = n ∧ FitV r X v ∧ v ∉ X := by
        refine Classical.byContradiction fun no => f fun v hv fv => Classical.byContradiction fun nx => no ⟨v, hv, fv, nx⟩
      obtain ⟨v, hv, fv, nx⟩ := this
      have h2 := h.snoc hv fv nx
      have l2 := h2.le
      rw [List.length_append] at l2
      match k with
      | 0 => simp at l2 hk; omega
      | k + 1 =>
        obtain ⟨Y, a, b, c⟩ := KeepV.grow k h2 (by rw [List.length_append]; simp; omega)
        exact ⟨Y, a, b, fun x z => c x (List.mem_append.mpr (.inl z))⟩
theorem even_full {n : Nat} {X : List Vec} (h : KeepV n (false, false) X) (f : FullV n (false, false) X) : X.length * X.length = 2 ^ n ∨ 2 * (X.length * X.length) = 2 ^ n := by
  have h0 : ∀ a ∈ X, ∀ b ∈ X, dot a b = false := fun a ha b hb => by
    by_cases e : a = b
    · rw [← e]
      exact h.size a ha
    · exact h.meet a ha b hb e
  have G : Grp n X := ⟨h.nodup, h.len, f _ (zer_len n) ⟨dot_zer _ _, fun a _ => dot_zer _ _⟩, fun a ha b hb => by
    have l : a.length = b.length := (h.len a ha).trans (h.len b hb).symm
    refine f _ ((add_len l).trans (h.len b hb)) ⟨?_, fun c hc => ?_⟩
    · rw [dot_self_add l, h.size a ha, h.size b hb]
      rfl
    · rw [dot_add _ l, h0 a ha c hc, h0 b hb c hc]
      rfl⟩
  by_cases h1 : ones n ∈ X
  · left
    have e := G.card
    rwa [← nodup_same_len h.nodup (perp_nodup (n := n) (W := X)) fun x => ?_] at e
    rw [mem_perp]
    refine ⟨fun z => ⟨h.len x z, h0 x z⟩, fun z => f x z.1 ⟨?_, z.2⟩⟩
    rw [← dot_ones z.1]
    exact z.2 _ h1
  · right
    let Y := X ++ X.map (add (ones n))
    have inv : ∀ x ∈ X, add (ones n) (add (ones n) x) = x := fun x hx => add_back ((ones_len n).trans (h.len x hx).symm)
    have swp : ∀ a b : Vec, add a (add (ones n) b) = add (ones n) (add a b) := fun a b => by
      rw [← add_assoc, add_comm a, add_assoc]
    have mY : ∀ x, x ∈ Y ↔ x ∈ X ∨ ∃ y ∈ X, add (ones n) y = x := fun x => by
      rw [List.mem_append, List.mem_map]
    have GY : Grp n Y := ⟨by
        rw [List.nodup_append]
        refine ⟨h.nodup, nodup_map h.nodup fun x hx y hy e => by rw [← inv x hx, e, inv y hy], fun a ha b hb e => h1 ?_⟩
        obtain ⟨y, hy, e2⟩ := List.mem_map.mp hb
        have l : y.length = (ones n).length := (h.len y hy).trans (ones_len n).symm
        have : add y a = ones n := by
          rw [e, ← e2, add_comm (ones n), add_back l]
        rw [← this]
        exact G.clo _ hy _ ha,
      fun w hw => by
        rcases (mY w).mp hw with z | ⟨y, hy, rfl⟩
        · exact h.len w z
        · rw [add_len ((ones_len n).trans (h.len y hy).symm)]
          exact h.len y hy,
      (mY _).mpr (.inl G.zero),
      fun a ha b hb => by
        rcases (mY a).mp ha with z | ⟨y, hy, rfl⟩ <;> rcases (mY b).mp hb with z' | ⟨y', hy', rfl⟩
        · exact (mY _).mpr (.inl (G.clo _ z _ z'))
        · rw [swp]
          exact (mY _).mpr (.inr ⟨_, G.clo _ z _ hy', rfl⟩)
        · rw [add_assoc]
          exact (mY _).mpr (.inr ⟨_, G.clo _ hy _ z', rfl⟩)
        · rw [swp, add_assoc (ones n) y, inv _ (G.clo _ hy _ hy')]
          exact (mY _).mpr (.inl (G.clo _ hy _ hy'))⟩
    have e := GY.card
    have lY : Y.length = 2 * X.length := by
      rw [List.length_append, List.length_map]
      omega
    rw [← nodup_same_len h.nodup (perp_nodup (n := n) (W := Y)) fun x => ?_, lY, Nat.mul_assoc] at e
    · exact e
    · rw [mem_perp]
      refine ⟨fun z => ⟨h.len x z, fun w hw => ?_⟩, fun z => f x z.1 ⟨?_, fun a ha => z.2 a ((mY a).mpr (.inl ha))⟩⟩
      · rcases (mY w).mp hw with z' | ⟨y, hy, rfl⟩
        · exact h0 x z w z'
        · rw [dot_comm, dot_add _ ((ones_len n).trans (h.len y hy).symm), dot_comm, dot_ones (h.len x z), h.size x z, h0 y hy x z]
          rfl
      · have := z.2 (ones n) ((mY _).mpr (.inr ⟨_, G.zero, add_zer (ones_len n)⟩))
        rwa [dot_ones z.1] at this
theorem sq_even {n k : Nat} (hn : n ≤ 9) (h : k * k = 2 ^ n ∨ 2 * (k * k) = 2 ^ n) : k = 2 ^ (n / 2) := by
  have d : ∀ n < 10, ∀ k < 23, (k * k = 2 ^ n ∨ 2 * (k * k) = 2 ^ n) → k = 2 ^ (n / 2) := by decide
  have p : 2 ^ n ≤ 2 ^ 9 := Nat.pow_le_pow_right (by omega) hn
  have : k < 23 := by
    refine Classical.byContradiction fun z => ?_
    have := Nat.mul_le_mul (show 23 ≤ k by omega) (show 23 ≤ k by omega)
    omega
  exact d n (by omega) k this h
theorem odd_full {n : Nat} {X : List Vec} (hn : 1 ≤ n) (h : KeepV n (true, true) X) (f : FullV n (true, true) X) : ∃ Y, KeepV (n + 1) (false, false) Y ∧ FullV (n + 1) (false, false) Y ∧ Y.length = 2 * X.length := by
  have h0 : ∀ a ∈ X, ∀ b ∈ X, dot a b = true := fun a ha b hb => by
    by_cases e : a = b
    · rw [← e]
      exact h.size a ha
    · exact h.meet a ha b hb e
  have : ∃ a0, a0 ∈ X := by
    match n, hn with
    | n + 1, _ =>
      refine Classical.byContradiction fun no => no ⟨true :: zer n, f _ (by simp [zer_len]) ⟨?_, fun a ha => absurd ⟨a, ha⟩ no⟩⟩
      show (true && true ^^ dot (zer n) (zer n)) = true
      rw [dot_zer]
      rfl
  obtain ⟨a0, ha0⟩ := this
  have l0 := h.len a0 ha0
  have lx : ∀ x ∈ X, a0.length = x.length := fun x hx => l0.trans (h.len x hx).symm
  let Y := X.map (fun x => false :: add a0 x) ++ X.map (fun x => true :: x)
  have mY : ∀ y, y ∈ Y ↔ (∃ x ∈ X, (false :: add a0 x) = y) ∨ ∃ x ∈ X, (true :: x) = y := fun y => by
    rw [List.mem_append, List.mem_map, List.mem_map]
  have d0 : ∀ a ∈ Y, ∀ b ∈ Y, dot a b = false := fun a ha b hb => by
    rcases (mY a).mp ha with ⟨x, hx, rfl⟩ | ⟨x, hx, rfl⟩ <;> rcases (mY b).mp hb with ⟨y, hy, rfl⟩ | ⟨y, hy, rfl⟩
    · show (false && false ^^ dot (add a0 x) (add a0 y)) = false
      rw [dot_add _ (lx x hx), dot_comm a0, dot_add _ (lx y hy), dot_comm x, dot_add _ (lx y hy), h0 a0 ha0 a0 ha0, h0 y hy a0 ha0, h0 a0 ha0 x hx, h0 y hy x hx]
      rfl
    · show (false && true ^^ dot (add a0 x) y) = false
      rw [dot_add _ (lx x hx), h0 a0 ha0 y hy, h0 x hx y hy]
      rfl
    · show (true && false ^^ dot x (add a0 y)) = false
      rw [dot_comm, dot_add _ (lx y hy), h0 a0 ha0 x hx, h0 y hy x hx]
      rfl
    · show (true && true ^^ dot x y) = false
      rw [h0 x hx y hy]
      rfl
  refine ⟨Y, ⟨?_, fun y hy => ?_, fun a ha => d0 a ha a ha, fun a ha b hb _ => d0 a ha b hb⟩, fun v hv fv => ?_, ?_⟩
  · rw [List.nodup_append]
    refine ⟨nodup_map h.nodup fun x hx y hy e => ?_, nodup_map h.nodup fun x hx y hy e => (List.cons.inj e).2, fun a ha b hb e => ?_⟩
    · have e := (List.cons.inj e).2
      rw [← add_back (lx x hx), e, add_back (lx y hy)]
    · obtain ⟨x, _, rfl⟩ := List.mem_map.mp ha
      obtain ⟨y, _, rfl⟩ := List.mem_map.mp hb
      cases e
  · rcases (mY y).mp hy with ⟨x, hx, rfl⟩ | ⟨x, hx, rfl⟩
    · rw [List.length_cons, add_len (lx x hx), h.len x hx]
    · rw [List.length_cons, h.len x hx]
  · match v, hv with
    | true :: v, hv =>
      have hv : v.length = n := by simpa using hv
      refine (mY _).mpr (.inr ⟨v, f v hv ⟨?_, fun a ha => ?_⟩, rfl⟩)
      · have := fv.1
        simpa [dot] using this
      · have := fv.2 (true :: a) ((mY _).mpr (.inr ⟨a, ha, rfl⟩))
        simpa [dot] using this
    | false :: v, hv =>
      have hv : v.length = n := by simpa using hv
      have l : v.length = a0.length := hv.trans l0.symm
      have da : ∀ a ∈ X, dot v a = false := fun a ha => by
        have := fv.2 (true :: a) ((mY _).mpr (.inr ⟨a, ha, rfl⟩))
        simpa [dot] using this
      have dv : dot v v = false := by
        have := fv.1
        simpa [dot] using this
      refine (mY _).mpr (.inl ⟨add a0 v, f _ ((add_len l.symm).trans hv) ⟨?_, fun a ha => ?_⟩, ?_⟩)
      · rw [dot_self_add l.symm, h0 a0 ha0 a0 ha0, dv]
        rfl
      · rw [dot_add _ l.symm, h0 a0 ha0 a ha, da a ha]
        rfl
      · rw [add_back l.symm]
  · rw [List.length_append, List.length_map, List.length_map]
    omega
theorem full_most {n : Nat} {r : Bool × Bool} {X : List Vec} (hn : 1 ≤ n) (h8 : n ≤ 8) (e : r.1 = r.2) (h : KeepV n r X) (f : FullV n r X) : X.length = mostN n r := by
  match r, e with
  | (false, false), _ => exact sq_even (by omega) (even_full h f)
  | (true, true), _ =>
    obtain ⟨Y, hY, fY, l⟩ := odd_full hn h f
    have := sq_even (by omega) (even_full hY fY)
    rw [l] at this
    show _ = 2 ^ ((n - 1) / 2)
    have e : (n + 1) / 2 = (n - 1) / 2 + 1 := by omega
    rw [e, Nat.pow_succ] at this
    omega
end Ft

/-! part: FtX -/
set_option Elab.async false
set_option linter.all false
namespace Ft
/-! ### sums of some -/
def comb (n : Nat) : Vec → List Vec → Vec
  | b :: s, a :: X => if b then add a (comb n s X) else comb n s X
  | _, _ => zer n
def px : List Bool → Bool
  | [] => false
  | b :: l => b ^^ px l
theorem comb_len {n : Nat} : ∀ {s : Vec} {X : List Vec}, (∀ a ∈ X, a.length = n) → (comb n s X).length = n
  | [], _, _ => by simp [comb, zer_len]
  | _ :: _, [], _ => by simp [comb, zer_len]
  | b :: s, a :: X, h => by
    have ih := comb_len (s := s) fun x hx => h x (List.mem_cons_of_mem a hx)
    have la := h a List.mem_cons_self
    cases b
    · exact ih
    · show (add a (comb n s X)).length = n
      rw [add_len (la.trans ih.symm), ih]
/-- one against a sum of some -/
theorem dot_comb {n : Nat} {c : Vec} : ∀ {s : Vec} {X : List Vec}, (∀ a ∈ X, a.length = n) → dot c (comb n s X) = px (List.zipWith (fun b a => b && dot c a) s X)
  | [], _, _ => by simp only [comb, List.zipWith_nil_left, px]; rw [dot_comm, dot_zer]
  | _ :: _, [], _ => by simp only [comb, List.zipWith_nil_right, px]; rw [dot_comm, dot_zer]
  | b :: s, a :: X, h => by
    have h' := fun x hx => h x (List.mem_cons_of_mem a hx)
    have ih := dot_comb (c := c) (s := s) h'
    simp only [List.zipWith_cons_cons, px]
    rw [← ih]
    cases b
    · simp [comb]
    · show dot c (add a (comb n s X)) = _
      rw [dot_comm, dot_add _ ((h a List.mem_cons_self).trans (comb_len h').symm), dot_comm a, dot_comm _ c]
      simp
/-- sizes odd, sharing even: different choices have different sums -/
theorem comb_inj {n : Nat} : ∀ {X : List Vec} {s t : Vec}, (∀ a ∈ X, a.length = n) → X.Pairwise (fun a b => dot a b = false) → (∀ a ∈ X, dot a a = true) → s.length = X.length → t.length = X.length → comb n s X = comb n t X → s = t
  | [], s, t, _, _, _, hs, ht, _ => by
    rw [List.eq_nil_of_length_eq_zero hs, List.eq_nil_of_length_eq_zero ht]
  | a :: X, b :: s, c :: t, hl, hp, hd, hs, ht, e => by
    have hl' := fun x hx => hl x (List.mem_cons_of_mem a hx)
    have hp' := List.pairwise_cons.mp hp
    have z : ∀ u : Vec, dot a (comb n u X) = false := fun u => by
      rw [dot_comb hl']
      have : ∀ (u : Vec) (Y : List Vec), (∀ x ∈ Y, dot a x = false) → px (List.zipWith (fun b x => b && dot a x) u Y) = false := by
        intro u
        induction u with
        | nil => intros; rfl
        | cons b u ih =>
          intro Y hY
          cases Y with
          | nil => rfl
          | cons y Y =>
            simp only [List.zipWith_cons_cons, px]
            rw [ih Y fun x hx => hY x (List.mem_cons_of_mem _ hx), hY y List.mem_cons_self]
            simp
      exact this u X hp'.1
    have la := hl a List.mem_cons_self
    have d : ∀ (b : Bool) (u : Vec), dot a (comb n (b :: u) (a :: X)) = b := fun b u => by
      cases b
      · exact z u
      · show dot a (add a (comb n u X)) = true
        rw [dot_comm, dot_add _ (la.trans (comb_len hl').symm), dot_comm (comb n u X) a, z, hd a List.mem_cons_self]
        rfl
    have eb : b = c := by rw [← d b s, e, d c t]
    subst eb
    have e' : comb n s X = comb n t X := by
      cases b
      · exact e
      · have e : add a (comb n s X) = add a (comb n t X) := e
        rw [← add_back (x := a) (la.trans (comb_len (s := s) hl').symm), e, add_back (la.trans (comb_len hl').symm)]
    rw [comb_inj hl' hp'.2 (fun x hx => hd x (List.mem_cons_of_mem a hx)) (by simpa using hs) (by simpa using ht) e']
theorem KeepV.pair {n : Nat} {r : Bool × Bool} {X : List Vec} (h : KeepV n r X) : X.Pairwise fun a b => dot a b = r.2 :=
  List.Pairwise.imp_of_mem (fun ha hb ne => h.meet _ ha _ hb ne) h.nodup
theorem oddtown {n : Nat} {X : List Vec} (h : KeepV n (true, false) X) : X.length ≤ n := by
  have nd : ((vecs X.length).map fun s => comb n s X).Nodup := nodup_map (vecs_nodup _) fun s hs t ht e => comb_inj h.len h.pair h.size (mem_vecs.mp hs) (mem_vecs.mp ht) e
  have := nodup_sub_len nd (l' := vecs n) fun x hx => by
    obtain ⟨s, _, rfl⟩ := List.mem_map.mp hx
    exact mem_vecs.mpr (comb_len h.len)
  rw [List.length_map, vecs_len, vecs_len] at this
  exact (Nat.pow_le_pow_iff_right (by omega)).mp this
/-- sizes even, sharing odd -/
theorem comb_odd {n : Nat} : ∀ {X : List Vec} {s : Vec}, (∀ a ∈ X, a.length = n) → X.Pairwise (fun a b => dot a b = true) → (∀ a ∈ X, dot a a = false) → s.length = X.length → X.map (fun c => dot c (comb n s X)) = s.map fun b => px s ^^ b
  | [], s, _, _, _, hs => by
    rw [List.eq_nil_of_length_eq_zero hs]
    rfl
  | a :: X, b :: s, hl, hp, hd, hs => by
    have hl' := fun x hx => hl x (List.mem_cons_of_mem a hx)
    have hp' := List.pairwise_cons.mp hp
    have la := hl a List.mem_cons_self
    have hs' : s.length = X.length := by simpa using hs
    have d : ∀ c : Vec, dot c (comb n (b :: s) (a :: X)) = ((b && dot c a) ^^ dot c (comb n s X)) := fun c => by
      cases b
      · simp [comb]
      · show dot c (add a (comb n s X)) = _
        rw [dot_comm, dot_add _ (la.trans (comb_len hl').symm), dot_comm a, dot_comm _ c]
        simp
    have ha : ∀ (u : Vec) (Y : List Vec), u.length = Y.length → (∀ x ∈ Y, dot a x = true) → px (List.zipWith (fun b x => b && dot a x) u Y) = px u := by
      intro u
      induction u with
      | nil => intros; rfl
      | cons b u ih =>
        intro Y hu hY
        cases Y with
        | nil => cases hu
        | cons y Y =>
          simp only [List.zipWith_cons_cons, px]
          rw [ih Y (by simpa using hu) fun x hx => hY x (List.mem_cons_of_mem _ hx), hY y List.mem_cons_self]
          simp
    have ih := comb_odd hl' hp'.2 (fun x hx => hd x (List.mem_cons_of_mem a hx)) hs'
    rw [List.map_cons, List.map_cons]
    refine List.cons_eq_cons.mpr ⟨?_, ?_⟩
    · rw [d, hd a List.mem_cons_self, dot_comb hl', ha s X hs' hp'.1]
      simp only [px]
      cases b <;> cases px s <;> rfl
    · have : X.map (fun c => dot c (comb n (b :: s) (a :: X))) = (X.map fun c => dot c (comb n s X)).map fun z => b ^^ z := by
        rw [List.map_map]
        refine List.map_congr_left fun c hc => ?_
        rw [d, dot_comm c a, hp'.1 c hc]
        simp
      rw [this, ih, List.map_map]
      refine List.map_congr_left fun z _ => ?_
      show (b ^^ (px s ^^ z)) = (px (b :: s) ^^ z)
      simp [px, Bool.xor_assoc]
def evens (n : Nat) : List Vec := (vecs n).filter fun v => !px v
theorem px_dot : ∀ v : Vec, px v = dot v v
  | [] => rfl
  | b :: v => by simp only [px, dot, px_dot v, Bool.and_self]
theorem px_flip (v : Vec) (b : Bool) : px (v.map fun z => b ^^ z) = ((b && (v.length % 2 == 1)) ^^ px v) := by
  induction v with
  | nil => simp [px]
  | cons a v ih =>
    simp only [List.map_cons, px, ih, List.length_cons]
    rcases Nat.mod_two_eq_zero_or_one v.length with z | z
    · rw [z, show (v.length + 1) % 2 = 1 by omega]
      cases a <;> cases b <;> cases px v <;> rfl
    · rw [z, show (v.length + 1) % 2 = 0 by omega]
      cases a <;> cases b <;> cases px v <;> rfl
theorem evens_len (n : Nat) : (evens (n + 1)).length = 2 ^ n := by
  have z : ∀ l : List Vec, (l.filter fun v => !px v).length + (l.filter fun v => px v).length = l.length := fun l => by
    induction l with
    | nil => rfl
    | cons a l ih => simp only [List.filter_cons]; cases px a <;> simp <;> omega
  have m : ∀ (c : Bool) (l : List Vec), ((l.map (c :: ·)).filter fun v => !px v).length = (l.filter fun v => !(c ^^ px v)).length := fun c l => by
    induction l with
    | nil => rfl
    | cons a l ih =>
      have e : px (c :: a) = (c ^^ px a) := rfl
      simp only [List.map_cons, List.filter_cons, e]
      cases hz : !(c ^^ px a) <;> simp [ih]
  rw [evens, vecs, List.filter_append, List.length_append, m, m, ← vecs_len n, ← z (vecs n)]
  simp
theorem eventown {n : Nat} {X : List Vec} (hn : 1 ≤ n) (h : KeepV n (false, true) X) : X.length ≤ mostN n (false, true) := by
  have key : ∀ {s t : Vec}, s.length = X.length → t.length = X.length → comb n s X = comb n t X → s.map (fun b => px s ^^ b) = t.map fun b => px t ^^ b := fun hs ht e => by
    rw [← comb_odd h.len h.pair h.size hs, e, comb_odd h.len h.pair h.size ht]
  have can : ∀ (b : Bool) {s t : Vec}, s.map (fun z => b ^^ z) = t.map (fun z => b ^^ z) → s = t := fun b s t e => by
    have := congrArg (List.map fun z => b ^^ z) e
    rw [List.map_map, List.map_map] at this
    have i : ((fun z => b ^^ z) ∘ fun z => b ^^ z) = (id : Bool → Bool) := by
      funext z
      cases b <;> cases z <;> rfl
    rwa [i, List.map_id, List.map_id] at this
  have inE : ∀ s : Vec, comb n s X ∈ evens n := fun s => by
    refine List.mem_filter.mpr ⟨mem_vecs.mpr (comb_len h.len), ?_⟩
    have : ∀ (s : Vec) (Y : List Vec), (∀ a ∈ Y, a.length = n) → (∀ a ∈ Y, dot a a = false) → dot (comb n s Y) (comb n s Y) = false := by
      intro s
      induction s with
      | nil => intros; simp only [comb, dot_zer]
      | cons b s ih =>
        intro Y hl hd
        cases Y with
        | nil => simp only [comb, dot_zer]
        | cons a Y =>
          have hl' := fun x hx => hl x (List.mem_cons_of_mem a hx)
          have ih := ih Y hl' fun x hx => hd x (List.mem_cons_of_mem a hx)
          cases b
          · exact ih
          · show dot (add a _) (add a _) = false
            rw [dot_self_add ((hl a List.mem_cons_self).trans (comb_len hl').symm), ih, hd a List.mem_cons_self]
            rfl
    rw [px_dot, this s X h.len h.size]
    rfl
  match n, hn with
  | n + 1, _ =>
  have A : X.length ≤ n + 1 := by
    match hX : X.length with
    | 0 => omega
    | m + 1 =>
      have nd : ((evens (m + 1)).map fun s => comb (n + 1) s X).Nodup := nodup_map ((vecs_nodup _).filter _) fun s hs t ht e => by
        obtain ⟨hs, ps⟩ := List.mem_filter.mp hs
        obtain ⟨ht, pt⟩ := List.mem_filter.mp ht
        have ps : px s = false := by simpa using ps
        have pt : px t = false := by simpa using pt
        have k := key (by rw [mem_vecs.mp hs, hX]) (by rw [mem_vecs.mp ht, hX]) e
        rw [ps, pt] at k
        exact can false k
      have := nodup_sub_len nd (l' := evens (n + 1)) fun x hx => by
        obtain ⟨s, _, rfl⟩ := List.mem_map.mp hx
        exact inE s
      rw [List.length_map, evens_len, evens_len] at this
      have := (Nat.pow_le_pow_iff_right (a := 2) (by omega)).mp this
      omega
  have B : X.length % 2 = 0 → X.length ≤ n := fun ev => by
    have nd : ((vecs X.length).map fun s => comb (n + 1) s X).Nodup := nodup_map (vecs_nodup _) fun s hs t ht e => by
      have ls := mem_vecs.mp hs
      have lt := mem_vecs.mp ht
      have k := key ls lt e
      have k2 := congrArg px k
      rw [px_flip, px_flip, ls, lt, ev] at k2
      have k2 : px s = px t := by simpa using k2
      rw [k2] at k
      exact can _ k
    have := nodup_sub_len nd (l' := evens (n + 1)) fun x hx => by
      obtain ⟨s, _, rfl⟩ := List.mem_map.mp hx
      exact inE s
    rw [List.length_map, evens_len, vecs_len] at this
    exact (Nat.pow_le_pow_iff_right (a := 2) (by omega)).mp this
  show _ ≤ if (n + 1) % 2 = 1 then n + 1 else n + 1 - 1
  split
  · exact A
  · rcases Nat.mod_two_eq_zero_or_one X.length with z | z
    · have := B z
      omega
    · omega
theorem keep_most {n : Nat} {r : Bool × Bool} {X : List Vec} (hn : 1 ≤ n) (h8 : n ≤ 8) (h : KeepV n r X) : X.length ≤ mostN n r := by
  by_cases e : r.1 = r.2
  · obtain ⟨Y, hY, fY, s⟩ := KeepV.grow (2 ^ n) h (by omega)
    rw [← full_most hn h8 e hY fY]
    exact nodup_sub_len h.nodup s
  · match r, e with
    | (true, false), _ => exact oddtown h
    | (false, true), _ => exact eventown hn h
    | (true, true), e => exact absurd rfl e
    | (false, false), e => exact absurd rfl e
/-! ### by odd and even a town is full exactly if all are in oddly many clubs -/
def tot (n : Nat) (X : List Vec) : Vec := comb n (X.map fun _ => true) X
theorem tot_len {n : Nat} {X : List Vec} (h : ∀ a ∈ X, a.length = n) : (tot n X).length = n := comb_len h
theorem zip_map {α β : Type} (f : Bool → α → β) (g : α → Bool) : ∀ X : List α, List.zipWith f (X.map g) X = X.map fun a => f (g a) a
  | [] => rfl
  | a :: X => by simp only [List.map_cons, List.zipWith_cons_cons, zip_map f g X]
theorem dot_tot {n : Nat} {c : Vec} {X : List Vec} (h : ∀ a ∈ X, a.length = n) : dot c (tot n X) = px (X.map fun a => dot c a) := by
  rw [tot, dot_comb h, zip_map]
  simp
theorem px_pick {f : Vec → Bool} {a : Vec} : ∀ {X : List Vec}, X.Nodup → px (X.map fun x => f x && decide (x = a)) = (f a && decide (a ∈ X))
  | [], _ => by simp [px]
  | b :: X, h => by
    have h' := List.nodup_cons.mp h
    simp only [List.map_cons, px, px_pick h'.2]
    by_cases e : b = a
    · subst e
      simp [h'.1]
    · simp [e, Ne.symm e]
theorem vec_ne {n : Nat} : ∀ {x : Vec}, x.length = n → (∀ e : Vec, e.length = n → dot e x = false) → x = zer n := by
  intro x hx h
  have c := chars hx
  by_cases z : x = zer n
  · exact z
  · rw [if_neg z, List.map_congr_left (g := fun _ => (1 : Int)) fun v hv => by rw [h v (mem_vecs.mp hv)]; rfl] at c
    have : ∀ l : List Vec, isum (l.map fun _ => (1 : Int)) = l.length := fun l => by
      induction l with
      | nil => rfl
      | cons a l ih => simp only [List.map_cons, isum, ih, List.length_cons]; omega
    rw [this, vecs_len] at c
    have p : 0 < 2 ^ n := Nat.pow_pos (by omega)
    omega
theorem odd_even_full {n : Nat} {X : List Vec} (h : KeepV n (true, false) X) : FullV n (true, false) X ↔ tot n X = ones n := by
  have dj : ∀ a ∈ X, ∀ x ∈ X, dot a x = decide (x = a) := fun a ha x hx => by
    by_cases e : x = a
    · subst e
      rw [h.size x hx]
      simp
    · rw [h.meet a ha x hx (Ne.symm e)]
      simp [e]
  constructor
  · intro f
    refine Classical.byContradiction fun ne => ?_
    have : ∃ e : Vec, e.length = n ∧ dot e (tot n X) ≠ dot e e := by
      refine Classical.byContradiction fun no => ne ?_
      have l : (tot n X).length = (ones n).length := (tot_len h.len).trans (ones_len n).symm
      have z := vec_ne (n := n) (x := add (tot n X) (ones n)) ((add_len l).trans (ones_len n)) fun e he => by
        rw [dot_comm, dot_add _ l, dot_comm, dot_comm _ e, dot_ones he]
        have : dot e (tot n X) = dot e e := Classical.byContradiction fun k => no ⟨e, he, k⟩
        rw [this, Bool.xor_self]
      have k := add_back l
      rw [z, add_zer (tot_len h.len)] at k
      exact k
    obtain ⟨e, he, de⟩ := this
    let c := comb n (X.map fun a => dot e a) X
    have lc : c.length = n := comb_len h.len
    have l : e.length = c.length := he.trans lc.symm
    have dc : ∀ u : Vec, dot u c = px (X.map fun a => dot e a && dot u a) := fun u => by
      rw [dot_comb h.len, zip_map]
    have da : ∀ a ∈ X, dot (add e c) a = false := fun a ha => by
      rw [dot_add _ l, dot_comm c, dc a, List.map_congr_left (g := fun x => dot e x && decide (x = a)) fun x hx => by rw [dj a ha x hx], px_pick h.nodup]
      simp [ha]
    have dd : dot (add e c) (add e c) = true := by
      rw [dot_self_add l, ← dot_ones lc, dot_comm c, dc]
      rw [List.map_congr_left (g := fun x => dot e x) fun x hx => by rw [dot_comm (ones n), dot_ones (h.len x hx), h.size x hx, Bool.and_true], ← dot_tot h.len]
      revert de
      cases dot e (tot n X) <;> cases dot e e <;> simp
    have m := f (add e c) ((add_len l).trans lc) ⟨dd, da⟩
    have := da _ m
    rw [dd] at this
    cases this
  · intro e v hv fv
    refine absurd (fv.1) ?_
    rw [← dot_ones hv, ← e, dot_tot h.len]
    rw [List.map_congr_left (g := fun _ => false) fun x hx => fv.2 x hx]
    have : ∀ l : List Vec, px (l.map fun _ => false) = false := fun l => by
      induction l with
      | nil => rfl
      | cons a l ih => simp only [List.map_cons, px, ih]; rfl
    rw [this]
    simp
end Ft

/-! part: FtK -/
set_option Elab.async false
set_option linter.all false
set_option maxRecDepth 100000
namespace Ft
open PySem L2 PyProof.Rows
/-! ### sorted(set(xs)) of tuples of whole numbers, of any lengths -/
section
variable {prog : Program} {w : World} {A : Around} {E : Value → Shared → Prop} {s : Shared}
theorem sorted_setO {a : Addr} {L : List (Addr × List Int)} {es : Array (Int × Value)} {ep : Nat} {t : SetTable} {Q : Value → Shared → Prop} (R : SetTR prog w s.heap a L es ep t) (hh : A.handled = none) (hu : A.units + 64 < cLine)
    (hQ : ∀ (s' : Shared) (p : Addr) (out : Array Value) (c : Nat) (L' : List (Addr × List Int)), (∀ b u, s.heap.get? b = some u → s'.heap.get? b = some u) → s'.gens = s.gens ∧ s'.os = s.os → s.heap.objs.size ≤ p ∧ s'.heap.get? p = some (seqObj "list" out c) →
      out.toList = L'.map (fun r => Value.ref r.1) ∧ L'.Perm L → L'.Pairwise (fun x y => HT.lexLt y.2 x.2 = false) → Q (.ref p) s') :
    wpAny (model prog w) A (call (.builtin "sorted") [.ref a]) Q E s := by
  obtain ⟨u, hu0, hx, hd⟩ := id R.ob
  refine Calls.call_function_entry kind_sorted plain_sorted entry_sorted (args_sorted1 (.ref a)) ?_
  unfold Builtin.«sorted»
  refine wpAny_bind (m := checkCount "sorted" 1 1 _) (wpAny_pure (wpAny_bind (collect_set (A := A.in1) hh ⟨u, hu0, hx.1, hd⟩ R.fits (by rw [R.size]; have := R.few; unfold scanBound; omega) R.tab.ris R.led fun s1 vs k1 hz g1 o1 pm => ?_)))
  have e0 : es.toList.map (·.2) = L.map fun r => Value.ref r.1 := by
    rw [R.rows]; unfold rowsOf; rw [List.map_map]; rfl
  rw [e0] at pm
  have few : vs.length < 64 := by
    have := R.few
    rw [pm.length_eq, List.length_map]; exact this
  have small : vs.length ≤ sizeLine := by rw [sizeLine_eq]; omega
  refine wpAny_bind (wpAny_newList ?_ small)
  have hoL : (s1.heap.push (seqObj "list" vs.toArray 0)).get? s1.heap.objs.size = some (seqObj "list" vs.toArray 0) := Heap.get?_push_size _ rfl
  have ti : ∀ r ∈ L, TS.TupInts (s1.heap.push (seqObj "list" vs.toArray 0)) (.ref r.1) r.2 := fun r hr => tupInts_of (P := prog) (w := w) (isT_keep (R.tup r hr) fun b u e => Heap.get?_push_of_some _ (k1 b u e))
  have all : AllTI (s1.heap.push (seqObj "list" vs.toArray 0)) vs := fun v hv => by
    obtain ⟨r, hr, rfl⟩ := List.mem_map.mp (pm.mem_iff.mp hv)
    exact ⟨r.2, ti r hr⟩
  have nl : ∀ (c : Addr) (o : Obj), (s1.heap.push (seqObj "list" vs.toArray 0)).get? c = some o → o.cls = .type "tuple" → c ≠ s1.heap.objs.size := fun c o e hc z => by
    subst z
    rw [hoL] at e
    cases e
    exact absurd (Value.type.inj hc) (by decide)
  refine wpAny_bind (wpAny_holding (wpAny_call_entry slot_list_sort ⟨_, hoL, rfl⟩ entry_list_sort (SrtO.list_sort_ord (lex_swo (TS.intsOf (s1.heap.push (seqObj "list" vs.toArray 0)))) hoL small (fun _ => ?_) fun out hs hb => ⟨_, rfl, ?_⟩) (args_list_sort _)))
  · intro h' keep
    have all' : AllTI h' vs := fun v hv => by
      obtain ⟨ns, t⟩ := all v hv
      exact ⟨ns, t.keeps fun c o e hc => keep c o (nl c o e hc) e⟩
    have ek : ∀ v ∈ vs, TS.intsOf h' v = TS.intsOf (s1.heap.push (seqObj "list" vs.toArray 0)) v := fun v hv => by
      obtain ⟨ns, t⟩ := all v hv
      rw [t.ints]
      exact (t.keeps fun c o e hc => keep c o (nl c o e hc) e).ints
    by_cases h0 : 0 < vs.length
    · obtain ⟨κ, hκ, hk⟩ := tups_kind (prog := prog) (w := w) (A := A.in1.in1) (s := { s1 with heap := h' }) h0 all'
      refine ⟨κ, hk, fun p p' hp hp' => ?_⟩
      have hu2 : (A.in1.in1).units < cLine := by
        show A.units + 1 + 1 < cLine
        omega
      have c' : wpAny (model prog w) A.in1.in1 (keyLt' κ p.1 p'.1) (fun r s' => s' = { s1 with heap := h' } ∧ r = HT.lexLt (TS.intsOf h' p.1) (TS.intsOf h' p'.1)) (fun _ _ => False) { s1 with heap := h' } := tups_cmp (prog := prog) (w := w) (s := { s1 with heap := h' }) hκ all' hu2 p p' hp hp'
      rw [ek _ hp, ek _ hp'] at c'
      exact c'
    · omega
  · obtain ⟨c, hc⟩ := sortedHeap_at (vs := vs) (out := out.toArray) hoL
    let g : Value → Addr × List Int := fun v => (match v with | .ref a => a | _ => 0, TS.intsOf (s1.heap.push (seqObj "list" vs.toArray 0)) v)
    have gk : ∀ r ∈ L, g (.ref r.1) = r := fun r hr => by
      show (r.1, TS.intsOf _ (.ref r.1)) = r
      rw [(ti r hr).ints]
    have po : out.Perm (L.map fun r => Value.ref r.1) := hb.perm.trans pm
    have pL : (out.map g).Perm L := by
      have z := po.map g
      rw [List.map_map] at z
      rwa [(List.map_congr_left fun r hr => gk r hr : L.map (g ∘ fun r => Value.ref r.1) = L.map fun r => r), List.map_id'] at z
    have er : out = (out.map g).map fun r => Value.ref r.1 := by
      rw [List.map_map]
      refine (List.map_id' out).symm.trans (List.map_congr_left fun v hv => ?_)
      obtain ⟨r, hr, rfl⟩ := List.mem_map.mp (po.mem_iff.mp hv)
      rfl
    refine wpAny_pure ⟨_, rfl, hQ _ s1.heap.objs.size out.toArray c (out.map g) (fun b u e => ?_) ⟨g1, o1⟩ ⟨hz, hc⟩ ⟨by simpa using er, pL⟩ (List.pairwise_map.mpr hs)⟩
    have q := k1 b u e
    show (sortedHeap (s1.heap.push (seqObj "list" vs.toArray 0)) s1.heap.objs.size vs out.toArray).get? b = some u
    rw [sortedHeap_old (Nat.ne_of_lt (Heap.lt_size q)) (by rw [size_push']; exact Nat.lt_succ_of_lt (Heap.lt_size q))]
    exact Heap.get?_push_of_some _ q
end
section
variable {X : Cx} {K : Frg} {Pg : Program} {w : World}
def rSortSet (K : Frg) (P : Program) (w : World) : List V → Hp → VK → Prop := fun vs H Q => ∃ (a : Addr) (L : List (Addr × List Int)), vs = [V.ref a] ∧ H a = some (SetTO P w a L) ∧ (∀ r ∈ L, SqT K H r.1 (r.2.map V.int)) ∧
  ∀ (L' : List (Addr × List Int)) (p : Addr), L'.Perm L → (L'.map (·.2)).Nodup → L'.Pairwise (fun x y => HT.lexLt y.2 x.2 = false) → H p = none → Q (.ref p) (upd H p (.lst (L'.map fun r => V.ref r.1)))
theorem call_sortSet (hc : X.calm = true) (hu : X.A.units + 64 < cLine) : CallR X (.builtin "sorted") (rSortSet X.K X.prog X.w) := by
  intro pins s σ H vs us Q I r h
  obtain ⟨a, L, rfl, ha, hk, q⟩ := h
  have R0 : SetT0 X.prog X.w s.heap a L := (I.hok a _ ha).1
  obtain ⟨es, ep, t, R⟩ := R0.full fun p hp => I.isT (hk p hp)
  rw [Vals.ref1 r]
  refine sorted_setO R (I.ok.hd hc) hu fun s' p out c L' k g hp hout pw => ?_
  have small : (L'.map fun r => V.ref r.1).length ≤ sizeLine := by
    have := R.few
    rw [List.length_map, hout.2.length_eq, sizeLine_eq]; omega
  have hn : H p = none := I.hok.fresh hp.1
  have hv : Vals (L'.map fun r => V.ref r.1) out.toList := by
    rw [hout.1]; exact vals_of_refs L'
  have J : Inv X pins σ (upd H p (.lst (L'.map fun r => V.ref r.1))) { s with heap := s'.heap, gens := s'.gens, drawn := s'.drawn, toks := s'.toks } :=
    I.call (ch := []) (Un.laid k hp.1 hn) (I.hok.laid k hp.1 ⟨small, out.toList, c, hv, hp.2⟩) (by rw [g.1]; exact I.bare) fun _ z => nomatch z
  have e : s' = { s with heap := s'.heap, gens := s'.gens, drawn := s'.drawn, toks := s'.toks } := by
    obtain ⟨g, o⟩ := g
    cases s'; cases s; cases o; rfl
  rw [e]
  exact ⟨.ref p, _, J, rfl, q L' p hout.2 ((hout.2.map (·.2)).nodup_iff.mpr R.nd) pw hn⟩
theorem clubs_ks {H : Hp} : ∀ {cs : List (List Int)} {xs : List V}, DqAll K H xs (clubs cs) → ∃ ks : List (Addr × List Int), xs = ks.map (fun p => V.ref p.1) ∧ cs = ks.map (·.2) ∧ ∀ p ∈ ks, SqT K H p.1 (p.2.map V.int)
  | [], _, x => by
    cases x
    exact ⟨[], rfl, rfl, fun p h => absurd h (by simp)⟩
  | c :: cs, _, x => by
    cases x with
    | cons y z =>
      obtain ⟨ks, e1, e2, e3⟩ := clubs_ks z
      cases y with
      | @tup b ys _ t y =>
        rw [dq_nums y] at t
        refine ⟨(b, c) :: ks, by rw [e1]; rfl, by rw [e2]; rfl, fun p hp => ?_⟩
        rcases List.mem_cons.mp hp with z | z
        · subst z
          exact t
        · exact e3 p z
theorem dq_intsV {H : Hp} : ∀ ns : List Int, DqAll K H (ns.map V.int) (nums ns)
  | [] => .nil
  | n :: ns => .cons (.int n) (dq_intsV ns)
theorem ks_clubs {H : Hp} : ∀ {ks : List (Addr × List Int)}, (∀ p ∈ ks, SqT K H p.1 (p.2.map V.int)) → DqAll K H (ks.map fun p => V.ref p.1) (clubs (ks.map (·.2)))
  | [], _ => .nil
  | r :: ks, h => .cons (.tup (h r List.mem_cons_self) (dq_intsV _)) (ks_clubs fun p hp => h p (List.mem_cons_of_mem _ hp))
/-- sorted(set(xs)) -/
theorem af_sset {ρ : Rho} {te : TE} {P : List Da → Prop} (h : AE K te ρ fun d => ∃ cs, d = .list (clubs cs) ∧ cs.length < 64 ∧ ∀ out : List (List Int), out.Nodup → (∀ c, c ∈ out ↔ c ∈ cs) → out.Pairwise (fun x y => HT.lexLt y x = false) → P (clubs out)) :
    AF K (tCB (rSortSet K Pg w) (tCons (tCB (rSetOfT K Pg w) (tCons te tNil)) tNil)) ρ P := fun σ H H1 s e Q q =>
  h σ H H1 s e _ fun d ⟨cs, ed, hl, p⟩ v H' H2 g dx => by
    subst ed
    cases dx with
    | @lst l xs _ sl x =>
      obtain ⟨ks, e1, e2, e3⟩ := clubs_ks x
      subst e1 e2
      have t2 : ∀ r ∈ ks, SqT K H2 r.1 (r.2.map V.int) := fun r hr => Evl.ex_t g.b (e3 r hr)
      refine ⟨l, ks, rfl, SqL.of (g.b _ _ sl), t2, by rw [List.length_map] at hl; exact hl, fun a L na sub cov => ?_⟩
      have f1 : Ex H2 (upd H2 a (SetTO Pg w a L)) := Evl.Ex.new na
      refine ⟨a, L, rfl, upd_same, fun r hr => Evl.ex_t f1 (t2 r (sub r hr)), fun L' b pm nd pw nb => ?_⟩
      have ba : b ≠ a := fun z => by
        subst z
        rw [upd_same] at nb
        cases nb
      have nb2 : H2 b = none := by
        rw [upd_ne ba] at nb
        exact nb
      have f2 : Ex (upd H2 a (SetTO Pg w a L)) (upd (upd H2 a (SetTO Pg w a L)) b (.lst (L'.map fun r => V.ref r.1))) := Evl.Ex.new nb
      refine q _ (p (L'.map (·.2)) nd (fun c => ?_) (List.pairwise_map.mpr pw)) b _ H' _ (g.trans (GrN.up (GrN.mk' g.b (f1.trans f2)) fun x rx => (s.gr g).rowAt rx)) (g.old nb2) (Evl.fresh_back g.b nb2) upd_same (ks_clubs fun r hr => e3 r (sub r (pm.mem_iff.mp hr)))
      constructor
      · intro hc
        obtain ⟨r, hr, rfl⟩ := List.mem_map.mp hc
        exact List.mem_map.mpr ⟨r, sub r (pm.mem_iff.mp hr), rfl⟩
      · intro hc
        obtain ⟨r, hr, rfl⟩ := List.mem_map.mp hc
        exact (pm.map (·.2)).mem_iff.mpr (cov r hr)
end
end Ft

/-! part: FtL -/
set_option Elab.async false
set_option linter.all false
set_option maxRecDepth 100000
/-! Errors of the program's own classes, without fields, over data. -/
namespace Ft
open PySem L2
abbrev veBases : List Value := [.type "ValueError", .type "Exception", .type "BaseException", .type "object"]
/-- a class over ValueError, without __init__ -/
structure ExcAt (K : Frg) (mg : Str → Option Value) (x : Str) (C : Addr) : Prop where
  g : mg x = some (.ref C)
  q : PySem.W.excIn K C veBases "ValueError.__new__" = true
  k : PySem.W.keepIn K (.ref C) = true
  b : PySem.W.subIn K (.ref C) (.type "BaseException") = some true
  t : PySem.W.typeIn K (.ref C) = some (.type "type")
abbrev WPX := List Da → (Da → Prop) → (Value → Prop) → Prop
def spX (K : Frg) (W : WPX) : Sp := fun vs H1 Q E => ∃ ds P R H, Ex H H1 ∧ DqAll K H vs ds ∧ W ds P R ∧ (∀ d, P d → ∀ v H' H2, GrN K H H1 H' H2 → Dq K H' v d → Q v H2) ∧ ∀ c, R c → ∀ H' H2, GrN K H H1 H' H2 → E c none H2
section
variable {P : Program} {w : World} {K : Frg} {mg : Str → Option Value} {base : Heap}
structure DefX (P : Program) (w : World) (K : Frg) (mg : Str → Option Value) (base : Heap) (k : Nat) (x : Str) (ps : List Str) (W : WPX) : Prop where
  ex : ∃ f fd, FnOk P w K mg base (L2N.CX P w) k f fd ps (spX K W) ∧ Binds K fd ps [] ∧ PySem.W.keepIn K (.ref f) = true ∧ mg x = some (.ref f)
theorem DefX.mono {j k : Nat} {x : Str} {ps : List Str} {W : WPX} (d : DefX P w K mg base j x ps W) (h : j ≤ k) : DefX P w K mg base k x ps W :=
  let ⟨f, fd, a, b⟩ := d.ex; ⟨f, fd, a.mono h, b⟩
theorem pe_defX {X : Cx} {Wx : WX} {k : Nat} {x : Str} {ps : List Str} {W : WPX} {e : Expr} {es : List Expr} {t : TA} {p pos : Pos} (hX : X.prog = P ∧ X.w = w ∧ X.K = K ∧ X.mg = mg ∧ X.base = base) (d : DefX P w K mg base k x ps W) (hr : Room k X.A) (hg : Gl X x) (tk : L2N.Takes X Wx) (ha : PA X (e :: es) t)
    (hdb : (x == ("__debug__" : Str)) = false := by decide) (he : starEach (e :: es) X.env = (false, eval e X.env) :: starEach es X.env := by rfl) (hpl : (backTo pos (starEach es X.env)).any (·.1) = false := by rfl) :
    PE X (.Call (.Name x p) (e :: es) [] pos) (tCallS (spX K W) (L2.WE Wx) t) := by
  obtain ⟨e1, e2, e3, e4, e5⟩ := hX
  subst e1 e2 e3 e4 e5
  obtain ⟨f, fd, G, b, kp, m⟩ := d.ex
  exact pe_callS G hr hg m kp b (fun σ => L2N.passAt tk σ) ha hdb he hpl
def tRaise (Wx : WX) (C : Addr) : TS := fun _ σ H => Wx (.ref C) none σ H
theorem ps_raiseC {X : Cx} {Wx : WX} {x m : Str} {C : Addr} {j : Nat} {p p2 p3 pos : Pos} (hc : X.calm = true) (tk : L2N.Takes X Wx) (e : ExcAt X.K X.mg x C) (hg : Gl X x) (hdb : (x == ("__debug__" : Str)) = false := by decide) :
    PS X (.Raise (some (.Call (.Name x p) [.Constant (.str m) j p2] [] p3)) none pos) (tRaise Wx C) :=
  L2N.ps_raise hc tk (L2N.pmk_own PySem.F.excBase_ValueError e.q e.g e.k (raises_own e.b e.t) hg hdb)
theorem PS_nox {X : Cx} {st : Stmt} {t : TS} (h : PS X.nox st t) : PS X st t := ⟨fun pins s σ H D I hw =>
  wpAny_mono (h.run pins s σ H D (I.wish _) hw) (fun _ _ q => q.unwish) fun _ _ z => False.elim z⟩
end
/-! ### statements that may raise: R tells which, with what in the slots -/
abbrev Rz := Value → Rho → Prop
def SX (K : Frg) (Wx : WX) (t : TS) (ρ : Rho) (O : Out → Prop) (R : Rz) : Prop := ∀ B Hs H1s H H1 σ (D : Ends), Stt K B Hs H1s H H1 σ ρ → Fin K B Hs H1s D O →
  (∀ c ρ', R c ρ' → ∀ σ' H' H2, Stt K B Hs H1s H' H2 σ' ρ' → Wx c none σ' H2) → t D σ H1
def AX (K : Frg) (Wx : WX) (te : TE) (ρ : Rho) (P : Da → Prop) (R : Value → Prop) : Prop := ∀ σ H H1, Has K H H1 σ ρ → Ex H H1 → ∀ Q : VK, (∀ d, P d → ∀ v H' H2, Gr K (Rows σ ρ) H H1 H' H2 → Dq K H' v d → Q v H2) →
  (∀ c, R c → ∀ H' H2, Gr K (Rows σ ρ) H H1 H' H2 → Wx c none σ H2) → te σ H1 Q
section
variable {K : Frg} {Wx : WX} {ρ : Rho} {O : Out → Prop} {R : Rz} {t u : TS} {te : TE} {P : Da → Prop} {W : WPX} {ta : TA} {C : Addr}
theorem ax_call {Rv : Value → Prop} (h : AA K ta ρ fun ds => W ds P Rv) : AX K Wx (tCallS (spX K W) (L2.WE Wx) ta) ρ P Rv := fun σ H H1 s e Q q r =>
  h σ H H1 s e _ fun ds wd vs H' H2 g dx => ⟨ds, P, Rv, H', g.b, dx, wd, fun d p v H4 H5 g3 dz => q d p v H4 H5 (g.trans (GrN.up g3 fun a ra => (s.gr g).rowAt ra)) dz,
    fun c rc H4 H5 g3 => r c rc H4 H5 (g.trans (GrN.up g3 fun a ra => (s.gr g).rowAt ra))⟩
theorem ax_pure {Rv : Value → Prop} (h : AE K te ρ P) : AX K Wx te ρ P Rv := fun σ H H1 s e Q q _ => h σ H H1 s e Q q
theorem sx_pure (h : SO K t ρ O) : SX K Wx t ρ O R := fun B Hs H1s H H1 σ D s f _ => h B Hs H1s H H1 σ D s f
/-- what stands behind -/
def thenX (K : Frg) (Wx : WX) (u : TS) (O : Out → Prop) (R : Rz) : Out → Prop
  | .nx ρ => SX K Wx u ρ O R
  | .rt d => O (.rt d)
  | .bk ρ => O (.bk ρ)
  | .ct ρ => O (.ct ρ)
theorem sx_seq (h : SX K Wx t ρ (thenX K Wx u O R) R) : SX K Wx (tSeq t u) ρ O R := fun B Hs H1s H H1 σ D s f r =>
  h B Hs H1s H H1 σ _ s ⟨fun ρ' p σ' H' H2 s' => p B Hs H1s H' H2 σ' D s' f r, f.rt, f.bk, f.ct⟩ r
theorem sx_drop (h : AX K Wx te ρ (fun _ => O (.nx ρ)) fun c => R c ρ) : SX K Wx (tDrop te) ρ O R := fun B Hs H1s H H1 σ D s f r =>
  h σ H H1 s.has s.ex _ (fun d o v H' H2 gr dx => f.nx ρ o σ H' H2 (s.gr gr)) fun c rc H' H2 gr => r c ρ rc σ H' H2 (s.gr gr)
theorem sx_ret (h : AX K Wx te ρ (fun d => O (.rt d)) fun c => R c ρ) : SX K Wx (tRet te) ρ O R := fun B Hs H1s H H1 σ D s f r =>
  h σ H H1 s.has s.ex _ (fun d o v H' H2 gr dx => f.rt d o v H' H2 (s.gr gr).toGr dx) fun c rc H' H2 gr => r c ρ rc σ H' H2 (s.gr gr)
theorem sx_set {i : Nat} (nr : ρ[i]? ≠ some .row) (h : AX K Wx te ρ (fun d => O (.nx (ρ.set i (.dat d)))) fun c => R c ρ) : SX K Wx (tAsg te (gName i)) ρ O R := fun B Hs H1s H H1 σ D s f r =>
  h σ H H1 s.has s.ex _ (fun d o v H' H2 gr dx => (at_name (K := K) (d := d) nr).run σ H' H2 v _ (s.has.gr gr) gr.b dx fun σ' h' k => f.nx _ o σ' H' H2 ((s.gr gr).slots h' (at_name (K := K) (d := d) nr).out (at_name (K := K) (d := d) nr).imm (at_name (K := K) (d := d) nr).nrow k)) fun c rc H' H2 gr => r c ρ rc σ H' H2 (s.gr gr)
theorem sx_if {c : TT} (h : AB K c ρ fun b => (b = true → SX K Wx t ρ O R) ∧ (b = false → SX K Wx u ρ O R)) : SX K Wx (tIfS c t u) ρ O R := fun B Hs H1s H H1 σ D s f r =>
  h σ H H1 s.has s.ex _ fun b o H' H2 gr => by
    cases b with
    | true => exact (o.1 rfl) B Hs H1s H' H2 σ D (s.gr gr) f r
    | false => exact (o.2 rfl) B Hs H1s H' H2 σ D (s.gr gr) f r
theorem sx_raise (h : R (.ref C) ρ) : SX K Wx (tRaise Wx C) ρ O R := fun B Hs H1s H H1 σ D s f r => r _ ρ h σ H H1 s
/-- try: t, except C: ts -/
theorem so_try {c : Value} {tb : WX → TS} {ts : Addr → Value → Option Addr → TS} {Wout : WX} {Rv : Rz} (h : ∀ Wx, SX K Wx (tb Wx) ρ O Rv) (hs : ∀ v ρ', Rv v ρ' → PySem.W.exmOne K v c = some true ∧ ∀ a, SO K (ts a v none) ρ' O) :
    SO K (fun D σ H => tb (wOnly K c ts Wout D) D σ H) ρ O := fun B Hs H1s H H1 σ D s f =>
  h _ B Hs H1s H H1 σ D s f fun v ρ' rv σ' H' H2 s' => ⟨true, (hs v ρ' rv).1, fun _ a _ => (hs v ρ' rv).2 a B Hs H1s H' H2 σ' D s' f, fun z => nomatch z⟩
theorem has_hide {H H1 : Hp} {σ : L2.St} {i : Nat} {a : Option V} (s : Has K H H1 σ ρ) : Has K H H1 (σ.set i a) (ρ.set i .un) where
  len := by rw [List.length_set, List.length_set, s.len]
  dat := fun j d e => by
    rcases set_get e with ⟨_, y, _⟩ | ⟨n, y⟩
    · cases y
    · rw [List.getElem?_set_ne fun z => n z.symm]
      exact s.dat j d y
  own := fun j d e => by
    rcases set_get e with ⟨_, y, _⟩ | ⟨n, y⟩
    · cases y
    · rw [List.getElem?_set_ne fun z => n z.symm]
      exact s.own j d y
  row := fun j e => by
    rcases set_get e with ⟨_, y, _⟩ | ⟨n, y⟩
    · cases y
    · rw [List.getElem?_set_ne fun z => n z.symm]
      exact s.row j y
  dis := fun x y c c' l ne ex ey mx my sx sy => by
    rcases set_get ex with ⟨_, z, _⟩ | ⟨n, z⟩
    · subst z
      exact mx
    · rcases set_get ey with ⟨_, z', _⟩ | ⟨n', z'⟩
      · subst z'
        exact my
      · rw [List.getElem?_set_ne fun z => n z.symm] at sx
        rw [List.getElem?_set_ne fun z => n' z.symm] at sy
        exact s.dis x y c c' l ne z z' mx my sx sy
  hal := fun j m C fs e => by
    rcases set_get e with ⟨_, y, _⟩ | ⟨n, y⟩
    · cases y
    · rw [List.getElem?_set_ne fun z => n z.symm]
      exact s.hal j m C fs y
theorem Stt.hide {B : Addr → Prop} {Hs H1s H H1 : Hp} {σ : L2.St} {i : Nat} {a : Option V} (s : Stt K B Hs H1s H H1 σ ρ) (nr : ρ[i]? ≠ some .row) : Stt K B Hs H1s H H1 (σ.set i a) (ρ.set i .un) :=
  s.slots (is := [i]) (has_hide s.has) (fun j hj => by
    have : i ≠ j := fun z => hj (by simp [z])
    rw [List.getElem?_set_ne this]) (fun j hj c e => by
    have : j = i := by simpa using hj
    subst this
    rcases set_get e with ⟨_, y, _⟩ | ⟨n, _⟩
    · subst y
      exact fun z => z
    · exact absurd rfl n) (fun j hj => by
    have : j = i := by simpa using hj
    subst this
    exact nr) fun j hj => by
    have : i ≠ j := fun z => hj (by simp [z])
    rw [List.getElem?_set_ne this]
/-- try: t, except C as n: ts (n's slot i is read by nobody) -/
theorem so_tryAs {c : Value} {i : Nat} {tb : WX → TS} {ts : Addr → Value → Option Addr → TS} {Wout : WX} {Rv : Rz} (h : ∀ Wx, SX K Wx (tb Wx) ρ O Rv)
    (hs : ∀ v ρ', Rv v ρ' → PySem.W.exmOne K v c = some true ∧ ρ'[i]? ≠ some .row ∧ ∀ a, SO K (ts a v none) (ρ'.set i .un) fun o => match o with
      | .rt d => O (.rt d)
      | .nx ρ2 => ρ2[i]? ≠ some .row ∧ O (.nx (ρ2.set i .un))
      | .bk ρ2 => ρ2[i]? ≠ some .row ∧ O (.bk (ρ2.set i .un))
      | .ct ρ2 => ρ2[i]? ≠ some .row ∧ O (.ct (ρ2.set i .un))) :
    SO K (fun D σ H => tb (wAs K c i ts Wout D) D σ H) ρ O := fun B Hs H1s H H1 σ D s f =>
  h _ B Hs H1s H H1 σ D s f fun v ρ' rv σ' H' H2 s' => ⟨true, (hs v ρ' rv).1, fun _ a _ => (hs v ρ' rv).2.2 a B Hs H1s H' H2 _ _ (s'.hide (hs v ρ' rv).2.1)
    ⟨fun ρ2 p σ2 H3 H4 s2 => f.nx _ p.2 _ H3 H4 (s2.hide p.1), fun d p v2 H3 H4 g dx => f.rt d p v2 H3 H4 g dx, fun ρ2 p σ2 H3 H4 s2 => f.bk _ p.2 _ H3 H4 (s2.hide p.1), fun ρ2 p σ2 H3 H4 s2 => f.ct _ p.2 _ H3 H4 (s2.hide p.1)⟩, fun z => nomatch z⟩
end
/-! ### defs that may raise -/
theorem takes0 {X : Cx} : L2N.Takes X (fun _ _ _ _ => False) := fun _ _ ⟨_, _, _, _, _, _, _, _, _, _, _, _, _, _, _, _, z⟩ => z.elim
theorem fn_okX {P : Program} {w : World} {K : Frg} {mg : Str → Option Value} {base : Heap} {x qual : Str} {st : Stmt} {f : Addr} {fd : FuncData} {N ps : List Str} {k : Nat} {sp : Sp} (F : Fun K x qual st f fd) (S : FnScope N ps (defScope st)) (len : ∀ vs H Q E, sp vs H Q E → vs.length = ps.length)
    (body : ∀ (cdv : Value) (A : Around) (outer : List Env) (s : Shared) (H : Hp) (vs : List V) (Q : VK) (E : XK), Room k (A.deeper (PyProof.Rows.envOfC qual (defScope st) s.heap.objs.size f cdv)) → sp vs H Q E →
      ∃ t, PSs (cxOf (L2N.CX P w) P w K mg base N qual (defScope st) f cdv A outer s H E) (defBody st) t ∧ t { nx := fun _ H' => Q .non H', rt := Q } (start N vs) H) : FnOk P w K mg base (L2N.CX P w) (k + 1) f fd ps sp := by
  obtain ⟨oc, od, kV, doc, pm, an, cdv, ct, osl, rfl, lk, hcd⟩ := F.ex
  exact fn_of lk hcd S len fun A outer s H vs Q E hr hsp => body cdv A outer s H vs Q E hr hsp
section
variable {P : Program} {w : World} {K : Frg} {mg : Str → Option Value} {base : Heap}
theorem mk_defX {k : Nat} {x : Str} {st : Stmt} {N ps : List Str} {W : WPX} (F : FunAt K mg x ps st) (S : FnScope N ps (defScope st)) (hl : ∀ ds P R, W ds P R → ds.length = ps.length)
    (body : ∀ (f : Addr) (cdv : Value) (A : Around) (outer : List Env) (s : Shared) (H : Hp) (E : XK), Room k (A.deeper (PyProof.Rows.envOfC x (defScope st) s.heap.objs.size f cdv)) →
      ∃ t, PSs (cxOf (L2N.CX P w) P w K mg base N x (defScope st) f cdv A outer s H E) (defBody st) t ∧ ∀ ds P R, W ds P R → SX K (fun cls d _ H' => E cls d H') t (rho0 N.length ds) (retO P) fun c _ => R c) : DefX P w K mg base (k + 1) x ps W := by
  obtain ⟨f, fd, F, b, m⟩ := F.ex
  refine ⟨f, fd, fn_okX F S (fun vs H Q E ⟨ds, P, R, H0, e, dx, wp, q⟩ => (dps_len dx).trans (hl ds P R wp)) (fun cdv A outer s H vs Q E hr ⟨ds, P, R, H0, e, dx, wp, q, qx⟩ => ?_), b, F.kp, m⟩
  obtain ⟨t, pt, so⟩ := body f cdv A outer s H E hr
  refine ⟨t, pt, so ds P R wp (fun _ => False) H0 H H0 H (start N vs) _ ⟨has0 dx, e, Evl.Ex.refl _, fun x o _ z => z, fun x o _ z => z, fun i es l z => ?_, fun i l z => ?_, fun x z => z.elim, fun i C fs l z => ?_⟩
    ⟨fun ρ' p σ' H' H2 s' => q _ p _ H' H2 s'.toGr .non, fun d p v H' H2 g dv => q d p v H' H2 g dv, fun ρ' p => p.elim, fun ρ' p => p.elim⟩ fun c ρ' rc σ' H' H2 s' => qx c rc H' H2 s'.toGr⟩
  · rcases dats_get z with ⟨d', e1, e2⟩ | e1 <;> cases e1
  · rcases dats_get z with ⟨d', e1, e2⟩ | e1 <;> cases e1
  · rcases dats_get z with ⟨d', e1, e2⟩ | e1 <;> cases e1
end
end Ft

/-! part: FtM -/
set_option Elab.async false
set_option linter.all false
set_option maxRecDepth 100000
namespace Ft
open PySem L2 PyProof.Rows
/-! ### t[::-1] of a tuple -/
theorem adj_back (n : Nat) : Builtin.Slice.sliceAdjust none none (-1) (n : Int) = ((n : Int) - 1, -1) := by
  unfold Builtin.Slice.sliceAdjust
  simp
theorem places_back (n : Nat) : Builtin.Slice.slicePlaces ((n : Int) - 1) (-1) (-1) = n := by
  unfold Builtin.Slice.slicePlaces
  have h1 : ¬ ((-1 : Int) > 0) := by omega
  have h2 : (- -1 : Int) = 1 := by omega
  simp only [h1, if_false, h2, Int.ediv_one]
  split <;> omega
theorem pick_back (xs : Array Value) : ((List.range xs.size).filterMap fun (m : Nat) => xs[((xs.size : Int) - 1 + (m : Int) * -1).toNat]?).toArray = xs.toList.reverse.toArray := by
  have e : (List.range xs.size).filterMap (fun (m : Nat) => xs[((xs.size : Int) - 1 + (m : Int) * -1).toNat]?) = ((List.range xs.size).map fun m => xs.size - 1 - m).filterMap (xs[·]?) := by
    rw [List.filterMap_map]
    have cg : ∀ (l : List Nat), (∀ m ∈ l, m < xs.size) → l.filterMap (fun (m : Nat) => xs[((xs.size : Int) - 1 + (m : Int) * -1).toNat]?) = l.filterMap ((xs[·]?) ∘ fun m => xs.size - 1 - m) := fun l => by
      induction l with
      | nil => exact fun _ => rfl
      | cons m l ih =>
        intro h
        have hm := h m List.mem_cons_self
        have e1 : xs[((xs.size : Int) - 1 + (m : Int) * -1).toNat]? = xs[xs.size - 1 - m]? := by rw [show ((xs.size : Int) - 1 + (m : Int) * -1).toNat = xs.size - 1 - m by omega]
        rw [List.filterMap_cons, List.filterMap_cons, ih fun x hx => h x (List.mem_cons_of_mem _ hx)]
        rw [e1]
        rfl
    exact cg _ fun m hm => List.mem_range.mp hm
  rw [e, PySem.W.krv_range, List.filterMap_reverse, PySem.W.krv_all]
section
variable {prog : Program} {w : World} {A : Around} {E : Value → Shared → Prop} {s : Shared}
theorem applied_back {sl : Addr} {vl vu vs : Value} {n : Nat} {Q : Int × Int × Nat → Shared → Prop} (hs : s.heap.IsSliceOf sl vl vu vs) (pl : IsPart vl none) (pu : IsPart vu none) (ps : IsPart vs (some (-1)))
    (h : Q ((n : Int) - 1, -1, n) s) : wpAny (model prog w) A (Builtin.Slice.sliceApplied (.ref sl) (pure (n : Int))) Q E s := by
  obtain ⟨o1, ho1, hc1, hd1⟩ := id hs
  unfold Builtin.Slice.sliceApplied Builtin.Slice.sliceFields
  refine wpAny_bind (wpAny_bind (wpAny_field ho1 hd1 (x := vl) rfl (wpAny_bind (wpAny_field ho1 hd1 (x := vu) rfl (wpAny_bind (wpAny_field ho1 hd1 (x := vs) rfl (wpAny_pure ?_)))))))
  refine wpAny_bind (HT.slicePart_ ps ?_)
  show wpAny _ _ (if ((-1 : Int) == 0) = true then _ else _) _ _ s
  rw [if_neg (by decide)]
  refine wpAny_bind (HT.slicePart_ pl (wpAny_bind (HT.slicePart_ pu (wpAny_bind (wpAny_pure ?_)))))
  show wpAny _ _ (match Builtin.Slice.sliceAdjust none none (-1) (n : Int) with | (lo, hi) => pure (lo, (-1 : Int), Builtin.Slice.slicePlaces lo hi (-1))) _ _ s
  rw [adj_back]
  show wpAny _ _ (pure ((n : Int) - 1, (-1 : Int), Builtin.Slice.slicePlaces ((n : Int) - 1) (-1) (-1))) _ _ s
  rw [places_back]
  exact wpAny_pure h
theorem getItem_back {t sl : Addr} {items : Array Value} {vl vu vs : Value} {Q : Value → Shared → Prop} (ht : IsTup s.heap t items) (hs : s.heap.IsSliceOf sl vl vu vs) (pl : IsPart vl none) (pu : IsPart vu none) (ps : IsPart vs (some (-1)))
    (h : Q (.ref s.heap.objs.size) { s with heap := s.heap.push { cls := .type "tuple", data := .seq items.toList.reverse.toArray } }) (hsz : items.size ≤ sizeLine) : wpAny (model prog w) A (getItem (.ref t) (.ref sl)) Q E s := by
  have fits : sizeOk (.seq items.toList.reverse.toArray) := by
    show items.toList.reverse.toArray.size ≤ sizeLine
    rw [List.size_toArray, List.length_reverse, Array.length_toList]
    exact hsz
  obtain ⟨o1, ho1, hc1, hd1⟩ := id hs
  have isS : s.TypeIs (.ref sl) "slice" := ⟨o1, ho1, hc1⟩
  unfold getItem
  try with_reducible refine wpAny_holding ?_
  first | refine wpAny_bind (wpAny_pure ?_) | skip
  refine wpAny_bind (wpAny_sequenceKey ht.typeIs (by decide) (wpAny_bind (wpAny_callSpecial?_slot (name := Str.ofString "__getitem__") ht.typeIs slot_tuple_getitem
    (wpAny_call_entry slot_tuple_getitem ht.typeIs entry_tuple_getitem ?_ (args_tuple_getitem _ _)))))
  show wpAny _ _ (Builtin.Tuple.tupleItemsOf (.ref t) >>= _) _ _ s
  refine wpAny_bind (tupleItemsOf_ ht (wpAny_bind (wpAny_typeOf isS ?_)))
  rw [if_pos (by decide)]
  refine wpAny_bind (applied_back hs pl pu ps ?_)
  have no : ¬ ((((items.size : Int) - 1) == 0 && (-1 : Int) == 1 && items.size == items.size) = true) := by
    rw [show ((-1 : Int) == 1) = false from rfl, Bool.and_false, Bool.false_and]
    exact Bool.false_ne_true
  show wpAny _ _ (if (((items.size : Int) - 1) == 0 && (-1 : Int) == 1 && items.size == items.size) = true then _ else _) _ _ s
  rw [if_neg no, pick_back]
  first
    | exact wpAny_bind (m := Builtin.Tuple.tupleExact _) (wpAny_newObj_type (wpAny_pure ⟨_, rfl, wpAny_pure h⟩) fits)
    | exact wpAny_bind (m := Builtin.Tuple.tupleExact _) (wpAny_newObj_type (wpAny_bind (wpAny_pure (wpAny_pure ⟨_, rfl, wpAny_pure h⟩))) fits)
    | exact wpAny_bind (wpAny_bind (m := Builtin.Tuple.tupleExact _) (wpAny_newObj_type (wpAny_pure (wpAny_pure ⟨_, rfl, wpAny_pure h⟩)) fits))
    | exact wpAny_bind (wpAny_bind (m := Builtin.Tuple.tupleExact _) (wpAny_newObj_type (wpAny_pure ⟨_, rfl, wpAny_pure h⟩) fits))
end
def tRevT (K : Frg) (te : TE) : TE := fun σ H Q => te σ H fun x H1 => ∃ a xs, x = .ref a ∧ SqT K H1 a xs ∧ ∀ p, H1 p = none → Q (.ref p) (upd H1 p (.tup xs.reverse))
theorem pe_revT {X : Cx} {e : Expr} {te : TE} {k : Nat} {p1 p2 p3 pos : Pos} (he : PE X e te) : PE X (.Subscript e (.Slice none none (some (.UnaryOp .USub (.Constant (.int 1) k p1) p2)) p3) pos) (tRevT X.K te) := by
  refine ⟨fun pins s σ H Q I h => Subscript_ (thn (he.run pins s σ H _ I h) fun v s1 ⟨x, H1, I1, r1, a, xs, ex, hx, q⟩ => ?_)⟩
  subst ex
  cases r1
  have back : PO X (some (.UnaryOp .USub (.Constant (.int 1) k p1) p2)) (tPart (tUn (rU fun i => .int (-i)) (tC (.int 1)))) := po_some (pe_un un_neg pe_int)
  refine wpAny_Slice (thn (po_none.run pins s1 σ H1 (fun o H2 => o = none ∧ H2 = H1) I1 ⟨rfl, rfl⟩) fun vl s2 ⟨l, H2, I2, pl, e1, e2⟩ => ?_)
  subst e1 e2
  refine thn (po_none.run pins s2 σ H2 (fun o H3 => o = none ∧ H3 = H2) I2 ⟨rfl, rfl⟩) fun vu s3 ⟨u, H3, I3, pu, e3, e4⟩ => ?_
  subst e3 e4
  refine thn (back.run pins s3 σ H3 (fun o H4 => o = some (-1) ∧ H4 = H3) I3 ⟨1, rfl, -1, rfl, rfl, rfl⟩) fun vs s4 ⟨o, H4, I4, ps, e5, e6⟩ => ?_
  subst e5 e6
  have I5 : Inv X pins σ H4 { s4 with heap := s4.heap.push { cls := .type "slice", data := .fields #[vl, vu, vs] } } := I4.kept (t' := s4.toks) fun b ob z => Heap.get?_push_of_some _ z
  obtain ⟨its, r, ht, hz⟩ := I5.tuple hx
  show wpAny (model X.prog X.w) X.A (subscriptTail e (.Slice none none (some (.UnaryOp .USub (.Constant (.int 1) k p1) p2)) p3) (.ref a) (.ref s4.heap.objs.size)) (EP X pins σ Q) X.xe { s4 with heap := s4.heap.push { cls := .type "slice", data := .fields #[vl, vu, vs] } }
  refine tail_any (ops := [.ref a, .ref s4.heap.objs.size]) ht.typeIs slot_tuple_getitem.lookup ?_ (by with_unfolding_all rfl)
  have hl : its.toArray.size = xs.length := by rw [List.size_toArray]; exact r.length.symm
  refine getItem_back ht (Heap.IsSliceOf.new _ vl vu vs) pl pu ps ?_ (by rw [hl]; exact hz)
  refine ⟨.ref _, _, I5.laid (t' := s4.toks) (o := .tup xs.reverse) (fun b ob z => Heap.get?_push_of_some _ z) (Nat.le_refl _) ?_, rfl, q _ (I5.hok.fresh (Nat.le_refl _))⟩
  exact ⟨by rw [List.length_reverse]; exact hz, _, r.reverse, IsTup.new _ _⟩
/-! ### readings -/
section
variable {K : Frg} {ρ : Rho} {te : TE} {P : Da → Prop}
theorem dps_rev {H : Hp} : ∀ {vs : List V} {ds : List Da}, DqAll K H vs ds → DqAll K H vs.reverse ds.reverse
  | _, [], h => by cases h; exact .nil
  | _, d :: ds, h => by
    cases h with
    | cons a b =>
      rw [List.reverse_cons, List.reverse_cons]
      exact dps_app (dps_rev b) (dps_one a)
theorem ae_revT (h : AE K te ρ fun d => ∃ ds, d = .tuple ds ∧ P (.tuple ds.reverse)) : AE K (tRevT K te) ρ P := fun σ H H1 s e Q q =>
  h σ H H1 s e _ fun d ⟨ds, ed, p⟩ v H' H2 g dx => by
    subst ed
    cases dx with
    | @tup a xs _ t x =>
      refine ⟨a, xs, rfl, Evl.ex_t g.b t, fun l n => ?_⟩
      have g2 : GrN K H' H2 (upd H' l (.tup xs.reverse)) (upd H2 l (.tup xs.reverse)) := GrN.new g.b n
      exact q _ p _ _ _ (g.trans (GrN.up g2 fun b rb => (s.gr g).rowAt rb)) (.tup (SqT.of upd_same) (dps_rev (dps_ex g2.a _ x)))
theorem ae_dict0 (p : P (.dict [])) : AE K tDNewK ρ P := fun σ H H1 s e Q q l n => by
  have g2 : GrN K H H1 (upd H l (.dK [])) (upd H1 l (.dK [])) := GrN.new e n
  exact q _ p _ _ _ ((Gr.refl e fun _ => s.rowAt).trans (GrN.up g2 fun b rb => s.rowAt rb)) (.dct upd_same)
theorem rg_nums {H : Hp} (n : Int) : DqAll K H (rgV 0 n) (nums ((List.range n.toNat).map fun (i : Nat) => (i : Int))) := by
  unfold rgV
  rw [Int.sub_zero]
  have e : ((List.range n.toNat).map fun (i : Nat) => V.int (0 + (i : Nat))) = ((List.range n.toNat).map fun (i : Nat) => (i : Int)).map V.int := by
    rw [List.map_map]
    refine List.map_congr_left fun i _ => ?_
    show V.int (0 + (i : Int)) = V.int (i : Int)
    rw [Int.zero_add]
  rw [e]
  exact dq_intsV _
/-- 0, 1, .. below n -/
abbrev upto (n : Int) : List Int := (List.range n.toNat).map fun (i : Nat) => (i : Int)
theorem ae_tupRg (h : AE K te ρ fun d => ∃ n : Int, d = .int n ∧ 0 ≤ n ∧ n ≤ 100000 ∧ P (tupI (upto n))) : AE K (tTupRg (tRg1 te)) ρ P := fun σ H H1 s e Q q =>
  h σ H H1 s e _ fun d ⟨n, ed, h0, h1, p⟩ v H' H2 g dx => by
    subst ed
    cases dx
    refine ⟨n, rfl, RgOk.of_le (by omega) (by omega) (by omega) h0, fun l nl => ?_⟩
    have g2 : GrN K H' H2 (upd H' l (.tup (rgV 0 n))) (upd H2 l (.tup (rgV 0 n))) := GrN.new g.b nl
    exact q _ p _ _ _ (g.trans (GrN.up g2 fun b rb => (s.gr g).rowAt rb)) (.tup (SqT.of upd_same) (rg_nums n))
theorem af_lstRg {P : List Da → Prop} (h : AE K te ρ fun d => ∃ n : Int, d = .int n ∧ 0 ≤ n ∧ n ≤ 100000 ∧ P (nums (upto n))) : AF K (tLstRg (tRg1 te)) ρ P := fun σ H H1 s e Q q =>
  h σ H H1 s e _ fun d ⟨n, ed, h0, h1, p⟩ v H' H2 g dx => by
    subst ed
    cases dx
    refine ⟨n, rfl, RgOk.of_le (by omega) (by omega) (by omega) h0, fun l nl => ?_⟩
    exact q _ p l _ H' _ (g.trans (GrN.up (GrN.fresh g.b nl) fun b rb => (s.gr g).rowAt rb)) (g.old nl) (Evl.fresh_back g.b nl) upd_same (rg_nums n)
end
end Ft

/-! part: FtN -/
set_option Elab.async false
set_option linter.all false
set_option maxRecDepth 100000
/-! A comprehension over a tuple while an error is handled. -/
namespace Ft
open PySem L2 PyProof.Rows L2H HotX
section
variable {prog : Program} {w : World} {A : Around} {E : Value → Shared → Prop} {s : Shared}
theorem tuple_end_hot {it t x1 : Addr} {i : Nat} {items : Array Value} {Q : Option Value → Shared → Prop} (hot : HotAt A x1 s.heap) (no : x1 ≠ it) (hit : s.heap.IsTupleIter it t i) (ht : s.heap.IsTuple t items) (hx : items[i]? = none)
    (hQ : ∀ h', Heap.ExtBut it s.heap h' → Q none { s with heap := h' }) : wpAny (model prog w) A (pyNext (.ref it)) Q E s := by
  obtain ⟨oi, hoi, hci, hdi⟩ := id hit
  obtain ⟨ol, hol, _, nl, hdl⟩ := id ht
  obtain ⟨hh, o1, v1, h1, d1, c1⟩ := hot
  unfold pyNext
  refine wpAny_bind (wpAny_attempt (wpAny_callSpecial?_slot (name := Str.ofString "__next__") hit.typeIs F.slot_tuple_iterator_next (wpAny_call_entry F.slot_tuple_iterator_next hit.typeIs F.entry_tuple_iterator_next ?_ (F.args_tuple_iterator_next_1 _))))
  show wpAny _ _ (field (.ref it) 0 >>= _) _ _ s
  refine wpAny_bind (wpAny_field hoi hdi (x := .ref t) rfl ?_)
  show wpAny _ _ (if (Value.ref t == Value.none) = true then _ else _) _ _ s
  rw [if_neg (show ¬ ((Value.ref t == Value.none) = true) by exact Bool.false_ne_true)]
  show wpAny _ _ (field (.ref it) 1 >>= _) _ _ s
  refine wpAny_bind (wpAny_field hoi hdi (x := .int i 0) rfl ?_)
  show wpAny _ _ (seqItems? (.ref t) >>= _) _ _ s
  refine wpAny_bind (wpAny_seqItems hol hdl ?_)
  simp only [Int.toNat_natCast, hx]
  refine wpAny_bind (wpAny_rule (wpAny_bind (wpAny_setField hoi hdi (by simp) ?_)))
  show wpAny _ _ (newExc (.type "StopIteration") [] >>= _) _ _ _
  refine wpAny_bind ?_
  simp only [newExc, newTuple]
  refine wpAny_bind (wpAny_newObj_type ?_ (by size_fits))
  refine wpAny_bind (m := firstArgMember _ _) (wpAny_of_eq (a := Value.none) (by first | rfl | (simp only [firstArgMember]; rfl)) (wpAny_newObj_type ?_ (by size_fits)))
  have old : ∀ (f : Obj → Obj) (b : Addr) (o : Obj), b ≠ it → s.heap.get? b = some o → (s.heap.update it f).get? b = some o := fun f b o nb e => (Heap.get?_update_ne _ _ _ _ (fun z => nb (by first | exact z | exact z.symm))).trans e
  have u1 := Heap.get?_push_of_some { cls := .type "tuple", data := .seq #[] } (old (Obj.mapFields fun x => x.setIfInBounds 0 Value.none) x1 o1 no h1)
  refine raiseNew_hot (x1 := x1) ⟨hh, o1, v1, Heap.get?_push_of_some _ u1, d1, c1⟩ (Nat.ne_of_lt (Heap.lt_size u1)) (Heap.get?_push_size _ rfl) rfl (by first | (simp; done) | (simp; omega) | (simp only [Array.size_append]; simp; omega)) ?_
  refine wpAny_bind (wpAny_isInstance (T := "StopIteration") (b := true) ⟨_, Heap.get?_update_self _ (Heap.get?_push_size _ rfl) rfl, rfl⟩ isSubtype_stop (wpAny_pure (hQ _ fun b o nb e => ?_)))
  have e1 := Heap.get?_push_of_some { cls := .type "tuple", data := .seq #[] } (old (Obj.mapFields fun x => x.setIfInBounds 0 Value.none) b o nb e)
  rw [Heap.get?_update_other _ _ (Nat.ne_of_gt (Heap.lt_size e1))]
  exact Heap.get?_push_of_some _ e1
end
theorem turn_tupleH {P : Program} {w : World} {K : Frg} {tg : Expr} (a it : Addr) : TurnH P w K tg (Itt K a) [it] it (fun i h => h.IsTupleIter it a i) where
  mem := List.mem_singleton.mpr rfl
  obj := fun i h st b hb => by
    obtain rfl : b = it := by simpa using hb
    obtain ⟨o, e, c, d⟩ := st
    exact ⟨o, e, fun v z => by rw [d] at z; cases z⟩
  keep := fun i h h' st k => st.at fun o z => k it (List.mem_singleton.mpr rfl) o z
  item := by
    intro X hP hw hK _ i pins s σ H E I hf st ⟨zs, z, hq, hz⟩
    subst hP hw hK
    obtain ⟨its, rel, tp, _⟩ := I.tuple hq
    obtain ⟨u, eu, ru⟩ := rel.get hz
    obtain ⟨g0, g1, g2, g3, g4, g5⟩ := hf it (List.mem_singleton.mpr rfl)
    refine wpAny_pyNext_tuple_item st (items := its.toArray) tp (x := u) (by simpa using eu) fun h2 st2 sb => ?_
    have J : Inv X pins σ H { s with heap := h2 } := I.turned (t' := s.toks) (fun b o nb e => (sb.2 b nb).trans e) g0 g1 g3 g4 g5
    obtain ⟨o, e, c, d⟩ := id st2
    exact ⟨u, rfl, go_of (s := { s with heap := h2 }) e c d (by decide) ⟨z, H, J, ru, ⟨rfl, fun ys hy => by rw [I.tuple_inj hy hq]; exact hz⟩, st2, fun b hb => (hf b hb).1⟩⟩
  done := by
    intro X hP hw hK ⟨p, ⟨hh, v1, d1, c1⟩, hp⟩ i pins s σ H E I hf st ⟨zs, hq, hz⟩
    subst hP hw hK
    obtain ⟨its, rel, tp, _⟩ := I.tuple hq
    obtain ⟨g0, g1, g2, g3, g4, g5⟩ := hf it (List.mem_singleton.mpr rfl)
    have ll := rel.length
    have pp := I.pin p (List.mem_append_left _ hp)
    exact tuple_end_hot ⟨hh, p.2, v1, pp.1, d1, c1⟩ (g5 p (List.mem_append_left _ hp)) st (items := its.toArray) tp (by simp; omega) fun h2 eb => ⟨rfl, I.turned (t' := s.toks) (fun b o nb e => eb b o nb e) g0 g1 g3 g4 g5⟩
  self := fun _ _ _ _ _ st q => wpAny_pyIter_tupleiter st q
section
variable {X : Cx} {tg : Expr}
theorem pi_tupH {l : Expr} {tl : TE} (hl : PE X l tl) : PIH X tg l (iTup X.K tl) := by
  refine ⟨fun pins s σ H R I h => thn (hl.run pins s σ H _ I h) fun v s1 ⟨x, H1, I1, r1, a, ex, ⟨xs, hq⟩, q⟩ => ?_⟩
  subst ex
  cases r1
  obtain ⟨its, rel, tp, _⟩ := I1.tuple hq
  refine wpAny_pyIter_tuple (items := its.toArray) tp ⟨s1.heap.objs.size, [s1.heap.objs.size], _, _, H1, rfl, I1.kept (t' := s1.toks) (fun b o e => Heap.get?_push_of_some _ e), turn_tupleH a _, ⟨_, Heap.get?_push_size _ rfl, rfl, rfl⟩, fun b hb => ?_, q⟩
  obtain rfl : b = s1.heap.objs.size := by simpa using hb
  exact I1.fpOk (Nat.le_refl _) (I1.hok.fresh (Nat.le_refl _))
/-- the block's context, the pins of the def's about it -/
abbrev blkH (X : Cx) (s : Shared) (H : Hp) (scope : Scope) (cenv : Env) (fp : List Addr) : Cx := { X.blk s H scope cenv fp with pn := X.pn }
theorem block_startH {pins : List (Addr × Obj)} {σ : L2.St} {H : Hp} {s : Shared} {scope : Scope} {own : List (Str × Nat)} {fp : List Addr} (I : Inv X pins σ H s) (ok : BlkOk X.N X.env.scope scope own) (hN : X.N.Nodup) (hfp : ∀ b ∈ fp, FpOk X pins H b ∧ b < s.heap.objs.size) :
    Inv (blkH X s H scope (compEnvC scope (cellsFrom (s.heap.objs.size + 1) scope.names (cloFrom X.env.cells scope.names [])) s.heap.objs.size X.env) fp) [] (wipe σ (own.map (·.2))) H { s with heap := pushCells (s.heap.push { cls := .type "dict", data := .dict #[] }) scope.names } := by
  have J := block_start I ok hN hfp
  have O := J.ok
  refine ⟨⟨O.mod, O.kind, O.glob, O.blt, O.above, O.inj, O.has, O.cab, O.hd, O.frames, O.stk, O.exf, O.bs, O.bsz, O.noex, O.exfs, O.funs, O.frf⟩, J.os, J.bare, J.base, J.loc, J.cell, J.free, J.freeC, fun p hp => ?_, J.hok, J.len⟩
  have hp : p ∈ X.pn := by simpa using hp
  have P1 := I.pin p (List.mem_append_left _ hp)
  exact ⟨pushCells_keeps _ _ _ _ (Heap.get?_push_of_some _ P1.1), P1.2.1, Nat.ne_of_lt (Heap.lt_size P1.1), fun hm => (List.mem_cons.mp (I.stkSub p.1 hm)).elim P1.2.2.1 P1.2.2.2.1, P1.2.2.2.2⟩
theorem lc_hot {pins : List (Addr × Obj)} {s : Shared} {σ : L2.St} {H : Hp} {Q : VK} {elt iter : Expr} {ifs : List Expr} {scope : Scope} {own : List (Str × Nat)} {pos pos' : Pos} {wi : TI} {g : TG} {tt : TT} {te : TE} {use : Option (Value → Sem Unit)} {Qf : Value → Shared → Prop}
    (hc : HotC X) (hN : X.N.Nodup) (I : Inv X pins σ H s) (hi : PIH X tg iter wi) (ok : BlkOk X.N X.env.scope scope own)
    (hg : ∀ (s : Shared) (H : Hp) (C : Addr) (cl : List (Str × Addr)) (fp : List Addr), PG (blkH X s H scope (compEnvC scope cl C X.env) fp) tg g) (ht : ∀ (s : Shared) (H : Hp) (C : Addr) (cl : List (Str × Addr)) (fp : List Addr), PTs (blkH X s H scope (compEnvC scope cl C X.env) fp) ifs tt)
    (he : ∀ (s : Shared) (H : Hp) (C : Addr) (cl : List (Str × Addr)) (fp : List Addr), PE (blkH X s H scope (compEnvC scope cl C X.env) fp) elt te) (hs : ∀ x, foldedSetIterable iter X.env x = pure x) (h : tLc wi g tt te (own.map (·.2)) σ H Q)
    (hRR : ∀ D C z m G, Inv X pins σ G z → Q (.ref D) G → z.heap.Ns C m → FpOk X pins G C → compPost (model X.prog X.w) X.A X.xe use Qf (.ref D) C (.ok .next) z) :
    wpAny (model X.prog X.w) X.A (comprehension (.ListComp elt [⟨tg, iter, ifs, 0⟩] scope pos) scope X.env pos' (newList []) false (eval iter X.env) use) Qf X.xe s := by
  have free : ∀ y ∈ scope.names, y.2 = .free → ∃ c, X.env.cells.lookup y.1 = some c := fun y hy e => (ok.free y hy e).elim (fun k => I.ok.has _ (.inl k)) fun k => I.ok.has _ (.inr k)
  refine wpAny_comprehension_free (use := use) rfl hs (closure_ok free) ok.kind (fun y hy e => by rw [ok.uniq y hy, e]) (thn (hi.run pins s σ H _ I h) fun xv z1 hx => thn hx fun iv z2 h2 => ?_)
  obtain ⟨it, fp, tn, J, G2, e, K2, T, t2, f2, q⟩ := h2
  subst e
  refine wpAny_newObj_type (newEnv_comp ?_) (by show 0 ≤ sizeLine; decide)
  generalize hD : z2.heap.objs.size = D
  obtain ⟨W, ⟨m0, w0⟩, turn⟩ := q D (K2.hok.fresh (Nat.le_of_eq hD))
  generalize hz3 : ({ z2 with heap := z2.heap.push { cls := .type "list", data := .seq ([] : List Value).toArray } } : Shared) = z3
  have e3 : z3.heap = z2.heap.push { cls := .type "list", data := .seq ([] : List Value).toArray } := by rw [← hz3]
  have K3 : Inv X pins σ (upd G2 D (.lst [])) z3 := by
    rw [← hz3]
    exact K2.laid (t' := z2.toks) (fun b o e => Heap.get?_push_of_some _ e) (Nat.le_of_eq hD) ⟨Nat.zero_le _, [], 0, .nil, by rw [← hD]; exact Heap.get?_push_size _ rfl⟩
  have f3 : ∀ b ∈ fp, FpOk X pins (upd G2 D (.lst [])) b ∧ b < z3.heap.objs.size := fun b hb => by
    obtain ⟨o, e, _⟩ := T.obj _ _ t2 b hb
    have lt := Heap.lt_size e
    refine ⟨⟨?_, (f2 b hb).2⟩, by rw [e3, Heap.size_push]; exact Nat.lt_succ_of_lt lt⟩
    rw [upd_ne (by rw [← hD]; exact Nat.ne_of_lt lt)]
    exact (f2 b hb).1
  have t3 : tn 0 z3.heap := T.keep _ _ _ t2 fun b _ o e => by rw [e3]; exact Heap.get?_push_of_some _ e
  have K4 := block_startH K3 ok hN f3
  have P1 := hg z3 (upd G2 D (.lst [])) z3.heap.objs.size (cellsFrom (z3.heap.objs.size + 1) scope.names (cloFrom X.env.cells scope.names [])) fp
  have P2 := ht z3 (upd G2 D (.lst [])) z3.heap.objs.size (cellsFrom (z3.heap.objs.size + 1) scope.names (cloFrom X.env.cells scope.names [])) fp
  have P3 := he z3 (upd G2 D (.lst [])) z3.heap.objs.size (cellsFrom (z3.heap.objs.size + 1) scope.names (cloFrom X.env.cells scope.names [])) fp
  show codeAny _ _ (.compStart (.ListComp elt [⟨tg, iter, ifs, 0⟩] scope pos) 0 (.ref it) (.ref D) (compEnvC scope (cellsFrom (z3.heap.objs.size + 1) scope.names (cloFrom X.env.cells scope.names [])) z3.heap.objs.size X.env)) (compPost (model X.prog X.w) X.A X.xe use Qf (.ref D) z3.heap.objs.size) { z3 with heap := pushCells (z3.heap.push { cls := .type "dict", data := .dict #[] }) scope.names }
  have n3 : ∀ b ∈ fp, (upd G2 D (.lst [])) b = none := fun b hb => (f3 b hb).1.1
  generalize hce : compEnvC scope (cellsFrom (z3.heap.objs.size + 1) scope.names (cloFrom X.env.cells scope.names [])) z3.heap.objs.size X.env = ce at K4 P1 P2 P3 ⊢
  have cL : ce.locals = z3.heap.objs.size := by rw [← hce]; rfl
  generalize hG3 : upd G2 D (.lst []) = G3 at K3 K4 P1 P2 P3 w0 n3 f3
  generalize hz4 : ({ z3 with heap := pushCells (z3.heap.push { cls := .type "dict", data := .dict #[] }) scope.names } : Shared) = z4 at K4 ⊢
  have t4 : tn 0 z4.heap := T.keep _ _ _ t3 fun b _ o e => by rw [← hz4]; exact pushCells_keeps _ _ _ _ (Heap.get?_push_of_some _ e)
  have stat : ∀ {σ' : L2.St} {G : Hp} {z : Shared}, Inv (blkH X z3 G3 scope ce fp) [] σ' G z → (∀ b ∈ fp, G b = none) → ∀ b ∈ fp, FpOk (blkH X z3 G3 scope ce fp) [] G b := fun {σ' G z} I' hn b hb =>
    ⟨hn b hb, (I'.ok.exf b hb).1, I'.ok.exfs b hb, .inl hb, fun x c e => (I'.ok.exf b hb).2 x c e, fun p hp => (f3 b hb).1.2.2.2.2.2 p (List.mem_append_left _ (by simpa using hp))⟩
  have loop : codeAny (model X.prog X.w) X.A (.compLoop (.ListComp elt [⟨tg, iter, ifs, 0⟩] scope pos) 0 (.ref it) (.ref D) ce) (compPost (model X.prog X.w) X.A X.xe use Qf (.ref D) z3.heap.objs.size) z4 := by
    refine compLoop_any (fun n z => ∃ i G, Inv (blkH X z3 G3 scope ce fp) [] (wipe σ (own.map (·.2))) G z ∧ tn i z.heap ∧ (∀ b ∈ fp, G b = none) ∧ W i n G) ?_ m0 ⟨0, G3, K4, t4, n3, w0⟩
    rintro n z5 ⟨i, G5, K5, t5, n5, w5⟩
    rcases turn i n G5 w5 with ⟨stop, qq⟩ | ⟨go, Nx, hNx, step⟩
    · refine thnF (T.done (blkH X z3 G3 scope ce fp) rfl rfl rfl hc i [] z5 _ G5 (fun _ _ => False) K5 (stat K5 n5) t5 stop) fun r z6 ⟨hr, K6⟩ => ?_
      subst hr
      have K7 : Inv X pins σ G5 z6 := K3.call' (ch := fp) K6.os K6.base K6.hok K6.bare fun b hb => ⟨(f3 b hb).1.2.2.2.1, (f3 b hb).1.2.1, (f3 b hb).1.2.2.2.2.1, (f3 b hb).1.2.2.2.2.2⟩
      have nC : G5 z3.heap.objs.size = none := by
        have y : G5 ce.locals = none := K6.free
        rwa [cL] at y
      obtain ⟨m, hn, _⟩ := K6.loc
      have hn : z6.heap.Ns ce.locals m := hn
      rw [cL] at hn
      exact hRR D z3.heap.objs.size z6 m G5 K7 qq hn (K3.fpOk (Nat.le_refl _) nC)
    · refine thnF (T.item (blkH X z3 G3 scope ce fp) rfl rfl rfl hc i [] z5 _ G5 (fun _ _ => False) K5 (stat K5 n5) t5 go) fun r z6 ⟨u, hr, h6⟩ => ?_
      subst hr
      refine thnF h6 fun _ z7 ⟨x, G7, K7, r7, y7, t7, n7⟩ => ?_
      refine thnF (P1.run _ z7 _ G7 x u _ (K7.pinned (stat K7 n7) (T.obj _ _ t7)) r7 (step x G7 y7)) fun _ z8 ⟨σ8, G8, K8, hw8, q8⟩ => thnF (P2.run _ z8 σ8 G8 _ K8 q8) fun b z9 ⟨G9, K9, q9⟩ => ?_
      have fin : ∀ {z : Shared} {G : Hp}, Inv (blkH X z3 G3 scope ce fp) ([] ++ pinsAt fp z7.heap) σ8 G z → Nx G → ∃ m, m < n ∧ ∃ i G, Inv (blkH X z3 G3 scope ce fp) [] (wipe σ (own.map (·.2))) G z ∧ tn i z.heap ∧ (∀ b ∈ fp, G b = none) ∧ W i m G := fun {z G} I' nx => by
        obtain ⟨m', hm, w'⟩ := hNx G nx
        have pin' : ∀ b ∈ fp, ∀ o, z7.heap.get? b = some o → z.heap.get? b = some o ∧ G b = none := fun b hb o e =>
          let y := I'.pin (b, o) (List.mem_append_right _ (List.mem_append_right _ (mem_pinsAt hb e)))
          ⟨y.1, y.2.1⟩
        refine ⟨m', hm, i + 1, G, (I'.unpinned (pins := [])).weak (by rw [← hw8, wipe_length]) (fun j v e => ?_), T.keep _ _ _ t7 fun b hb o e => (pin' b hb o e).1, fun b hb => ?_, w'⟩
        · rw [← hw8] at e
          exact (wipe_some e).1
        · obtain ⟨o, e, _⟩ := T.obj _ _ t7 b hb
          exact (pin' b hb o e).2
      cases b with
      | false =>
        simp only [Bool.false_eq_true, if_false] at q9 ⊢
        exact fin K9 q9
      | true =>
        simp only [if_true] at q9 ⊢
        refine thnF (P3.run _ z9 σ8 G9 _ K9 q9) fun y z10 ⟨yv, G10, K10, r10, acc, hD10, hz10, nx⟩ => ?_
        exact app_ok (X := blkH X z3 G3 scope ce fp) K10 hD10 hz10 r10 fun z11 K11 => fin K11 nx
  exact codeAny_compStart_list loop (T.self X.A 0 _ _ _ t4 loop)
theorem pe_lcH {elt iter : Expr} {ifs : List Expr} {scope : Scope} {own : List (Str × Nat)} {pos : Pos} {wi : TI} {g : TG} {tt : TT} {te : TE} (hc : HotC X) (hN : X.N.Nodup) (hi : PIH X tg iter wi) (ok : BlkOk X.N X.env.scope scope own)
    (hg : ∀ (s : Shared) (H : Hp) (C : Addr) (cl : List (Str × Addr)) (fp : List Addr), PG (blkH X s H scope (compEnvC scope cl C X.env) fp) tg g) (ht : ∀ (s : Shared) (H : Hp) (C : Addr) (cl : List (Str × Addr)) (fp : List Addr), PTs (blkH X s H scope (compEnvC scope cl C X.env) fp) ifs tt)
    (he : ∀ (s : Shared) (H : Hp) (C : Addr) (cl : List (Str × Addr)) (fp : List Addr), PE (blkH X s H scope (compEnvC scope cl C X.env) fp) elt te) (hs : ∀ x, foldedSetIterable iter X.env x = pure x := by intro _; rfl) :
    PE X (.ListComp elt [⟨tg, iter, ifs, 0⟩] scope pos) (tLc wi g tt te (own.map (·.2))) := by
  refine ⟨fun pins s σ H Q I h => ?_⟩
  rw [eval_ListComp]
  refine lc_hot hc hN I hi ok hg ht he hs h fun D C z m G J q hn f => ⟨m, hn, fun h2 sb => ?_⟩
  obtain ⟨g0, g1, g2, g3, g4, g5⟩ := f
  exact ⟨.ref D, G, J.turned (t' := z.toks) (fun b o nb e => (sb.2 b nb).trans e) g0 g1 g3 g4 g5, rfl, q⟩
end
end Ft

/-! part: FtO -/
set_option Elab.async false
set_option linter.all false
set_option maxRecDepth 100000
/-! Defs called while an error is handled, over data. -/
namespace Ft
open PySem L2 L2H
theorem _root_.L2H.RoomH.units {k : Nat} {A : Around} (r : RoomH k A) : A.units + 64 < cLine := by have := r.un; omega
theorem _root_.L2H.RoomH.units0 {k : Nat} {A : Around} (r : RoomH k A) : A.units < cLine := by have := r.un; omega
theorem un65H {k : Nat} {A : Around} (r : RoomH k A) : A.units + 65 < cLine := by have := r.un; omega
theorem roomH_mark {k : Nat} {A : Around} {v : Option Value} (r : Room k A) : RoomH k (A.mark v) := ⟨r.dp, r.un⟩
theorem hot_suite {X : Cx} {a : Addr} {oe : Obj} {pn : List (Addr × Obj)} {cls : Value} {d : Option Addr} (z : L2N.Zn cls d oe) (h : ∃ vs, oe.data = .fields vs) : HotC (X.suite a ((a, oe) :: pn)) := by
  obtain ⟨vs, e⟩ := h
  exact ⟨(a, oe), ⟨rfl, vs, e, z.2.2 vs e⟩, List.mem_cons_self⟩
theorem hot_in {X : Cx} {k : Nat} {a : Addr} {oe : Obj} {pn : List (Addr × Obj)} {cls : Value} {d : Option Addr} {st : List Stmt} {t : TS} (z : L2N.Zn cls d oe) (h : ∃ vs, oe.data = .fields vs) (hr : Room k X.A)
    (b : HotC (X.suite a ((a, oe) :: pn)) → RoomH k (X.A.mark (some (.ref a))) → PSs (X.suite a ((a, oe) :: pn)) st t) : PSs (X.suite a ((a, oe) :: pn)) st t := b (hot_suite z h) (roomH_mark hr)
section
variable {P : Program} {w : World} {K : Frg} {mg : Str → Option Value} {base : Heap}
structure DefH (P : Program) (w : World) (K : Frg) (mg : Str → Option Value) (base : Heap) (k : Nat) (x : Str) (ps : List Str) (sp : Sp) : Prop where
  ex : ∃ f fd, FnH P w K mg base CX0 k f fd ps sp ∧ Binds K fd ps [] ∧ PySem.W.keepIn K (.ref f) = true ∧ mg x = some (.ref f)
theorem pe_defH {X : Cx} {j k : Nat} {x : Str} {ps : List Str} {sp : Sp} {e : Expr} {es : List Expr} {t : TA} {p pos : Pos} (d : DefH X.prog X.w X.K X.mg X.base j x ps sp) (hr : RoomH k X.A) (hj : j ≤ k) (hc : HotC X) (hg : Gl X x) (ha : PA X (e :: es) t)
    (hdb : (x == ("__debug__" : Str)) = false := by decide) (he : starEach (e :: es) X.env = (false, eval e X.env) :: starEach es X.env := by rfl) (hpl : (backTo pos (starEach es X.env)).any (·.1) = false := by rfl) :
    PE X (.Call (.Name x p) (e :: es) [] pos) (tCallS sp (fun _ => E0) t) := by
  obtain ⟨f, fd, G, b, kp, m⟩ := d.ex
  exact pe_callH G (hr.mono hj) hc hg m kp b (fun _ _ _ _ _ _ _ z => z.elim) ha hdb he hpl
theorem ae_callS {ρ : Rho} {W : WP} {t : TA} {Q0 : Da → Prop} (h : AA K t ρ fun ds => W ds Q0) : AE K (tCallS (spW K W) (fun _ => E0) t) ρ Q0 := fun σ H H1 s e Q q =>
  h σ H H1 s e _ fun ds wd vs H' H2 g dx => ⟨ds, Q0, H', g.b, dx, wd, fun d p v H4 H5 g3 dz => q d p v H4 H5 (g.trans (GrN.up g3 fun a ra => (s.gr g).rowAt ra)) dz⟩
theorem mk_defH {k : Nat} {x : Str} {st : Stmt} {N ps : List Str} {W : WP} (F : FunAt K mg x ps st) (S : FnScope N ps (defScope st)) (hl : ∀ ds P, W ds P → ds.length = ps.length)
    (body : ∀ (f : Addr) (cdv : Value) (A : Around) (outer : List Env) (s : Shared) (H : Hp) (E : XK) (p : Addr × Obj), Hot1 A p → RoomH k (A.deeper (PyProof.Rows.envOfC x (defScope st) s.heap.objs.size f cdv)) → HotC (cxH CX0 P w K mg base N x (defScope st) f cdv A outer s H E p) →
      ∃ t, PSs (cxH CX0 P w K mg base N x (defScope st) f cdv A outer s H E p).nox (defBody st) t ∧ ∀ ds P, W ds P → SO K t (rho0 N.length ds) (retO P)) : DefH P w K mg base (k + 1) x ps (spW K W) := by
  obtain ⟨f, fd, F, b, m⟩ := F.ex
  have kp := F.kp
  obtain ⟨oc, od, kV, doc, pm, an, cdv, ct, osl, rfl, lk, hcd⟩ := F.ex
  refine ⟨f, _, fn_ofH lk hcd S (fun vs H Q E ⟨ds, P, H0, e, dx, wp, q⟩ => (dps_len dx).trans (hl ds P wp)) (fun A outer s H vs Q E p hot hr ⟨ds, P, H0, e, dx, wp, q⟩ => ?_), b, kp, m⟩
  obtain ⟨t, pt, so⟩ := body f cdv A outer s H E p hot hr ⟨p, ⟨hot.1, hot.2⟩, List.mem_singleton.mpr rfl⟩
  refine ⟨t, pt.nox, so ds P wp (fun _ => False) H0 H H0 H (L2.start N vs) _ ⟨has0 dx, e, Evl.Ex.refl _, fun x o _ z => z, fun x o _ z => z, fun i es l z => ?_, fun i l z => ?_, fun x z => z.elim, fun i C fs l z => ?_⟩
    ⟨fun ρ' p σ' H' H2 s' => q _ p _ H' H2 s'.toGr .non, fun d p v H' H2 g dv => q d p v H' H2 g dv, fun ρ' p => p.elim, fun ρ' p => p.elim⟩⟩
  · rcases dats_get z with ⟨d', e1, e2⟩ | e1 <;> cases e1
  · rcases dats_get z with ⟨d', e1, e2⟩ | e1 <;> cases e1
  · rcases dats_get z with ⟨d', e1, e2⟩ | e1 <;> cases e1
end
end Ft

/-! part: FtP -/
set_option Elab.async false
set_option linter.all false
set_option maxRecDepth 100000
namespace Ft
open PySem L2 PyProof.Rows
/-! ### sorted of a tuple of tuples of whole numbers -/
section
variable {prog : Program} {w : World} {A : Around} {E : Value → Shared → Prop} {s : Shared}
/-- the list that collect of a tuple lays -/
abbrev colH (h : Heap) (vs : List Value) : Heap := (h.push (seqObj "list" #[] 0)).update h.objs.size (Obj.mapSeq (· ++ vs.toArray))
theorem collect_tupA {it : Addr} {vs : List Value} {Q : List Value → Shared → Prop} (ht : IsTup s.heap it vs.toArray) (small : vs.length ≤ sizeLine)
    (h : Q vs { s with heap := colH s.heap vs }) : wpAny (model prog w) A (collect (.ref it)) Q E s := by
  obtain ⟨o, ho, hc, n, hd⟩ := id ht
  have new : (s.heap.push (seqObj "list" #[] 0)).get? s.heap.objs.size = some (seqObj "list" #[] 0) := Heap.get?_push_size _ rfl
  have old : (s.heap.push (seqObj "list" #[] 0)).get? it = some o := Heap.get?_push_of_some _ ho
  unfold collect
  refine wpAny_bind (wpAny_runValue (codeAny_builtin entry_proto_collect' ?_))
  show wpAny _ _ (newList [] >>= fun l => again (.builtin "list.__iadd__" ⟨[l, .ref it], []⟩)) _ _ s
  refine wpAny_bind (wpAny_newList (wpAny_pure ⟨Code.quiet_builtin _ (by decide +kernel), codeAny_builtin entry_list_iadd' ?_⟩))
  show wpAny _ _ (Builtin.List.listExtendWith _ (.ref it) _) _ _ { s with heap := s.heap.push (seqObj "list" #[] 0) }
  unfold Builtin.List.listExtendWith
  refine wpAny_bind (wpAny_typeOf (T := "tuple") ⟨o, old, hc⟩ ?_)
  rw [if_pos (by rw [show (Value.type "tuple" == Value.type "tuple") = true from rfl]; simp)]
  refine wpAny_bind (listItems_at old hd (wpAny_bind (listItems_at (xs := #[]) (n := 0) new rfl ?_)))
  rw [if_neg (by simp)]
  have fit : (#[] ++ vs.toArray : Array Value).size ≤ sizeLine + 1 := by
    simp only [Array.size_append, List.size_toArray, List.length_nil]
    omega
  refine wpAny_bind (listUpdate_at (xs := #[]) (n := 0) new rfl (wpAny_pure ?_) (Nat.zero_le _) fit)
  show wpAny (model prog w) A (load s.heap.objs.size >>= _) Q E { s with heap := colH s.heap vs }
  refine wpAny_bind (wpAny_load (get?_update_seq new _) ?_)
  show wpAny _ _ (pure (#[] ++ vs.toArray : Array Value).toList) Q E _
  rw [show (#[] ++ vs.toArray : Array Value).toList = vs by simp]
  exact wpAny_pure h
theorem sorted_tupA {l : Addr} {vs : List Value} {lt : Value → Value → Bool} {Q : Value → Shared → Prop} (O : SrtO.Swo lt) (ht : IsTup s.heap l vs.toArray) (small : vs.length ≤ sizeLine)
    (can : 2 ≤ vs.length → ∀ (h1 : Heap) (a : Addr), h1.get? a = some (seqObj "list" vs.toArray 0) → (∀ b o, s.heap.get? b = some o → b ≠ a ∧ h1.get? b = some o) → SrtO.SortableO prog w A.in1.in1 { s with heap := h1 } a vs lt)
    (h : ∀ out : List Value, SrtO.Srtd lt out → SrtO.Stb lt out vs → Q (.ref (s.heap.objs.size + 1)) { s with heap := sortedAll s.heap vs out.toArray }) :
    wpAny (model prog w) A (call (.builtin "sorted") [.ref l]) Q E s := by
  have e : (colH s.heap vs).objs.size = s.heap.objs.size + 1 := by rw [Heap.size_update, size_push']
  have new : ((colH s.heap vs).push (seqObj "list" vs.toArray 0)).get? (s.heap.objs.size + 1) = some (seqObj "list" vs.toArray 0) := by
    rw [← e]
    exact Heap.get?_push_size _ rfl
  have keep : ∀ b o, s.heap.get? b = some o → b ≠ s.heap.objs.size + 1 ∧ ((colH s.heap vs).push (seqObj "list" vs.toArray 0)).get? b = some o := fun b o q => by
    have lb : b < s.heap.objs.size := Heap.lt_size q
    refine ⟨Nat.ne_of_lt (Nat.lt_succ_of_lt lb), Heap.get?_push_of_some _ ?_⟩
    show ((s.heap.push _).update _ _).get? b = _
    rw [Heap.get?_update_ne _ _ _ _ (Nat.ne_of_lt lb)]
    exact Heap.get?_push_of_some _ q
  refine Calls.call_function_entry kind_sorted plain_sorted entry_sorted (args_sorted1 _) ?_
  unfold Builtin.«sorted»
  refine wpAny_bind (m := checkCount "sorted" 1 1 _) (wpAny_pure (wpAny_bind (collect_tupA ht small (wpAny_bind (wpAny_newList ?_ small)))))
  show wpAny _ _ _ _ _ { s with heap := (colH s.heap vs).push (seqObj "list" vs.toArray 0) }
  rw [e]
  refine wpAny_bind (wpAny_holding (wpAny_call_entry slot_list_sort ⟨_, new, rfl⟩ entry_list_sort (SrtO.list_sort_ord O new small (fun h2 => can h2 _ _ new keep) fun out a b => ⟨_, rfl, wpAny_pure ⟨_, rfl, h out a b⟩⟩) (args_list_sort _)))
end
def rSortTT (K : Frg) : List V → Hp → VK → Prop := fun vs H Q => ∃ (a : Addr) (ks : List (Addr × List Int)), vs = [V.ref a] ∧ SqT K H a (ks.map fun p => V.ref p.1) ∧ (∀ p ∈ ks, SqT K H p.1 (p.2.map V.int)) ∧
  ∀ out : List (Addr × List Int), out.Perm ks → out.Pairwise (fun x y => HT.lexLt y.2 x.2 = false) → ∀ l, H l = none → Q (V.ref l) (upd H l (.lst (out.map fun p => V.ref p.1)))
theorem call_sortTT {X : Cx} (hu : X.A.units + 64 < cLine) : CallR X (.builtin "sorted") (rSortTT X.K) := by
  intro pins s σ H vs us Q I r h
  obtain ⟨a, ks, rfl, hL, hT, q⟩ := h
  have e1 := Vals.ref1 r
  subst e1
  obtain ⟨its, rv, pl, hz⟩ := I.tuple hL
  have e2 := refs_of_vals rv
  subst e2
  rw [List.length_map] at hz
  have key : ∀ p ∈ ks, TS.TupInts s.heap (.ref p.1) p.2 := fun p hp => by
    obtain ⟨us, r2, t, _⟩ := I.tuple (hT p hp)
    exact ⟨p.1, us.toArray, rfl, t, Vals.ints r2⟩
  have all : AllTI s.heap (ks.map fun p => Value.ref p.1) := fun v hv => by
    obtain ⟨p, hp, rfl⟩ := List.mem_map.mp hv
    exact ⟨p.2, key p hp⟩
  refine sorted_tupA (lex_swo (TS.intsOf s.heap)) pl (by rw [List.length_map]; exact hz) (fun h2 h₁ b hb kk => ?_) fun out hs hb => ?_
  · intro h' keep
    have all' : AllTI h' (ks.map fun p => Value.ref p.1) := fun v hv => by
      obtain ⟨ns, t⟩ := all v hv
      exact ⟨ns, t.keeps fun c o e _ => keep c o (kk c o e).1 (kk c o e).2⟩
    obtain ⟨κ, hκ, hk⟩ := tups_kind (prog := X.prog) (w := X.w) (A := X.A.in1.in1) (s := { s with heap := h' }) (by omega) all'
    refine ⟨κ, hk, ?_⟩
    have hu2 : (X.A.in1.in1).units < cLine := by
      show X.A.units + 1 + 1 < cLine
      omega
    intro p p' hp hp'
    have c := tups_cmp (prog := X.prog) (w := X.w) (s := { s with heap := h' }) hκ all' hu2 p p' hp hp'
    have ek : ∀ v ∈ ks.map (fun p => Value.ref p.1), TS.intsOf h' v = TS.intsOf s.heap v := fun v hv => by
      obtain ⟨ns, t⟩ := all v hv
      rw [t.ints]
      exact (t.keeps fun c o e _ => keep c o (kk c o e).1 (kk c o e).2).ints
    have c' : wpAny (model X.prog X.w) X.A.in1.in1 (keyLt' κ p.1 p'.1) (fun r s' => s' = { s with heap := h' } ∧ r = HT.lexLt (TS.intsOf h' p.1) (TS.intsOf h' p'.1)) (fun _ _ => False) { s with heap := h' } := c
    rw [ek _ hp, ek _ hp'] at c'
    exact c'
  · let g : Value → Addr × List Int := fun v => (match v with | .ref a => a | _ => 0, TS.intsOf s.heap v)
    have gk : ∀ p ∈ ks, g (.ref p.1) = p := fun p hp => by
      show (p.1, TS.intsOf s.heap (.ref p.1)) = p
      rw [(key p hp).ints]
    have pm : (out.map g).Perm ks := by
      have z := hb.perm.map g
      rw [List.map_map] at z
      have e3 : ks.map (g ∘ fun p => Value.ref p.1) = ks := by
        refine (List.map_congr_left fun p hp => gk p hp).trans (List.map_id' _)
      rw [e3] at z
      exact z
    have er : out = (out.map g).map fun p => Value.ref p.1 := by
      rw [List.map_map]
      refine (List.map_id' out).symm.trans (List.map_congr_left fun v hv => ?_)
      obtain ⟨p, hp, rfl⟩ := List.mem_map.mp (hb.perm.mem_iff.mp hv)
      rfl
    have pw : (out.map g).Pairwise (fun x y => HT.lexLt y.2 x.2 = false) := List.pairwise_map.mpr hs
    obtain ⟨e, he⟩ := PyProof.Rows.sortedAll_at s.heap (ks.map fun p => Value.ref p.1) out.toArray
    have hn : s.heap.objs.size ≤ s.heap.objs.size + 1 := Nat.le_succ _
    refine ⟨V.ref (s.heap.objs.size + 1), _, I.laid (t' := s.toks) (o := .lst ((out.map g).map fun p => V.ref p.1)) (fun b o q => PyProof.Rows.sortedAll_old q) hn ⟨?_, out, e, ?_, he⟩, rfl, q _ pm pw _ (I.hok.fresh hn)⟩
    · rw [List.length_map, List.length_map, hb.perm.length_eq, List.length_map]
      exact hz
    · have v2 := vals_of_refs (out.map g)
      rw [← er] at v2
      exact v2
theorem rf_sortTT {K : Frg} {cs : List (List Int)} {P : List Da → Prop} (p : ∀ out : List (List Int), out.Perm cs → out.Pairwise (fun x y => HT.lexLt y x = false) → P (out.map tupI)) : RF K (rSortTT K) [.tuple (cs.map tupI)] P := fun H H1 vs e dv Q q => by
  cases dv with
  | cons a b =>
    cases b
    cases a with
    | @tup a xs _ s x =>
      obtain ⟨ks, e1, e2, e3⟩ := clubs_ks x
      subst e1 e2
      refine ⟨a, ks, rfl, Evl.ex_t e s, fun r hr => Evl.ex_t e (e3 r hr), fun out pm pw l n => ?_⟩
      have pm2 : (out.map (·.2)).Perm (ks.map (·.2)) := pm.map _
      have e4 : ∀ r ∈ out, SqT K H r.1 (r.2.map V.int) := fun r hr => e3 r (pm.mem_iff.mp hr)
      exact q _ (p _ pm2 (List.pairwise_map.mpr pw)) l _ H _ (GrN.fresh e n) n (Evl.fresh_back e n) upd_same (ks_clubs e4)
/-! ### sorted of tuples, or of whole numbers -/
def rSortA (K : Frg) : List V → Hp → VK → Prop := fun vs H Q => rSortT K vs H Q ∨ rSortedI K vs H Q ∨ rSortTT K vs H Q
theorem call_sortAK {X : Cx} {K : Frg} (hk : X.K = K) (hu : X.A.units + 64 < cLine) : CallR X (.builtin "sorted") (rSortA K) := by
  subst hk
  intro pins s σ H vs us Q I r h
  rcases h with h | h | h
  · exact call_sortT hu pins s σ H vs us Q I r h
  · exact cr_sortedI pins s σ H vs us Q I r h
  · exact call_sortTT hu pins s σ H vs us Q I r h
section
variable {K : Frg}
theorem rf_sortAT {cs : List (List Int)} {P : List Da → Prop} (p : ∀ out : List (List Int), out.Perm cs → out.Pairwise (fun x y => HT.lexLt y x = false) → P (out.map tupI)) : RF K (rSortA K) [.list (cs.map tupI)] P := fun H H1 vs e dv Q q =>
  .inl (rf_sortT p H H1 vs e dv Q q)
theorem dq_numsV {H : Hp} : ∀ {ns : List Int} {xs : List V}, DqAll K H xs (nums ns) → xs = ns.map V.int
  | [], _, h => by cases h; rfl
  | n :: ns, _, h => by
    cases h with
    | cons a b =>
      cases a
      rw [dq_numsV b]
      rfl
theorem rf_sortAI {ns : List Int} {P : List Da → Prop} (p : ∀ out : List Int, out.Perm ns → out.Pairwise (· ≤ ·) → P (nums out)) : RF K (rSortA K) [.list (nums ns)] P := fun H H1 vs e dv Q q => by
  cases dv with
  | cons a b =>
    cases b
    cases a with
    | @lst a xs _ s x =>
      have ex := dq_numsV x
      subst ex
      refine .inr (.inl ⟨a, ns, rfl, SqL.of (e _ _ s), fun out l pm pw n => ?_⟩)
      exact q _ (p out pm pw) l (out.map V.int) H _ (GrN.fresh e n) n (Evl.fresh_back e n) upd_same (dq_intsV out)
theorem rf_sortAU {cs : List (List Int)} {P : List Da → Prop} (p : ∀ out : List (List Int), out.Perm cs → out.Pairwise (fun x y => HT.lexLt y x = false) → P (out.map tupI)) : RF K (rSortA K) [.tuple (cs.map tupI)] P := fun H H1 vs e dv Q q =>
  .inr (.inr (rf_sortTT p H H1 vs e dv Q q))
end
end Ft

/-! part: FtR -/
set_option Elab.async false
set_option linter.all false
set_option maxRecDepth 100000
/-! Lambdas that are kept in lists: made, called by a def that got one. -/
namespace Ft
open PySem L2 PyProof.Rows
/-- its parameters, body, scope; the value of its only default -/
structure Lam where
  params : Arguments
  body : Expr
  scope : Scope
  dv : Option Int
abbrev lamFn (q : Str) (l : Lam) (cl : List (Str × Addr)) (dt pm cdv ct : Value) : FuncData := { PySem.W.kla_fn "<lambda>" q l.params l.body l.scope cl pm cdv ct with defaults := dt }
abbrev lamObj (q : Str) (l : Lam) (cl : List (Str × Addr)) (dt pm : Value) (c' : Addr) (ct : Value) : Obj := { cls := .type "function", data := .func (lamFn q l cl dt pm (.ref c') ct) }
def LamO (q : Str) (l : Lam) (cl : List (Str × Addr)) (f : Addr) (dt pm : Value) (c' : Addr) (ct : Value) : HO := .ext fun h => h.get? f = some (lamObj q l cl dt pm c' ct)
def DvAt (H : Hp) (l : Lam) (dt : Value) : Prop := match l.dv with
  | none => dt = .none
  | some i => ∃ t, dt = .ref t ∧ H t = some (.tup [.int i])
/-- the lambda at f, made by one whose cells are cs -/
def LamAt (H : Hp) (q : Str) (cs : List (Str × Addr)) (l : Lam) (f : Addr) : Prop := ∃ dt pm c' ct, H f = some (LamO q l (cloFrom cs l.scope.names []) f dt pm c' ct) ∧ H c' = some (LamX.CodeO c' q) ∧ DvAt H l dt
theorem lamO_ne {q : Str} {l : Lam} {cl : List (Str × Addr)} {f : Addr} {dt pm : Value} {c' : Addr} {ct : Value} (ps : Array Value) : LamO q l cl f dt pm c' ct ≠ .tbl ps := fun z => by
  unfold LamO at z
  cases z
theorem DvAt.ext {H H' : Hp} {l : Lam} {dt : Value} (x : DvAt H l dt) (e : LamX.ExtN H H') : DvAt H' l dt := by
  unfold DvAt at x ⊢
  cases z : l.dv with
  | none =>
    rw [z] at x
    exact x
  | some i =>
    rw [z] at x
    obtain ⟨t, a, b⟩ := x
    exact ⟨t, a, e _ _ b fun ps w => by cases w⟩
theorem LamAt.ext {H H' : Hp} {q : Str} {cs : List (Str × Addr)} {l : Lam} {f : Addr} (x : LamAt H q cs l f) (e : LamX.ExtN H H') : LamAt H' q cs l f := by
  obtain ⟨dt, pm, c', ct, a, b, d⟩ := x
  exact ⟨dt, pm, c', ct, e _ _ a lamO_ne, e _ _ b LamX.codeO_ne, d.ext e⟩
/-- all but the table at P stays -/
def ExtP (P : Addr) (H H' : Hp) : Prop := ∀ b o, b ≠ P → H b = some o → H' b = some o
theorem ExtP.refl (P : Addr) (H : Hp) : ExtP P H H := fun _ _ _ h => h
theorem ExtP.trans {P : Addr} {H H1 H2 : Hp} (a : ExtP P H H1) (b : ExtP P H1 H2) : ExtP P H H2 := fun c o n h => b c o n (a c o n h)
section
variable {X : Cx} {pins : List (Addr × Obj)} {σ : L2.St} {H : Hp} {s : Shared}
/-- a function object is laid -/
theorem inv_lam {tk : Nat} {q : Str} {l : Lam} {cl : List (Str × Addr)} {dt pm : Value} {c' : Addr} {ct : Value} (I : Inv X pins σ H s) : Inv X pins σ (upd H s.heap.objs.size (LamO q l cl s.heap.objs.size dt pm c' ct)) { s with heap := s.heap.push (lamObj q l cl dt pm c' ct), toks := tk } :=
  I.laid (t' := tk) (fun b o e => Heap.get?_push_of_some _ e) (Nat.le_refl _) ⟨Heap.get?_push_size _ rfl, ⟨_, Heap.get?_push_size _ rfl⟩, fun h1 h2 p k => k _ p⟩
theorem lam_tail {c P : Addr} {q : Str} {l : Lam} {pos : Pos} {dt : Value} {E : Value → Shared → Prop} {Q : Value → Shared → Prop} (I : Inv X pins σ H s) (TB : LamX.TabB X.base X.mg c P) (hcode : X.env.code = .ref c) (hT : LamX.TabS H P q) (free : ∀ y ∈ l.scope.names, y.2 = .free → ∃ c, X.env.cells.lookup y.1 = some c)
    (h : ∀ f c' pm ct H1 s', Inv X pins σ H1 s' → LamX.ExtN H H1 → ExtP P H H1 → LamX.TabS H1 P q → H1 f = some (LamO q l (cloFrom X.env.cells l.scope.names []) f dt pm c' ct) → H1 c' = some (LamX.CodeO c' q) → Q (.ref f) s') :
    wpAny (model X.prog X.w) X.A (makeTail "<lambda>" q l.params (.expr l.body) l.scope X.env dt .none none pos pos.line) Q E s := by
  obtain ⟨ps, hP, ht, ha⟩ := hT
  have atP : ∀ {z : Shared}, Inv X pins σ H z → z.heap.get? P = some { cls := .none, data := .fields ps } := fun J => J.hok P _ hP
  -- a function object laid at the end
  have fin : ∀ {z : Shared} {G : Hp} {pm ct : Value} {c' : Addr} {tk : Nat}, Inv X pins σ G z → LamX.ExtN H G → ExtP P H G → LamX.TabS G P q → G c' = some (LamX.CodeO c' q) → Q (.ref z.heap.objs.size) { z with heap := z.heap.push (lamObj q l (cloFrom X.env.cells l.scope.names []) dt pm c' ct), toks := tk } := fun {z G pm ct c' tk} J e ep t hc => by
    have n : G z.heap.objs.size = none := J.hok.fresh (Nat.le_refl _)
    have x1 : ∀ b o, G b = some o → upd G z.heap.objs.size (LamO q l (cloFrom X.env.cells l.scope.names []) z.heap.objs.size dt pm c' ct) b = some o := fun b o w => by rw [upd_ne (ne_of_none w n)]; exact w
    exact h _ c' pm ct _ _ (inv_lam (tk := tk) J) (e.trans (LamX.ExtN.of x1)) (ep.trans fun b o _ w => x1 b o w) (t.ext x1) upd_same (x1 _ _ hc)
  unfold makeTail
  rw [closure_ok free, I.ok.glob]
  refine wpAny_bind (wpAny_pure ?_)
  generalize hcl : cloFrom X.env.cells l.scope.names [] = cl at fin ⊢
  have emp : cl.isEmpty = true ∨ cl.isEmpty = false := by cases cl.isEmpty <;> simp
  rcases emp with em | em
  all_goals simp only [em, if_true, Bool.false_eq_true, if_false]
  · refine wpAny_bind (wpAny_pure ?_)
    have J := I
    obtain ⟨bm, ob, b1, b2, _, b4, b5, b6, b7, b8⟩ := TB.bm.keeps J.bk
    cases hc : codeAmong pos ps.toList with
    | none =>
      refine wpAny_bind (wpAny_functionCodeX hcode ((TB.code.keeps J.bk).code (atP J) ht) ((TB.code.keeps J.bk).tab (atP J)) hc fun c' h' tk hx hge hlt _ hrec htb _ => ?_)
      have g2 := (J.mod.glob.keeps J.bk).extBut hx TB.gP
      obtain ⟨c2, oc, vs, t, e2, hoc, hd, hv⟩ := hrec
      cases e2
      have nC : H c' = none := J.hok.fresh hge
      have J1 := LamX.inv_table (t' := tk) (q := q) (more := #[rawInt pos.line, rawInt pos.col, .ref c']) (h' := h') J hP (fun b o hb e => hx b o hb e) htb.2 hge ⟨oc, vs, t, hoc, hd, hv⟩
      have eN : LamX.ExtN H (upd (upd H P (.tbl (ps ++ #[rawInt pos.line, rawInt pos.col, .ref c']))) c' (LamX.CodeO c' q)) := fun b o e n => by
        rw [upd_ne (ne_of_none e nC), upd_ne (fun z => n ps (Option.some.inj (e.symm.trans (by rw [z]; exact hP))))]
        exact e
      have eP : ExtP P H (upd (upd H P (.tbl (ps ++ #[rawInt pos.line, rawInt pos.col, .ref c']))) c' (LamX.CodeO c' q)) := fun b o n e => by
        rw [upd_ne (ne_of_none e nC), upd_ne n]
        exact e
      have eL : (ps ++ #[rawInt pos.line, rawInt pos.col, .ref c']).toList = ps.toList ++ [rawInt pos.line, rawInt pos.col, .ref c'] := by simp
      have tN : LamX.TabS (upd (upd H P (.tbl (ps ++ #[rawInt pos.line, rawInt pos.col, .ref c']))) c' (LamX.CodeO c' q)) P q := by
        refine ⟨_, by rw [upd_ne (ne_of_none hP nC), upd_same], by rw [eL]; exact PySem.TriplesOk_snoc _ _ _ _ ht, fun p' cv hcv => ?_⟩
        rw [eL] at hcv
        rcases LamX.among_app _ ht hcv with z | z
        · obtain ⟨c0, e1, e2⟩ := ha p' cv z
          exact ⟨c0, e1, eN _ _ e2 LamX.codeO_ne⟩
        · exact ⟨c', z, upd_same⟩
      refine wpAny_bind (wpAny_builtinsFor g2 b1 b2 (hx _ _ b4 b5) b6 b7 b8 (wpAny_bind (wpAny_nsGet g2 (wpAny_bind (wpAny_pure (wpAny_newObj_type ?_ (by size_fits)))))))
      exact fin J1 eN eP tN upd_same
    | some cv =>
      obtain ⟨c', e, hco⟩ := ha pos cv hc
      subst e
      have g2 := J.mod.glob.keeps J.bk
      refine wpAny_bind (wpAny_functionCode_hit hcode ((TB.code.keeps J.bk).code (atP J) ht) hc ?_)
      refine wpAny_bind (wpAny_builtinsFor g2 b1 b2 b5 b6 b7 b8 (wpAny_bind (wpAny_nsGet g2 (wpAny_bind (wpAny_pure (wpAny_newObj_type ?_ (by size_fits)))))))
      exact fin (tk := s.toks) J (LamX.ExtN.refl H) (ExtP.refl P H) ⟨ps, hP, ht, ha⟩ hco
  · refine wpAny_bind (wpAny_newTextTuple ?_)
    have J : Inv X pins σ H { s with heap := s.heap.push { cls := .type "tuple", data := .seq ((cl.mergeSort fun a b => a.1.cps.toList ≤ b.1.cps.toList).map (Value.ref ·.2)).toArray } } := I.kept (t' := s.toks) fun b o e => Heap.get?_push_of_some _ e
    obtain ⟨bm, ob, b1, b2, _, b4, b5, b6, b7, b8⟩ := TB.bm.keeps J.bk
    cases hc : codeAmong pos ps.toList with
    | none =>
      refine wpAny_bind (wpAny_functionCodeX hcode ((TB.code.keeps J.bk).code (atP J) ht) ((TB.code.keeps J.bk).tab (atP J)) hc fun c' h' tk hx hge hlt _ hrec htb _ => ?_)
      have g2 := (J.mod.glob.keeps J.bk).extBut hx TB.gP
      obtain ⟨c2, oc, vs, t, e2, hoc, hd, hv⟩ := hrec
      cases e2
      have nC : H c' = none := J.hok.fresh hge
      have J1 := LamX.inv_table (t' := tk) (q := q) (more := #[rawInt pos.line, rawInt pos.col, .ref c']) (h' := h') J hP (fun b o hb e => hx b o hb e) htb.2 hge ⟨oc, vs, t, hoc, hd, hv⟩
      have eN : LamX.ExtN H (upd (upd H P (.tbl (ps ++ #[rawInt pos.line, rawInt pos.col, .ref c']))) c' (LamX.CodeO c' q)) := fun b o e n => by
        rw [upd_ne (ne_of_none e nC), upd_ne (fun z => n ps (Option.some.inj (e.symm.trans (by rw [z]; exact hP))))]
        exact e
      have eP : ExtP P H (upd (upd H P (.tbl (ps ++ #[rawInt pos.line, rawInt pos.col, .ref c']))) c' (LamX.CodeO c' q)) := fun b o n e => by
        rw [upd_ne (ne_of_none e nC), upd_ne n]
        exact e
      have eL : (ps ++ #[rawInt pos.line, rawInt pos.col, .ref c']).toList = ps.toList ++ [rawInt pos.line, rawInt pos.col, .ref c'] := by simp
      have tN : LamX.TabS (upd (upd H P (.tbl (ps ++ #[rawInt pos.line, rawInt pos.col, .ref c']))) c' (LamX.CodeO c' q)) P q := by
        refine ⟨_, by rw [upd_ne (ne_of_none hP nC), upd_same], by rw [eL]; exact PySem.TriplesOk_snoc _ _ _ _ ht, fun p' cv hcv => ?_⟩
        rw [eL] at hcv
        rcases LamX.among_app _ ht hcv with z | z
        · obtain ⟨c0, e1, e2⟩ := ha p' cv z
          exact ⟨c0, e1, eN _ _ e2 LamX.codeO_ne⟩
        · exact ⟨c', z, upd_same⟩
      refine wpAny_bind (wpAny_builtinsFor g2 b1 b2 (hx _ _ b4 b5) b6 b7 b8 (wpAny_bind (wpAny_nsGet g2 (wpAny_bind (wpAny_pure (wpAny_newObj_type ?_ (by size_fits)))))))
      exact fin J1 eN eP tN upd_same
    | some cv =>
      obtain ⟨c', e, hco⟩ := ha pos cv hc
      subst e
      have g2 := J.mod.glob.keeps J.bk
      refine wpAny_bind (wpAny_functionCode_hit hcode ((TB.code.keeps J.bk).code (atP J) ht) hc ?_)
      refine wpAny_bind (wpAny_builtinsFor g2 b1 b2 b5 b6 b7 b8 (wpAny_bind (wpAny_nsGet g2 (wpAny_bind (wpAny_pure (wpAny_newObj_type ?_ (by size_fits)))))))
      exact fin (tk := s.toks) J (LamX.ExtN.refl H) (ExtP.refl P H) ⟨ps, hP, ht, ha⟩ hco
/-- a lambda is made -/
def tLamM (P : Addr) (q : Str) (cs : List (Str × Addr)) (l : Lam) : TE := fun _ H Q => LamX.TabS H P q ∧ ∀ f H1, LamX.ExtN H H1 → ExtP P H H1 → LamX.TabS H1 P q → LamAt H1 q cs l f → Q (.ref f) H1
theorem pe_lam0 {c P : Addr} {l : Lam} {pos : Pos} (TB : LamX.TabB X.base X.mg c P) (hcode : X.env.code = .ref c) (L : ∀ y ∈ l.scope.names, y.2 = .free → X.env.scope.names.lookup y.1 = some .cell ∨ X.env.scope.names.lookup y.1 = some .free) (hdef : defaultsOf l.params X.env = ([], [])) (hdv : l.dv = none) :
    PE X (.Lambda l.params l.body l.scope pos) (tLamM P (X.env.qual ++ "<lambda>") X.env.cells l) := ⟨fun pins s σ H Q I h => by
  have free : ∀ y ∈ l.scope.names, y.2 = .free → ∃ c, X.env.cells.lookup y.1 = some c := fun y hy e => (L y hy e).elim (fun k => I.ok.has _ (.inl k)) fun k => I.ok.has _ (.inr k)
  refine PySem.W.kla_eval hdef ?_
  rw [makeFunction_eq]
  simp only [List.zip_nil_right, List.filterMap_nil, List.isEmpty_nil, if_true, pure_bind]
  exact lam_tail I TB hcode h.1 free fun f c' pm ct H1 s' J e ep t a b => ⟨.ref f, H1, J, rfl, h.2 f H1 e ep t ⟨.none, pm, c', ct, a, b, by unfold DvAt; rw [hdv]⟩⟩⟩
theorem pe_lam1 {c P : Addr} {l : Lam} {pos p : Pos} {i : Int} {k : Nat} (TB : LamX.TabB X.base X.mg c P) (hcode : X.env.code = .ref c) (L : ∀ y ∈ l.scope.names, y.2 = .free → X.env.scope.names.lookup y.1 = some .cell ∨ X.env.scope.names.lookup y.1 = some .free) (hdef : defaultsOf l.params X.env = ([eval (.Constant (.int i) k p) X.env], [])) (hdv : l.dv = some i) :
    PE X (.Lambda l.params l.body l.scope pos) (tLamM P (X.env.qual ++ "<lambda>") X.env.cells l) := ⟨fun pins s σ H Q I h => by
  have free : ∀ y ∈ l.scope.names, y.2 = .free → ∃ c, X.env.cells.lookup y.1 = some c := fun y hy e => (L y hy e).elim (fun k => I.ok.has _ (.inl k)) fun k => I.ok.has _ (.inr k)
  rw [arm_eval_Lambda, hdef]
  refine wpAny_bind (m := evalAll _) (wpAny_evalAll_cons (wpAny_Constant_int (wpAny_evalAll_nil ?_)))
  refine wpAny_bind (wpAny_holding (wpAny_pure ?_))
  rw [makeFunction_eq]
  simp only [List.zip_nil_right, List.filterMap_nil, List.isEmpty_nil, List.isEmpty_cons, Bool.false_eq_true, if_true, if_false, pure_bind]
  refine wpAny_bind (wpAny_newTextTuple ?_)
  have J0 : Inv X pins σ H { s with toks := s.toks + 1 } := I.tok _
  have n := J0.hok.fresh (Nat.le_refl _)
  have J1 := J0.laid (t' := s.toks + 1) (o := .tup [.int i]) (h' := s.heap.push { cls := .type "tuple", data := .seq [Value.int i s.toks].toArray }) (fun b o e => Heap.get?_push_of_some _ e) (Nat.le_refl _) ⟨by show 1 ≤ sizeLine; decide, [.int i s.toks], .cons ⟨_, rfl⟩ .nil, IsTup.new _ _⟩
  have x1 : ∀ b o, H b = some o → upd H s.heap.objs.size (.tup [.int i]) b = some o := fun b o w => by rw [upd_ne (ne_of_none w n)]; exact w
  exact lam_tail J1 TB hcode (h.1.ext x1) free fun f c' pm ct H1 s' J e ep t a b => ⟨.ref f, H1, J, rfl, h.2 f H1 ((LamX.ExtN.of x1).trans e) (fun b o m w => ep b o m (x1 b o w)) t ⟨_, pm, c', ct, a, b, by unfold DvAt; rw [hdv]; exact ⟨_, rfl, e _ _ upd_same fun ps w => by cases w⟩⟩⟩⟩
/-! ### its call -/
/-- its names: captured ones, globals, its parameter (a name that the maker has not) -/
structure LamS (N : List Str) (sc scope : Scope) : Prop where
  kind : scope.kind = .function
  co : scope.isCoroutine = false
  gen : scope.isGenerator = false
  own : ∀ y ∈ scope.names, y.2 ≠ .cell ∧ (y.2 = .local → y.1 ∉ N)
  free : ∀ y ∈ scope.names, y.2 = .free → sc.names.lookup y.1 = some .cell ∨ sc.names.lookup y.1 = some .free
def lamSB (N : List Str) (sc scope : Scope) : Bool :=
  decide (scope.kind = .function) && !scope.isCoroutine && !scope.isGenerator && scope.names.all fun y => !decide (y.2 = .cell) && (!decide (y.2 = .local) || !decide (y.1 ∈ N)) && (!decide (y.2 = .free) || decide (sc.names.lookup y.1 = some .cell) || decide (sc.names.lookup y.1 = some .free))
theorem lamS_by {N : List Str} {sc scope : Scope} (h : lamSB N sc scope = true) : LamS N sc scope := by
  unfold lamSB at h
  simp only [Bool.and_eq_true, Bool.or_eq_true, Bool.not_eq_true', decide_eq_true_eq, decide_eq_false_iff_not, List.all_eq_true] at h
  obtain ⟨⟨⟨a, b⟩, d⟩, k⟩ := h
  refine ⟨a, b, d, fun y hy => ⟨(k y hy).1.1, fun e => (k y hy).1.2.elim (fun z => absurd e z) fun z => z⟩, fun y hy e => ?_⟩
  rcases (k y hy).2 with (z | z) | z
  · exact absurd e z
  · exact .inl z
  · exact .inr z
abbrev lamEnv (X : Cx) (scope : Scope) (L f c' : Addr) : Env := PySem.W.envX (X.env.qual ++ "<lambda>") scope L f (.ref c') (cloFrom X.env.cells scope.names [])
/-- the context of its body, entered at s from the frames outer -/
def lamCx (X : Cx) (A : Around) (outer : List Env) (s : Shared) (H : Hp) (E : XK) (scope : Scope) (f c' : Addr) : Cx where
  prog := X.prog
  w := X.w
  K := X.K
  mg := X.mg
  base := X.base
  N := X.N
  A := A.deeper (lamEnv X scope s.heap.objs.size f c')
  H_0 := H
  s_0 := s
  env := lamEnv X scope s.heap.objs.size f c'
  stack := lamEnv X scope s.heap.objs.size f c' :: outer
  outer := outer
  fn := fun _ => false
  ex := []
  pn := []
  calm := true
  xe := fun e z => wpAny (model X.prog X.w) (A.deeper (lamEnv X scope s.heap.objs.size f c')) (leaving (lamEnv X scope s.heap.objs.size f c') e) (fun _ y => L2N.CX X.prog X.w outer H s E e y) (fun e' y => L2N.CX X.prog X.w outer H s E e' y) z
theorem lam_in {HZ : Hp} {s1 : Shared} {A : Around} {outer : List Env} {E : XK} {scope : Scope} {f c' : Addr} {h₁ : Heap} {tk : Nat} {bs : List (Str × Value)} (I : Inv X pins σ H s) (L : LamS X.N X.env.scope scope) (e0 : Env0 X.prog X.w X.K X.mg X.base A outer s1 HZ) (hd : A.handled = none)
    (un : Un (frs X.stack) [] H HZ s.heap s1.heap) (hns : h₁.Ns s1.heap.objs.size fun y => bs.reverse.lookup y) (kp : ∀ b o, s1.heap.get? b = some o → h₁.get? b = some o) :
    Inv (lamCx X A outer s1 HZ E scope f c') [] σ HZ { s1 with heap := h₁, toks := tk } := by
  have free : ∀ y ∈ scope.names, y.2 = .free → ∃ c, X.env.cells.lookup y.1 = some c := fun y hy e => (L.free y hy e).elim (fun k => I.ok.has _ (.inl k)) fun k => I.ok.has _ (.inr k)
  have up : ∀ {y c}, (cloFrom X.env.cells scope.names []).lookup y = some c → X.env.cells.lookup y = some c := fun {y c} e => by
    rcases cloFrom_mem (PySem.mem_of_lookup e) with z | ⟨z1, z2⟩
    · cases z
    · obtain ⟨d, hd⟩ := free _ z1 rfl
      have hd : X.env.cells.lookup y = some d := hd
      have : c = d := by
        rw [z2, hd] <;> rfl
      rw [this]
      exact hd
  have dn : ∀ {y}, scope.names.lookup y = some .free → ∃ c, (cloFrom X.env.cells scope.names []).lookup y = some c := fun {y} e => mem_lookup (cloFrom_has (cells := X.env.cells) (acc := []) (PySem.mem_of_lookup e))
  have cellK : ∀ {c : Addr} {v : Option Value}, H c = none → s.heap.IsCell c v → h₁.IsCell c v := fun {c v} n ⟨o, ho, q⟩ => by
    obtain ⟨sl, z⟩ := un.any ho n (by simp)
    exact ⟨_, kp _ _ z, q⟩
  have noA : ∀ b : Addr, b ∉ (lamCx X A outer s1 HZ E scope f c').ex := fun b z => absurd (show b ∈ ([] : List Addr) from z) (by simp)
  have hasC : ∀ y, scope.names.lookup y = some .cell ∨ scope.names.lookup y = some .free → ∃ c, (cloFrom X.env.cells scope.names []).lookup y = some c := fun y e => e.elim (fun z => absurd rfl (L.own _ (PySem.mem_of_lookup z)).1) dn
  refine ⟨⟨e0.mod, L.kind, rfl, rfl, Nat.le_refl _, fun y z c e1 e2 => I.ok.inj y z c (up e1) (up e2), hasC, fun y c z _ => ?_, fun _ => hd, Around.frames_deeper e0.frames, .inr ⟨rfl, rfl⟩, fun b z => absurd z (noA b), e0.bs, e0.bsz, fun b _ _ => noA b,
      fun b z => absurd z (noA b), e0.funs, e0.frf⟩, rfl, e0.bare, Un.kept kp, ⟨_, hns, fun i y v e1 e2 e3 => ?_⟩, fun y c e => ?_, e0.hok.fresh (Nat.le_refl _), fun y c e => ?_, fun q hq => absurd (show q ∈ ([] : List (Addr × Obj)) ++ [] from hq) (by simp), e0.hok.kept kp, I.len⟩
  · have z : false = true := z
    cases z
  · have e1 : X.N[i]? = some y := e1
    have e3 : Vis scope y := e3
    rcases e3 with k | k | k
    · exact absurd (List.mem_of_getElem? e1) ((L.own _ (PySem.mem_of_lookup k)).2 rfl)
    · exact absurd rfl (L.own _ (PySem.mem_of_lookup k)).1
    · obtain ⟨m, hn, hl⟩ := I.loc
      have fr := L.free _ (PySem.mem_of_lookup k) rfl
      obtain ⟨w', r, q⟩ := hl i y v e1 e2 (fr.elim (fun k => .inr (.inl k)) fun k => .inr (.inr k))
      obtain ⟨c2, h2⟩ := dn k
      refine ⟨w', r, .inr ⟨.inr k, c2, h2, ?_⟩⟩
      rcases q with ⟨k', _⟩ | ⟨_, c3, e', z⟩
      · have k' : X.env.scope.names.lookup y = some .local := k'
        rcases fr with k2 | k2 <;> rw [show X.env.scope.names.lookup y = _ from k2] at k' <;> cases k'
      · rw [up h2] at e'
        cases e'
        exact cellK (I.freeC y _ (up h2)) z
  · obtain ⟨w', z⟩ := I.cell y c (up e)
    exact ⟨w', cellK (I.freeC y c (up e)) z⟩
  · obtain ⟨v, o, ho, hd⟩ := I.cell y c (up e)
    exact un.free c o ho (I.freeC y c (up e)) (by simp)
end
/-- what its parameters are bound to when nothing is given -/
def LamB (l : Lam) : Prop := ∀ (z : Shared) (q : Str) (cl : List (Str × Addr)) (dt pm cdv ct : Value), (l.dv = none → dt = .none) → (∀ i, l.dv = some i → ∃ t o tk n, dt = .ref t ∧ z.heap.get? t = some o ∧ o.data = .seq #[.int i tk] n) →
  ∃ bs, BindsTo z (lamFn q l cl dt pm cdv ct) ⟨[], []⟩ bs ∧ ∀ y ∈ bs, l.scope.names.lookup y.1 = some .local
theorem lamB0 {l : Lam} (hp : l.params = ⟨[], [], none, [], [], none, []⟩) (hd : l.dv = none) : LamB l := fun z q cl dt pm cdv ct h _ => by
  refine ⟨[], .of_eq ?_, fun y hy => by cases hy⟩
  have e := h hd
  subst e
  unfold bindArgs
  simp only [lamFn, hp]
  rfl
theorem lamB1 {l : Lam} {x : Str} {p : Pos} {e : Expr} {i : Int} (hp : l.params = ⟨[], [⟨x, none, p⟩], none, [], [], none, [e]⟩) (hd : l.dv = some i) (hl : l.scope.names.lookup x = some .local) : LamB l := fun z q cl dt pm cdv ct _ h => by
  obtain ⟨t, o, tk, n, rfl, ho, hs⟩ := h i hd
  refine ⟨[(x, .int i tk)], fun M A E Q q => ?_, fun y hy => by rw [List.mem_singleton.mp hy]; exact hl⟩
  unfold bindArgs
  simp only [lamFn, hp]
  refine wpAny_bind (m := seqItems? (.ref t)) (wpAny_seqItems ho hs ?_)
  refine wpAny_of_eq (a := [(x, .int i tk)]) ?_ q
  simp [List.zip, List.lookup]
section
variable {X : Cx} {pins : List (Addr × Obj)} {σ : L2.St} {H : Hp} {s : Shared}
/-- x(), in the def that got it: Z is that def's context, entered at s -/
theorem pe_act {CXg : CXT} {Eg : XK} {Ng : List Str} {qg : Str} {sg : Scope} {g : Addr} {cdg : Value} {k i : Nat} {a : Str} {pn : List (Addr × Obj)} {xe : Value → Shared → Prop} {W : WX} {E : XK} {l : Lam} {tb : TE} {p1 p2 : Pos}
    (I : Inv X pins σ H s) (L : LamS X.N X.env.scope l.scope) (B : LamB l) (tk : L2N.Takes ((cxOf CXg X.prog X.w X.K X.mg X.base Ng qg sg g cdg X.A X.stack s H Eg).tr pn xe) W) (hW : ∀ cls d σ' H', E cls d H' → W cls d σ' H') (hr : Room (k + 1) (X.A.deeper (envOfC qg sg s.heap.objs.size g cdg)))
    (hbody : ∀ (A : Around) (outer : List Env) (s : Shared) (H : Hp) (f c' : Addr), Room k (A.deeper (lamEnv X l.scope s.heap.objs.size f c')) → PE (lamCx X A outer s H E l.scope f c') l.body tb)
    (hN : Ng[i]? = some a) (hv : Vis sg a) (hd : (a == ("__debug__" : Str)) = false := by decide) (hcd : (a == ("__classdict__" : Str)) = false := by decide) :
    PE ((cxOf CXg X.prog X.w X.K X.mg X.base Ng qg sg g cdg X.A X.stack s H Eg).tr pn xe) (.Call (.Name a p1) [] [] p2)
      (fun τ G Q => ∃ f, τ[i]? = some (some (.ref f)) ∧ LamAt G (X.env.qual ++ "<lambda>") X.env.cells l f ∧ tb σ G Q) := by
  refine ⟨fun pz z τ G Q J h => ?_⟩
  obtain ⟨f, hs, ⟨dt, pm, c', ct, hF, hC, hD⟩, ht⟩ := h
  refine wpAny_Call_Name_kw (thn ((pe_var (pos := p1) (i := i) hN hv hd hcd).run pz z τ G (fun v H1 => v = .ref f ∧ H1 = G) J ⟨.ref f, hs, rfl, rfl⟩) fun u z1 ⟨v, H1, J1, r1, q1⟩ => ?_)
  obtain ⟨ev, eH⟩ := q1
  subst ev
  rw [eH] at J1
  obtain rfl : u = Value.ref f := r1
  have of1 : z1.heap.get? f = some (lamObj (X.env.qual ++ "<lambda>") l (cloFrom X.env.cells l.scope.names []) dt pm c' ct) := (J1.hok f _ hF).1
  refine PySem.W.callWith_F0 ⟨_, _, _, _, of1⟩ ?_
  obtain ⟨⟨oc, vs, t, hoc, hdc, hvc⟩, _, _⟩ := J1.hok c' _ hC
  obtain ⟨bs, hb, hl⟩ := B z1 (X.env.qual ++ "<lambda>") (cloFrom X.env.cells l.scope.names []) dt pm (.ref c') ct (fun e => by unfold DvAt at hD; rw [e] at hD; exact hD) (fun i e => by
    unfold DvAt at hD
    rw [e] at hD
    obtain ⟨t, et, hT⟩ := hD
    obtain ⟨_, its, rv, o, ho, _, n, hd⟩ := J1.hok t _ hT
    cases rv with
    | cons a b =>
      cases b
      obtain ⟨tk, rfl⟩ := a
      exact ⟨t, o, tk, n, et, ho, hd⟩)
  have rc : codeAny (model X.prog X.w) (X.A.deeper (envOfC qg sg s.heap.objs.size g cdg)) (.call (.ref f) ⟨[], []⟩) (CR (L2N.CX X.prog X.w) (envOfC qg sg s.heap.objs.size g cdg :: X.stack) X.prog X.w G z1 Q E) z1 := by
    refine PySem.W.kla_callFunE hr.depth of1 rfl L.co L.gen rfl ⟨c', oc, vs, t, rfl, hoc, hdc, hvc⟩ (hb _ _ _ _ ?_)
    refine wpAny_newFunctionEnv (fun y hy => (L.own y hy).1) hl (fun h₁ hns hsb => ⟨J1.nolimit.fresh _ hsb, ?_⟩) L.kind
    have kp : ∀ b o, z1.heap.get? b = some o → h₁.get? b = some o := fun b o e => hsb.extBut b o (Nat.ne_of_lt (Heap.lt_size e)) (Heap.get?_push_of_some _ e)
    have J2 := lam_in (A := X.A.deeper (envOfC qg sg s.heap.objs.size g cdg)) (outer := envOfC qg sg s.heap.objs.size g cdg :: X.stack) (E := E) (f := f) (c' := c') (tk := z1.toks + bs.length) I L J1.env0 hr.hd (show Un (frs X.stack) [] H G s.heap z1.heap from J1.base) hns kp
    refine PySem.W.kla_codeExpr (wpAny_mono ((hbody _ _ z1 G f c' (hr.deeper _)).run [] _ _ G Q J2 ht) (fun v y hq => ?_) fun e y hq => hq)
    obtain ⟨w', H', J', rv, q⟩ := hq
    exact ⟨w', H', J'.os, J'.bare, J'.base, J'.hok, rv, q⟩
  have hx : Passes (L2N.CX X.prog X.w) ((cxOf CXg X.prog X.w X.K X.mg X.base Ng qg sg g cdg X.A X.stack s H Eg).tr pn xe) E := L2N.passes_call tk hW
  refine wpAny_call (codeAny_mono rc fun r y hq => ?_)
  cases r with
  | error e => exact hx pz τ G z1 e y J1 hq
  | ok fl =>
    cases fl with
    | ret u => exact J1.after hq
    | next => exact False.elim hq
    | brk => exact False.elim hq
    | cont => exact False.elim hq
end
end Ft

/-! part: FtT -/
set_option Elab.async false
set_option linter.all false
set_option maxRecDepth 100000
set_option maxHeartbeats 2000000
/-! try with two clauses that have names, whose suites return a written text. -/
namespace L2N
open PySem PySem.Spec PyProof.Rows L2
/-- what the two clauses make of an error -/
def wTwo (K : PySem.W.Frag) (c1 c2 : Value) (r1 r2 : Str) (D : Ends) : WX := fun cls _ _ H =>
  (PySem.W.exmOne K cls c1 = some true ∧ D.rt (.str r1) H) ∨ (PySem.W.exmOne K cls c1 = some false ∧ PySem.W.exmOne K cls c2 = some true ∧ D.rt (.str r2) H)
abbrev retStr (r : Str) (j : Nat) (p q : Pos) : Stmt := .Return (some (.Constant (.str r) j p)) q
abbrev clause (x n r : Str) (np : Pos) (j : Nat) (p q pc : Pos) : ExceptHandler := .ExceptHandler (some (.Name x np)) (some n) [retStr r j p q] pc
section
variable {X : Cx} {x1 x2 n r1 r2 : Str} {c1 c2 : Value} {i j1 j2 : Nat} {body : List Stmt} {np1 np2 p1 p2 q1 q2 pc1 pc2 pos : Pos} {tb : WX → TS}
theorem ps_try_two (hs : X.stack = X.env :: X.outer) (hf : X.env.frame = some X.env.locals) (hN : X.N.Nodup) (hi : X.N[i]? = some n) (hln : X.env.kindOf n = some .local) (hc1 : Names X x1 c1) (hc2 : Names X x2 c2)
    (hb : ∀ (W : WX) (pn : List (Addr × Obj)) (xe : Value → Shared → Prop), Takes (X.tr pn xe) W → PassesOwn (model X.prog X.w) X.A X.env xe → PSs (X.tr pn xe) body (tb W)) :
    PS X (.Try body [clause x1 n r1 np1 j1 p1 q1 pc1, clause x2 n r2 np2 j2 p2 q2 pc2] [] [] pos) (fun D σ H => tb (wTwo X.K c1 c2 r1 r2 D) D σ H) := by
  refine ⟨fun pins s σ H D I h => wpAny_Try_except ?_⟩
  have ok := I.ok
  have hfr : X.A.frames = some (X.env :: X.outer) := by rw [ok.frames, hs]
  refine wpAny_mono ((hb (wTwo X.K c1 c2 r1 r2 D) (X.pn ++ pins) (fun e z => wpAny (model X.prog X.w) X.A (noteFrame e X.env) (fun _ z2 => wpAny (model X.prog X.w) X.A (setFlight e none) (fun _ z3 =>
    wpAny (model X.prog X.w) X.A (handleBy e X.env [clause x1 n r1 np1 j1 p1 q1 pc1, clause x2 n r2 np2 j2 p2 q2 pc2]) (SP X pins D) X.xe z3) X.xe z2) X.xe z) (fun u z xx => ?_) PassesOwn.looking).run [] s σ H D (I.toTry _) h) (fun f s1 hsp => ?_) (fun e s1 he => he)
  · obtain ⟨a, B, sI, pins', σ', H', cls, d, rfl, J', nb, up, sky, na, os, ag, w⟩ := xx
    have J : Inv X pins σ' H' sI := J'.ofTry ok
    have sky' : Sky B (X.env :: X.outer) a (Zn cls d) X.env.locals z.heap := by rw [← hs]; exact sky
    show wpAny (model X.prog X.w) X.A (noteFrame (.ref a) X.env) _ _ _
    refine Sky.land Zn.steady hfr hf sky' fun h3 fl3 up3 => ?_
    have J3 : Inv X pins σ' H' { z with heap := h3 } := J.landed nb fl3.1 (up.trans up3) os ag
    obtain ⟨oe3, vs3, he3, hz3, hd3⟩ := fl3.there
    have nfr : a ∉ frs (X.env :: X.outer) := fun hm => by
      obtain ⟨_, o', e', hnf⟩ := fl3.2.2.1.mem hm
      rw [he3] at e'
      cases e'
      exact hnf _ hd3
    have nL : a ≠ X.env.locals := fun y => nfr (List.mem_filterMap.mpr ⟨X.env, List.mem_cons_self, by rw [hf, y]⟩)
    have nF : a ∉ X.fs := fun hm => by
      obtain ⟨e, he, q⟩ := List.mem_filterMap.mp hm
      exact nfr (List.mem_filterMap.mpr ⟨e, List.mem_cons_of_mem _ he, q⟩)
    have S3 := J3.suite he3 hd3 na nL nF
    have LT : PySem.W.Looks (model X.prog X.w) h3 (typeOf (.ref a)) cls := fun A Q E s k q => wpAny_typeOf_ref (k _ _ he3) (by rw [hz3.1]; exact q)
    have test : ∀ {x : Str} {c : Value} {np : Pos} {Q : Value → Shared → Prop} {E : Value → Shared → Prop}, Names X x c → Q c { z with heap := h3 } → wpAny (model X.prog X.w) (X.A.mark (some (.ref a))) (eval (.Name x np) X.env) Q E { z with heap := h3 } := fun {x c np Q E} hc q => by
      obtain ⟨hg, hdbg, hm | ⟨hm, hv, hnn⟩⟩ := hc
      · exact ld_glob (X := X.suite a ((a, oe3) :: (X.pn ++ pins))) S3 hg hm q hdbg
      · exact ld_blt (X := X.suite a ((a, oe3) :: (X.pn ++ pins))) S3 hg hm hv q hnn hdbg
    -- a clause that is taken
    have take : ∀ {x r : Str} {np p q pc : Pos} {j : Nat} {rest : List ExceptHandler} {c : Value}, Names X x c → PySem.W.exmOne X.K cls c = some true → D.rt (.str r) H' → wpAny (model X.prog X.w) X.A (handleBy (.ref a) X.env (clause x n r np j p q pc :: rest)) (SP X pins D) X.xe { z with heap := h3 } := fun {x r np p q pc j rest c} hc hb1 hq => by
      refine wpAny_handleBy_cons (codeAny_handlers_test ?_) (by intro y; cases y)
      refine test hc ((PySem.W.exm_one (M := model X.prog X.w) (J3.kIn) LT hb1).here ?_)
      refine codeAny_handlers_suite_as ?_
      refine HandSPX.lands_againZ fl3 fun h4 fl4 up4 => ?_
      have J4 : Inv X pins σ' H' { z with heap := h4 } := J.landed nb fl4.1 ((up.trans up3).trans up4) os ag
      obtain ⟨oe4, vs4, he4, hz4, hd4⟩ := fl4.there
      have S4 := J4.suite he4 hd4 na nL nF
      refine store_ok (X := X.suite a ((a, oe4) :: (X.pn ++ pins))) (v := .ref a) S4 hN hi (.inl hln) rfl (fun s5 S5 => ?_) (.inr hln)
      have su : PSs (X.suite a ((a, oe4) :: (X.pn ++ pins))) [retStr r j p q] (tRet (tC (.str r))) := pss_one (ps_ret pe_str)
      refine wpAny_mono (su.run [] s5 _ H' { nx := fun _ _ => False, rt := fun v G => v = .str r ∧ G = H', bk := fun _ _ => False, ct := fun _ _ => False } S5 ⟨rfl, rfl⟩) (fun f s6 hsp => ?_) (fun _ _ y => False.elim y)
      cases f with
      | ret u =>
        obtain ⟨v6, σ6, H6, S6, r6, e6, e7⟩ := hsp
        subst e6 e7
        exact gone_ok (S6.unsuite ok) hN hi hln fun s7 J7 => ⟨_, _, _, J7, r6, hq⟩
      | next => obtain ⟨_, _, _, q6⟩ := hsp; exact q6.elim
      | brk => obtain ⟨_, _, _, q6⟩ := hsp; exact q6.elim
      | cont => obtain ⟨_, _, _, q6⟩ := hsp; exact q6.elim
    rcases w with ⟨w1, w2⟩ | ⟨w1, w2, w3⟩
    · exact take hc1 w1 w2
    · refine wpAny_handleBy_cons (codeAny_handlers_test ?_) (by intro y; cases y)
      refine test hc1 ((PySem.W.exm_one (M := model X.prog X.w) (J3.kIn) LT w1).here ?_)
      exact take hc2 w2 w3
  · cases f with
    | next =>
      obtain ⟨σ', H', J', q⟩ := hsp
      exact wpAny_execs_nil ⟨σ', H', J'.ofTry ok, q⟩
    | brk =>
      obtain ⟨σ', H', J', q⟩ := hsp
      exact ⟨σ', H', J'.ofTry ok, q⟩
    | cont =>
      obtain ⟨σ', H', J', q⟩ := hsp
      exact ⟨σ', H', J'.ofTry ok, q⟩
    | ret u =>
      obtain ⟨v, σ', H', J', r, q⟩ := hsp
      exact ⟨v, σ', H', J'.ofTry ok, r, q⟩
end
end L2N

/-! part: FtU -/
set_option Elab.async false
set_option linter.all false
set_option maxRecDepth 100000
/-! A comprehension whose element speaks of the maker's own slots; a def that calls a lambda out of a list. -/
namespace Ft
open PySem L2 PyProof.Rows
section
variable {X : Cx} {tg : Expr}
theorem lc_by {pins : List (Addr × Obj)} {s : Shared} {σ : L2.St} {H : Hp} {Q : VK} {elt iter : Expr} {ifs : List Expr} {scope : Scope} {own : List (Str × Nat)} {pos pos' : Pos} {wi : TI} {g : TG} {tt : TT} {te : TE} {use : Option (Value → Sem Unit)} {Qf : Value → Shared → Prop}
    (hc : X.calm = true) (hN : X.N.Nodup) (I : Inv X pins σ H s) (hi : PI X tg iter wi) (ok : BlkOk X.N X.env.scope scope own)
    (hg : ∀ (s : Shared) (H : Hp) (C : Addr) (cl : List (Str × Addr)) (fp : List Addr), PG (X.blk s H scope (compEnvC scope cl C X.env) fp) tg g) (ht : ∀ (s : Shared) (H : Hp) (C : Addr) (cl : List (Str × Addr)) (fp : List Addr), PTs (X.blk s H scope (compEnvC scope cl C X.env) fp) ifs tt)
    (he : ∀ (z : Shared) (G : Hp) (C : Addr) (cl : List (Str × Addr)) (fp : List Addr), Inv X pins σ G z → (∀ b ∈ fp, FpOk X pins G b ∧ b < z.heap.objs.size) → ∀ (py : List (Addr × Obj)) (y : Shared) (τ : L2.St) (F : Hp) (R : VK), Inv (X.blk z G scope (compEnvC scope cl C X.env) fp) py τ F y → wipe τ (own.map (·.2)) = wipe σ (own.map (·.2)) → te τ F R →
      wpAny (model X.prog X.w) X.A (eval elt (compEnvC scope cl C X.env)) (EP (X.blk z G scope (compEnvC scope cl C X.env) fp) py τ R) (fun _ _ => False) y) (hs : ∀ x, foldedSetIterable iter X.env x = pure x) (h : tLc wi g tt te (own.map (·.2)) σ H Q)
    (hRR : ∀ D C z m G, Inv X pins σ G z → Q (.ref D) G → z.heap.Ns C m → FpOk X pins G C → compPost (model X.prog X.w) X.A X.xe use Qf (.ref D) C (.ok .next) z) :
    wpAny (model X.prog X.w) X.A (comprehension (.ListComp elt [⟨tg, iter, ifs, 0⟩] scope pos) scope X.env pos' (newList []) false (eval iter X.env) use) Qf X.xe s := by
  have free : ∀ y ∈ scope.names, y.2 = .free → ∃ c, X.env.cells.lookup y.1 = some c := fun y hy e => (ok.free y hy e).elim (fun k => I.ok.has _ (.inl k)) fun k => I.ok.has _ (.inr k)
  refine wpAny_comprehension_free (use := use) rfl hs (closure_ok free) ok.kind (fun y hy e => by rw [ok.uniq y hy, e]) (thn (hi.run pins s σ H _ I h) fun xv z1 hx => thn hx fun iv z2 h2 => ?_)
  obtain ⟨it, fp, tn, J, G2, e, K2, T, t2, f2, q⟩ := h2
  subst e
  refine wpAny_newObj_type (newEnv_comp ?_) (by show 0 ≤ sizeLine; decide)
  generalize hD : z2.heap.objs.size = D
  obtain ⟨W, ⟨m0, w0⟩, turn⟩ := q D (K2.hok.fresh (Nat.le_of_eq hD))
  generalize hz3 : ({ z2 with heap := z2.heap.push { cls := .type "list", data := .seq ([] : List Value).toArray } } : Shared) = z3
  have e3 : z3.heap = z2.heap.push { cls := .type "list", data := .seq ([] : List Value).toArray } := by rw [← hz3]
  have K3 : Inv X pins σ (upd G2 D (.lst [])) z3 := by
    rw [← hz3]
    exact K2.laid (t' := z2.toks) (fun b o e => Heap.get?_push_of_some _ e) (Nat.le_of_eq hD) ⟨Nat.zero_le _, [], 0, .nil, by rw [← hD]; exact Heap.get?_push_size _ rfl⟩
  have f3 : ∀ b ∈ fp, FpOk X pins (upd G2 D (.lst [])) b ∧ b < z3.heap.objs.size := fun b hb => by
    obtain ⟨o, e, _⟩ := T.obj _ _ t2 b hb
    have lt := Heap.lt_size e
    refine ⟨⟨?_, (f2 b hb).2⟩, by rw [e3, Heap.size_push]; exact Nat.lt_succ_of_lt lt⟩
    rw [upd_ne (by rw [← hD]; exact Nat.ne_of_lt lt)]
    exact (f2 b hb).1
  have t3 : tn 0 z3.heap := T.keep _ _ _ t2 fun b _ o e => by rw [e3]; exact Heap.get?_push_of_some _ e
  have K4 := block_start K3 ok hN f3
  have P1 := hg z3 (upd G2 D (.lst [])) z3.heap.objs.size (cellsFrom (z3.heap.objs.size + 1) scope.names (cloFrom X.env.cells scope.names [])) fp
  have P2 := ht z3 (upd G2 D (.lst [])) z3.heap.objs.size (cellsFrom (z3.heap.objs.size + 1) scope.names (cloFrom X.env.cells scope.names [])) fp
  have P3 := he z3 (upd G2 D (.lst [])) z3.heap.objs.size (cellsFrom (z3.heap.objs.size + 1) scope.names (cloFrom X.env.cells scope.names [])) fp K3 f3
  show codeAny _ _ (.compStart (.ListComp elt [⟨tg, iter, ifs, 0⟩] scope pos) 0 (.ref it) (.ref D) (compEnvC scope (cellsFrom (z3.heap.objs.size + 1) scope.names (cloFrom X.env.cells scope.names [])) z3.heap.objs.size X.env)) (compPost (model X.prog X.w) X.A X.xe use Qf (.ref D) z3.heap.objs.size) { z3 with heap := pushCells (z3.heap.push { cls := .type "dict", data := .dict #[] }) scope.names }
  have n3 : ∀ b ∈ fp, (upd G2 D (.lst [])) b = none := fun b hb => (f3 b hb).1.1
  generalize hce : compEnvC scope (cellsFrom (z3.heap.objs.size + 1) scope.names (cloFrom X.env.cells scope.names [])) z3.heap.objs.size X.env = ce at K4 P1 P2 P3 ⊢
  have cL : ce.locals = z3.heap.objs.size := by rw [← hce]; rfl
  generalize hG3 : upd G2 D (.lst []) = G3 at K3 K4 P1 P2 P3 w0 n3 f3
  generalize hz4 : ({ z3 with heap := pushCells (z3.heap.push { cls := .type "dict", data := .dict #[] }) scope.names } : Shared) = z4 at K4 ⊢
  have t4 : tn 0 z4.heap := T.keep _ _ _ t3 fun b _ o e => by rw [← hz4]; exact pushCells_keeps _ _ _ _ (Heap.get?_push_of_some _ e)
  have stat : ∀ {σ' : L2.St} {G : Hp} {z : Shared}, Inv (X.blk z3 G3 scope ce fp) [] σ' G z → (∀ b ∈ fp, G b = none) → ∀ b ∈ fp, FpOk (X.blk z3 G3 scope ce fp) [] G b := fun {σ' G z} I' hn b hb =>
    ⟨hn b hb, (I'.ok.exf b hb).1, I'.ok.exfs b hb, .inl hb, fun x c e => (I'.ok.exf b hb).2 x c e, fun p hp => absurd (show p ∈ ([] : List (Addr × Obj)) ++ [] from hp) (by simp)⟩
  have loop : codeAny (model X.prog X.w) X.A (.compLoop (.ListComp elt [⟨tg, iter, ifs, 0⟩] scope pos) 0 (.ref it) (.ref D) ce) (compPost (model X.prog X.w) X.A X.xe use Qf (.ref D) z3.heap.objs.size) z4 := by
    refine compLoop_any (fun n z => ∃ i G, Inv (X.blk z3 G3 scope ce fp) [] (wipe σ (own.map (·.2))) G z ∧ tn i z.heap ∧ (∀ b ∈ fp, G b = none) ∧ W i n G) ?_ m0 ⟨0, G3, K4, t4, n3, w0⟩
    rintro n z5 ⟨i, G5, K5, t5, n5, w5⟩
    rcases turn i n G5 w5 with ⟨stop, qq⟩ | ⟨go, Nx, hNx, step⟩
    · refine thnF (T.done (X.blk z3 G3 scope ce fp) rfl rfl rfl hc i [] z5 _ G5 (fun _ _ => False) K5 (stat K5 n5) t5 stop) fun r z6 ⟨hr, K6⟩ => ?_
      subst hr
      have K7 : Inv X pins σ G5 z6 := K3.call' (ch := fp) K6.os K6.base K6.hok K6.bare fun b hb => ⟨(f3 b hb).1.2.2.2.1, (f3 b hb).1.2.1, (f3 b hb).1.2.2.2.2.1, (f3 b hb).1.2.2.2.2.2⟩
      have nC : G5 z3.heap.objs.size = none := by
        have y : G5 ce.locals = none := K6.free
        rwa [cL] at y
      obtain ⟨m, hn, _⟩ := K6.loc
      have hn : z6.heap.Ns ce.locals m := hn
      rw [cL] at hn
      exact hRR D z3.heap.objs.size z6 m G5 K7 qq hn (K3.fpOk (Nat.le_refl _) nC)
    · refine thnF (T.item (X.blk z3 G3 scope ce fp) rfl rfl rfl hc i [] z5 _ G5 (fun _ _ => False) K5 (stat K5 n5) t5 go) fun r z6 ⟨u, hr, h6⟩ => ?_
      subst hr
      refine thnF h6 fun _ z7 ⟨x, G7, K7, r7, y7, t7, n7⟩ => ?_
      refine thnF (P1.run _ z7 _ G7 x u _ (K7.pinned (stat K7 n7) (T.obj _ _ t7)) r7 (step x G7 y7)) fun _ z8 ⟨σ8, G8, K8, hw8, q8⟩ => thnF (P2.run _ z8 σ8 G8 _ K8 q8) fun b z9 ⟨G9, K9, q9⟩ => ?_
      have fin : ∀ {z : Shared} {G : Hp}, Inv (X.blk z3 G3 scope ce fp) ([] ++ pinsAt fp z7.heap) σ8 G z → Nx G → ∃ m, m < n ∧ ∃ i G, Inv (X.blk z3 G3 scope ce fp) [] (wipe σ (own.map (·.2))) G z ∧ tn i z.heap ∧ (∀ b ∈ fp, G b = none) ∧ W i m G := fun {z G} I' nx => by
        obtain ⟨m', hm, w'⟩ := hNx G nx
        have pin' : ∀ b ∈ fp, ∀ o, z7.heap.get? b = some o → z.heap.get? b = some o ∧ G b = none := fun b hb o e =>
          let y := I'.pin (b, o) (List.mem_append_right _ (List.mem_append_right _ (mem_pinsAt hb e)))
          ⟨y.1, y.2.1⟩
        refine ⟨m', hm, i + 1, G, (I'.unpinned (pins := [])).weak (by rw [← hw8, wipe_length]) (fun j v e => ?_), T.keep _ _ _ t7 fun b hb o e => (pin' b hb o e).1, fun b hb => ?_, w'⟩
        · rw [← hw8] at e
          exact (wipe_some e).1
        · obtain ⟨o, e, _⟩ := T.obj _ _ t7 b hb
          exact (pin' b hb o e).2
      cases b with
      | false =>
        simp only [Bool.false_eq_true, if_false] at q9 ⊢
        exact fin K9 q9
      | true =>
        simp only [if_true] at q9 ⊢
        refine thnF (P3 _ z9 σ8 G9 _ K9 hw8 q9) fun y z10 ⟨yv, G10, K10, r10, acc, hD10, hz10, nx⟩ => ?_
        exact app_ok (X := X.blk z3 G3 scope ce fp) K10 hD10 hz10 r10 fun z11 K11 => fin K11 nx
  exact codeAny_compStart_list loop (T.self X.A 0 _ _ _ t4 loop)
/-- a lambda, and its reading when it is called in X's slots -/
def LamGood (X : Cx) (k : Nat) (l : Lam) (tl : XK → TE) : Prop := LamS X.N X.env.scope l.scope ∧ LamB l ∧
  ∀ (E : XK) (A : Around) (outer : List Env) (s : Shared) (H : Hp) (f c' : Addr), Room k (A.deeper (lamEnv X l.scope s.heap.objs.size f c')) → PE (lamCx X A outer s H E l.scope f c') l.body (tl E)
/-- the word of the error that a lambda raises -/
def tWord (X : Cx) (k : Nat) (c1 c2 : Value) (r1 r2 : Str) (iw : Nat) : TE := fun τ G Q => ∃ f l tl, τ[iw]? = some (some (.ref f)) ∧ LamAt G (X.env.qual ++ "<lambda>") X.env.cells l f ∧ LamGood X k l tl ∧
  ∀ Q2 : VK, tl (fun cls _ F => (PySem.W.exmOne X.K cls c1 = some true ∧ Q (.str r1) F) ∨ (PySem.W.exmOne X.K cls c1 = some false ∧ PySem.W.exmOne X.K cls c2 = some true ∧ Q (.str r2) F)) τ G Q2
theorem inv_slot {pins : List (Addr × Obj)} {σ τ : L2.St} {H : Hp} {s : Shared} {iw : Nat} {w : Str} (I : Inv X pins σ H s) (hw : X.N[iw]? = some w) (nv : ¬ Vis X.env.scope w) (e : wipe τ [iw] = wipe σ [iw]) : Inv X pins τ H s := by
  have e : τ.set iw none = σ.set iw none := e
  have len : τ.length = σ.length := by
    have := congrArg List.length e
    rwa [List.length_set, List.length_set] at this
  refine ⟨I.ok, I.os, I.bare, I.base, ?_, I.cell, I.free, I.freeC, I.pin, I.hok, len.trans I.len⟩
  obtain ⟨m, hn, hl⟩ := I.loc
  refine ⟨m, hn, fun i x v e1 e2 e3 => hl i x v e1 ?_ e3⟩
  by_cases z : iw = i
  · subst z
    rw [hw] at e1
    cases e1
    exact absurd e3 nv
  · rw [← List.getElem?_set_ne (a := none) z, ← e, List.getElem?_set_ne z]
    exact e2
theorem pe_lcWord {iter : Expr} {scope : Scope} {iw k j1 j2 j3 : Nat} {w gn a n x1 x2 r1 r2 r3 : Str} {c1 c2 : Value} {wi : TI} {ga : Addr} {p1 p2 p3 p4 p5 p6 p7 p8 p9 tp pos : Pos} {np1 np2 o1 o2 q1 q2 pc1 pc2 : Pos} {pg : Arguments} {sg : Scope} {dV kV doc pm cdv ct oc : Value} {an od : Option Addr} {osl : Array (Option Value)}
    (hc : X.calm = true) (hN : X.N.Nodup) (hi : PI X (.Name w tp) iter wi) (ok : BlkOk X.N X.env.scope scope [(w, iw)]) (hw : X.N[iw]? = some w) (nv : ¬ Vis X.env.scope w)
    (hl : (relS scope X.env.scope).names.lookup w = some .local) (hg : (relS scope X.env.scope).names.lookup gn = some .globalImplicit) (hm : X.mg gn = some (.ref ga)) (hk : PySem.W.keepIn X.K (.ref ga) = true)
    (lk : X.K.lookup ga = some ⟨oc, od, .func (PySem.W.fnOf gn gn pg [.Try [.Expr (.Call (.Name a p4) [] [] p5) p6] [L2N.clause x1 n r1 np1 j1 o1 q1 pc1, L2N.clause x2 n r2 np2 j2 o2 q2 pc2] [] [] p7, .Return (some (.Constant (.str r3) j3 p8)) p9] sg dV kV doc pm an cdv ct), osl⟩)
    (hcg : PySem.W.codeIn X.K cdv gn = true) (hb : L2.Binds X.K (PySem.W.fnOf gn gn pg [.Try [.Expr (.Call (.Name a p4) [] [] p5) p6] [L2N.clause x1 n r1 np1 j1 o1 q1 pc1, L2N.clause x2 n r2 np2 j2 o2 q2 pc2] [] [] p7, .Return (some (.Constant (.str r3) j3 p8)) p9] sg dV kV doc pm an cdv ct) [a] [])
    (Sg : FnScope [a, n] [a] sg) (ha : Vis sg a) (hn : sg.names.lookup n = some .local) (h1 : sg.names.lookup x1 = some .globalImplicit ∧ (x1 == ("__debug__" : Str)) = false ∧ X.mg x1 = some c1) (h2 : sg.names.lookup x2 = some .globalImplicit ∧ (x2 == ("__debug__" : Str)) = false ∧ X.mg x2 = some c2)
    (hr : Room (k + 2) X.A) (hd : (a == ("__debug__" : Str)) = false) (hcd : (a == ("__classdict__" : Str)) = false) (hdw : (w == ("__debug__" : Str)) = false) (hcw : (w == ("__classdict__" : Str)) = false) (hdb : (gn == ("__debug__" : Str)) = false) (hs : ∀ x, foldedSetIterable iter X.env x = pure x := by intro _; rfl) :
    PE X (.ListComp (.Call (.Name gn p1) [.Name w p2] [] p3) [⟨.Name w tp, iter, [], 0⟩] scope pos) (tLc wi (gName iw) tYes (tWord X k c1 c2 r1 r2 iw) [iw]) := by
  have nd : ([a, n] : List Str).Nodup := Sg.nd
  refine ⟨fun pins s σ H Q I h => ?_⟩
  rw [eval_ListComp]
  refine lc_by (own := [(w, iw)]) hc hN I hi ok (fun _ _ _ _ _ => pg_name (i := iw) hN hw (.inl hl) (.inr hl)) (fun _ _ _ _ _ => pts_nil) (fun z G C cl fp I3 f3 py y τ F R K9 hwp hq => ?_) hs h fun D C z m G J q hn f => ⟨m, hn, fun h2 sb => ?_⟩
  · obtain ⟨f, l, tl, hτ, hL, ⟨L, B, hbody⟩, hrd⟩ := hq
    show wpAny (model X.prog X.w) X.A (eval (.Call (.Name gn p1) [.Name w p2] [] p3) (compEnvC scope cl C X.env)) (EP (X.blk z G scope (compEnvC scope cl C X.env) fp) py τ R) (X.blk z G scope (compEnvC scope cl C X.env) fp).xe y
    refine wpAny_Call_Name_kw (ld_glob K9 (show Gl (X.blk z G scope (compEnvC scope cl C X.env) fp) gn from hg) hm ?_ hdb)
    refine PySem.W.callWith_K (h₀ := X.base) K9.ok.mod.kin hk ?_ (by rfl) (by rfl)
    show wpAny _ _ (spliced ((false, eval (.Name w p2) (compEnvC scope cl C X.env)) :: backTo p3 (starEach [] (compEnvC scope cl C X.env)))) _ _ y
    have hv : Vis (X.blk z G scope (compEnvC scope cl C X.env) fp).env.scope w := .inl hl
    refine Calls.spliced_cons (thn ((pe_var (X := X.blk z G scope (compEnvC scope cl C X.env) fp) (pos := p2) (i := iw) hw hv hdw hcw).run py y τ F (fun v F1 => v = .ref f ∧ F1 = F) K9 ⟨.ref f, hτ, rfl, rfl⟩) fun u y1 ⟨v, F1, K10, rv, e1, e2⟩ => ?_)
    subst e1
    rw [e2] at K10
    obtain rfl : u = Value.ref f := rv
    refine Calls.spliced_nil ⟨K10.kIn, ?_⟩
    have IX : Inv X pins τ F y1 := inv_slot (I3.call' (ch := fp) K10.os K10.base K10.hok K10.bare fun b hb => ⟨(f3 b hb).1.2.2.2.1, (f3 b hb).1.2.1, (f3 b hb).1.2.2.2.2.1, (f3 b hb).1.2.2.2.2.2⟩) hw nv hwp
    have rc : codeAny (model X.prog X.w) X.A (.call (.ref ga) ⟨[.ref f], []⟩) (CR C8.CX0 X.stack X.prog X.w F y1 R C8.E0) y1 := by
      refine LamX.run_ofS (N := [a, n]) (ps := [a]) (us := [.ref f]) (vs := [.ref f]) lk hcg Sg hr K10.env0 (hb y1 [.ref f] K10.kIn rfl) (.cons rfl .nil) rfl fun hr' => ?_
      let Z : Cx := cxOf C8.CX0 X.prog X.w X.K X.mg X.base [a, n] gn sg ga cdv X.A X.stack y1 F C8.E0
      refine ⟨_, pss_cons (L2N.ps_try_two (X := Z) (tb := fun W D τ' G' => ∃ E : XK, (∀ cls d σ' H', E cls d H' → W cls d σ' H') ∧ tDrop (fun τ2 G2 Q2 => ∃ f, τ2[0]? = some (some (.ref f)) ∧ LamAt G2 (X.env.qual ++ "<lambda>") X.env.cells l f ∧ tl E τ G2 Q2) D τ' G') (i := 1) rfl rfl nd rfl hn ⟨h1.1, h1.2.1, .inl h1.2.2⟩ ⟨h2.1, h2.2.1, .inl h2.2.2⟩ (fun W pn xe tk _ => ?_)) (pss_one (ps_ret pe_str)), ?_⟩
      · refine ⟨fun pz z' σ' H' D I' h' => ?_⟩
        obtain ⟨E, hW, h3⟩ := h'
        exact (pss_one (ps_expr (pe_act (i := 0) (E := E) IX L B tk hW hr' (fun A outer s H f c' hr2 => hbody E A outer s H f c' hr2) rfl ha hd hcd))).run pz z' σ' H' D I' h3
      · exact ⟨_, fun cls d σ' H' x => x, f, rfl, hL, hrd _⟩
    refine wpAny_call (codeAny_mono rc fun r s2 hq => ?_)
    cases r with
    | error e => exact (show False from hq).elim
    | ok fl =>
      cases fl with
      | ret u => exact K10.after hq
      | next => exact False.elim hq
      | brk => exact False.elim hq
      | cont => exact False.elim hq
  · obtain ⟨g0, g1, g2, g3, g4, g5⟩ := f
    exact ⟨.ref D, G, J.turned (t' := z.toks) (fun b o nb e => (sb.2 b nb).trans e) g0 g1 g3 g4 g5, rfl, q⟩
end
end Ft

/-! part: FtY -/
set_option Elab.async false
set_option linter.all false
set_option maxRecDepth 100000
/-! range with a step, tuple(range(i, j)), sorted(set(a tuple)). -/
namespace Ft
open PySem L2 PyProof.Rows
section
variable {K : Frg} {ρ : Rho} {te tf : TE} {ta : TA} {P : Da → Prop}
theorem yld_rngC {lo c : Int} {n : Nat} {H' : Hp} : Yld K (Itc lo c n) H' ((List.range n).map fun (i : Nat) => .int (lo + (i : Int) * c)) := fun i Hk H3 e1 e2 => by
  refine ⟨fun d ed => ?_, fun ed => ?_⟩
  · have lt : i < n := by simpa using (List.getElem?_eq_some_iff.mp ed).1
    refine ⟨lt, fun x H4 yy => ?_⟩
    obtain ⟨eh, ex⟩ := yy
    subst eh ex
    rw [List.getElem?_map, List.getElem?_range lt] at ed
    cases ed
    exact ⟨Hk, GrN.rf e2, .int _⟩
  · show n ≤ i
    rw [ed]
    simp
theorem ai_rng3 {Q : List Da → Prop} (h : AA K ta ρ fun vs => ∃ (i j c : Int) (n : Nat), vs = [.int i, .int j, .int c] ∧ RgC i j c n ∧ Q ((List.range n).map fun (k : Nat) => .int (i + (k : Int) * c))) : AI K (iRng3 ta) ρ Q := fun σ H H1 s e R q => h σ H H1 s e _ fun ds ⟨i, j, c, n, ed, b, p⟩ vs H' H2 g dx => by
  subst ed
  cases dx with
  | cons a r =>
    cases r with
    | cons a' r' =>
      cases r' with
      | cons a2 r2 =>
        cases r2
        cases a
        cases a'
        cases a2
        exact ⟨i, j, c, n, rfl, b, q _ p _ H' H2 g yld_rngC⟩
theorem rgc_two {j : Int} (h0 : 0 ≤ j) (h1 : j < 1000) : RgC 0 j 2 ((j + 1) / 2).toNat := by
  refine ⟨by decide, by decide, ?_, ?_⟩
  · have e : Builtin.Range.rangeSize 0 j 2 = (j + 1) / 2 := by
      unfold Builtin.Range.rangeSize
      rw [if_pos (by decide)]
      split <;> omega
    unfold Builtin.Range.small
    rw [e]
    simp only [Builtin.Range.rangeFitsLong, Bool.and_eq_true, Bool.or_eq_true, decide_eq_true_eq, beq_iff_eq, show (2 : Int) > 0 by decide, if_true]
    omega
  · unfold Builtin.Range.rangeSize
    rw [if_pos (by decide)]
    split <;> omega
/-- a, a + 1, .. below b -/
abbrev fromTo (a b : Int) : List Int := (List.range (b - a).toNat).map fun (i : Nat) => a + (i : Int)
theorem rg_nums2 {H : Hp} (a b : Int) : DqAll K H (rgV a b) (nums (fromTo a b)) := by
  unfold rgV
  have e : ((List.range (b - a).toNat).map fun (i : Nat) => V.int (a + (i : Nat))) = (fromTo a b).map V.int := by
    rw [List.map_map]
    rfl
  rw [e]
  exact dq_intsV _
theorem ae_tupRg2 (h : AE K te ρ fun d => AE K tf ρ fun e => ∃ a b : Int, d = .int a ∧ e = .int b ∧ 0 ≤ a ∧ a ≤ b ∧ b ≤ 100000 ∧ P (tupI (fromTo a b))) : AE K (tTupRg (tRg2 te tf)) ρ P := fun σ H H1 s e Q q =>
  h σ H H1 s e _ fun d hd v H' H2 g dx => hd σ H' H2 (s.gr g) g.b _ fun e' ⟨a, b, ed, ee, h0, h1, h2, p⟩ u H3 H4 g2 dy => by
    subst ed ee
    cases dx
    cases dy
    refine ⟨a, b, rfl, rfl, RgOk.of_le (by omega) (by omega) (by omega) (by omega), fun l nl => ?_⟩
    have g3 : GrN K H3 H4 (upd H3 l (.tup (rgV a b))) (upd H4 l (.tup (rgV a b))) := GrN.new g2.b nl
    exact q _ p _ _ _ ((g.trans g2).trans (GrN.up g3 fun b rb => ((s.gr g).gr g2).rowAt rb)) (.tup (SqT.of upd_same) (rg_nums2 a b))
end
end Ft

/-! part: FtZ -/
set_option Elab.async false
set_option linter.all false
set_option maxRecDepth 100000
/-! set(t) of a tuple of tuples of whole numbers. -/
namespace Ft
open PySem PySem.Spec PyProof.Rows L2
theorem sub_tup_set : isSubtype (.type "tuple") (.type "set") = pure false := by rw [isSubtype_type]; kernel_rfl
theorem sub_tup_fset : isSubtype (.type "tuple") (.type "frozenset") = pure false := by rw [isSubtype_type]; kernel_rfl
section
variable {P : Program} {w : World} {A : Around} {E : Value → Shared → Prop} {s : Shared}
/-- the empty set -/
abbrev set0 (w : World) : Obj := { cls := .type "set", dict := none, data := .set #[] 0 (.fresh 0 0 (!w.params.followText "set-order")) }
set_option maxHeartbeats 3200000 in
theorem call_set_tupT {l : Addr} {its : Array Value} (ks : List (Addr × List Int)) {Q : Value → Shared → Prop} (hh : A.handled = none) (hl : IsTup s.heap l its) (hit : its.toList = ks.map fun p => Value.ref p.1)
    (hk : ∀ p ∈ ks, IsT P w s.heap p.2 p.1) (few : ks.length < 64) (hu : A.units + 3 < cLine)
    (h : ∀ (h' : Heap) (tk : Nat) L es ep t, SetTR P w h' s.heap.objs.size L es ep t → Got ks ks.length L → (∀ b o, s.heap.get? b = some o → h'.get? b = some o) → Q (.ref s.heap.objs.size) { s with heap := h', toks := tk }) :
    wpAny (model P w) A (call (.type "set") [.ref l]) Q E s := by
  have sz : its.size = ks.length := by
    have q := congrArg List.length hit
    rwa [Array.length_toList, List.length_map] at q
  obtain ⟨c, tl, hmro⟩ := F.called_set.mro
  have m1 := F.called_set.made
  have m2 := F.called_set.sub
  refine wpAny_call (codeAny_of_tree ?_)
  show wpAny _ _ (callAny (.type "set") _) _ _ _
  refine wpAny_pure ⟨Code.quiet_builtin _ (by decide +kernel), codeAny_builtin F.entry_type_call ?_⟩
  rw [Around.under_plain (weight_type_call_type "set" [.ref l] []) rfl]
  have m3 := F.called_set.notType
  have m4 := F.called_set.canCreate
  have m5 := F.typeCall_set_1 (.ref l)
  repeat (any_goals (first | assumption | wp_step))
  refine codeAny_mono (code_set_led1 (.ref l) (E := E) (Q₁ := fun obj z => obj = .ref s.heap.objs.size ∧ z = { s with heap := s.heap.push (set0 w) }) ⟨rfl, rfl⟩) fun r z hr => ?_
  cases r with
  | error e => exact hr
  | ok fl =>
    cases fl with
    | ret obj =>
      obtain ⟨rfl, rfl⟩ := hr
      have hS : (s.heap.push (set0 w)).get? s.heap.objs.size = some (set0 w) := Heap.get?_push_size _ rfl
      have hT : Shared.TypeIs { s with heap := s.heap.push (set0 w) } (.ref s.heap.objs.size) "set" := ⟨_, hS, rfl⟩
      have m6 := F.called_set.init.lookup
      have m7 := F.called_set.init.bind (.ref s.heap.objs.size)
      repeat (any_goals (first | assumption | wp_step))
      refine codeAny_mono (codeAny_call_builtin (R := wants (fun r z2 => r = .none ∧ ∃ h' tk L es ep t, z2 = { s with heap := h', toks := tk } ∧ SetTR P w h' s.heap.objs.size L es ep t ∧ Got ks ks.length L ∧
          (∀ b o, s.heap.get? b = some o → h'.get? b = some o)) E) F.called_set.init.plain F.entry_set_init (check_set_init_1 hT ?_)) fun r2 z2 hr2 => ?_
      · obtain ⟨ol, hol, hcl, nl, hdl⟩ := hl
        obtain ⟨ocls, odict, odata, oslots⟩ := ol
        simp only at hcl hdl
        subst hcl; subst hdl
        have hol' : (s.heap.push (set0 w)).get? l = some { cls := .type "tuple", dict := odict, data := .seq its nl, slots := oslots } := Heap.get?_push_of_some _ hol
        have n1 := sub_tup_set
        have n2 := sub_tup_fset
        have n3 : (Value.type "tuple" == Value.type "dict") = false := by decide
        have hl1 : (s.heap.push (set0 w)).IsTuple l its := ⟨_, hol', rfl, nl, rfl⟩
        unfold Builtin.«set.__init__» noKeywords Builtin.Frozenset.updateFrom
        generalize hPI : pyIter = PI
        wp_walk
        subst hPI
        refine wpAny_pyIter_tuple hl1 ?_
        refine wpAny_bind (wpAny_runValue ?_)
        have lS : l < s.heap.objs.size := Heap.lt_size hol
        have hh3 : A.in1.in1.in1.handled = none := by simp [hh]
        have neI : l ≠ (s.heap.push (set0 w)).objs.size := by
          rw [Heap.size_push]
          exact Nat.ne_of_lt (Nat.lt_succ_of_lt lS)
        have nS : s.heap.objs.size ∉ [(s.heap.push (set0 w)).objs.size, l] := by
          rw [Heap.size_push]
          simp only [List.mem_cons, List.mem_singleton, List.not_mem_nil, or_false, not_or]
          exact ⟨Nat.ne_of_lt (Nat.lt_succ_self _), Nat.ne_of_gt lS⟩
        have val : ∀ (i : Nat) (v : Value), its[i]? = some v → ∃ p, ks[i]? = some p ∧ v = .ref p.1 := fun i v hv => by
          have q : its.toList[i]? = some v := by rw [Array.getElem?_toList]; exact hv
          rw [hit, List.getElem?_map] at q
          cases hq : ks[i]? with
          | none => rw [hq] at q; cases q
          | some p =>
            rw [hq] at q
            exact ⟨p, rfl, (Option.some.inj q).symm⟩
        have new : ∀ b, s.heap.objs.size ≤ b → s.heap.get? b = none := fun b hb => by
          cases q : s.heap.get? b with
          | none => rfl
          | some o => exact absurd (Nat.lt_of_lt_of_le (Heap.lt_size q) hb) (Nat.lt_irrefl _)
        refine set_update_tups ((Walks.tuple hh3 _ l neI its).toS) s.heap.objs.size nS ks sz few val s.heap hk (new _ (Nat.le_refl _))
          (fun b hb => new b (by rw [List.mem_singleton.mp hb, Heap.size_push]; exact Nat.le_succ _)) hu (its.size - 0) 0 _ (by omega) (Nat.zero_le _)
          ⟨⟨_, Heap.get?_push_size _ rfl, rfl, rfl⟩, (hl1.push _)⟩ (fun b o e => Heap.get?_push_of_some _ (Heap.get?_push_of_some _ e)) ?hS0 ?hR
        case hS0 => exact ⟨[], #[], 0, _, setTR_fresh (Heap.get?_push_of_some _ hS), Got.zero ks⟩
        case hR =>
          intro z3 L es ep t hm hS' g' kp
          obtain ⟨h', g2, d', tk', os'⟩ := z3
          obtain rfl : g2 = s.gens := hm.gens
          obtain rfl : d' = s.drawn := hm.drawn
          obtain rfl : os' = s.os := hm.os
          show wpAny _ _ _ _ _ _
          refine wpAny_pure ?_
          show wpAny _ _ (ret Value.none) _ _ _
          rw [sz] at g'
          exact wpAny_pure ⟨rfl, h', tk', L, es, ep, t, rfl, hS', g', kp⟩
      · cases r2 with
        | error e => exact hr2
        | ok fl2 =>
          cases fl2 with
          | ret r =>
            obtain ⟨rfl, h', tk, L, es, ep, t, rfl, hS', g', k'⟩ := hr2
            repeat (any_goals (first | assumption | wp_step))
            exact h _ _ _ _ _ _ hS' g' k'
          | _ => exact hr2.elim
    | _ => exact hr.elim
end
section
variable {X : Cx} {K : Frg} {Pg : Program} {w : World}
def rSetTT (K : Frg) (P : Program) (w : World) : List V → Hp → VK → Prop := fun xs H Q => ∃ (l : Addr) (ks : List (Addr × List Int)), xs = [V.ref l] ∧ SqT K H l (ks.map fun p => V.ref p.1) ∧ (∀ p ∈ ks, SqT K H p.1 (p.2.map V.int)) ∧ ks.length < 64 ∧
  ∀ (a : Addr) (L : List (Addr × List Int)), H a = none → (∀ p ∈ L, p ∈ ks) → (∀ p ∈ ks, p.2 ∈ L.map (·.2)) → Q (.ref a) (upd H a (SetTO P w a L))
theorem cr_setTT (hc : X.calm = true) (hu : X.A.units + 64 < cLine) : CallR X (.type "set") (rSetTT X.K X.prog X.w) := by
  intro pins s σ H xs us Q I r h
  obtain ⟨l, ks, rfl, hl, hk, hf, q⟩ := h
  rw [Vals.ref1 r]
  obtain ⟨its, rv, pl, hz⟩ := I.tuple hl
  have hn : H s.heap.objs.size = none := I.hok.fresh (Nat.le_refl _)
  refine call_set_tupT (P := X.prog) (w := X.w) ks (I.ok.hd hc) pl (by simpa using refs_of_vals rv) (fun p hp => I.isT (hk p hp)) hf (by omega) fun h' tk L es ep t R g k => ?_
  exact ⟨.ref s.heap.objs.size, upd H s.heap.objs.size (SetTO X.prog X.w s.heap.objs.size L), I.laid (t' := tk) k (Nat.le_refl _) (setTO_new R.t0), rfl,
    q _ L hn (fun p hp => List.mem_of_mem_take (g.sub p hp)) fun p hp => g.all p (by rw [List.take_length]; exact hp)⟩
/-- sorted(set(t)) of a tuple -/
theorem af_ssetT {ρ : Rho} {te : TE} {P : List Da → Prop} (h : AE K te ρ fun d => ∃ cs, d = .tuple (clubs cs) ∧ cs.length < 64 ∧ ∀ out : List (List Int), out.Nodup → (∀ c, c ∈ out ↔ c ∈ cs) → out.Pairwise (fun x y => HT.lexLt y x = false) → P (clubs out)) :
    AF K (tCB (rSortSet K Pg w) (tCons (tCB (rSetTT K Pg w) (tCons te tNil)) tNil)) ρ P := fun σ H H1 s e Q q =>
  h σ H H1 s e _ fun d ⟨cs, ed, hl, p⟩ v H' H2 g dx => by
    subst ed
    cases dx with
    | @tup l xs _ sl x =>
      obtain ⟨ks, e1, e2, e3⟩ := clubs_ks x
      subst e1 e2
      have t2 : ∀ r ∈ ks, SqT K H2 r.1 (r.2.map V.int) := fun r hr => Evl.ex_t g.b (e3 r hr)
      refine ⟨l, ks, rfl, Evl.ex_t g.b sl, t2, by rw [List.length_map] at hl; exact hl, fun a L na sub cov => ?_⟩
      have f1 : Ex H2 (upd H2 a (SetTO Pg w a L)) := Evl.Ex.new na
      refine ⟨a, L, rfl, upd_same, fun r hr => Evl.ex_t f1 (t2 r (sub r hr)), fun L' b pm nd pw nb => ?_⟩
      have ba : b ≠ a := fun z => by
        subst z
        rw [upd_same] at nb
        cases nb
      have nb2 : H2 b = none := by
        rw [upd_ne ba] at nb
        exact nb
      have f2 : Ex (upd H2 a (SetTO Pg w a L)) (upd (upd H2 a (SetTO Pg w a L)) b (.lst (L'.map fun r => V.ref r.1))) := Evl.Ex.new nb
      refine q _ (p (L'.map (·.2)) nd (fun c => ?_) (List.pairwise_map.mpr pw)) b _ H' _ (g.trans (GrN.up (GrN.mk' g.b (f1.trans f2)) fun x rx => (s.gr g).rowAt rx)) (g.old nb2) (Evl.fresh_back g.b nb2) upd_same (ks_clubs fun r hr => e3 r (sub r (pm.mem_iff.mp hr)))
      constructor
      · intro hc
        obtain ⟨r, hr, rfl⟩ := List.mem_map.mp hc
        exact List.mem_map.mpr ⟨r, sub r (pm.mem_iff.mp hr), rfl⟩
      · intro hc
        obtain ⟨r, hr, rfl⟩ := List.mem_map.mp hc
        exact (pm.map (·.2)).mem_iff.mpr (cov r hr)
end
end Ft

/-! part: FtJ -/
set_option Elab.async false
set_option linter.all false
set_option maxRecDepth 100000
/-! What a body knows while it makes lambdas, keeps them in lists, calls them. -/
namespace Ft
open PySem L2 PyProof.Rows
/-- the slots, the table, the lambdas (each at its address), the lists of one's own; the row stands at r -/
structure TL (K : Frg) (Pt : Addr) (q : Str) (cs : List (Str × Addr)) (r : Addr) (ρ : Rho) (σ : L2.St) (ps : List (Addr × Lam)) (ls : List (Addr × List V)) (G : Hp) : Prop where
  has : ∃ Hk, Has K Hk G σ ρ ∧ Ex Hk G ∧ Hk Pt = none ∧ ∀ p ∈ ls, Hk p.1 = none
  tab : LamX.TabS G Pt q
  lam : ∀ p ∈ ps, LamAt G q cs p.2 p.1
  lst : ∀ p ∈ ls, G p.1 = some (.lst p.2) ∧ p.1 ≠ r
  row : ∀ x, Rows σ ρ x → x = r
  rIs : Rows σ ρ r
  own : ∀ (i : Nat) ds, ρ[i]? ≠ some (.own ds)
  hno : ∀ (i : Nat) C fs, ρ[i]? ≠ some (.hal true C fs)
  at_r : ∃ xs, G r = some (.lst xs)
section
variable {K : Frg} {Pt r : Addr} {q : Str} {cs : List (Str × Addr)} {ρ : Rho} {σ : L2.St} {ps : List (Addr × Lam)} {ls : List (Addr × List V)} {G G2 : Hp}
theorem TabS.tbl (t : LamX.TabS G Pt q) : ∃ xs, G Pt = some (.tbl xs) := by
  obtain ⟨xs, h, _⟩ := t
  exact ⟨xs, h⟩
/-- the table stays where all that is no list stays -/
theorem tabS_keep (t : LamX.TabS G Pt q) (k : ∀ b o, (∀ xs, o ≠ .lst xs) → G b = some o → G2 b = some o) : LamX.TabS G2 Pt q := by
  obtain ⟨xs, h1, h2, h3⟩ := t
  refine ⟨xs, k _ _ (fun _ z => by cases z) h1, h2, fun pos cv hc => ?_⟩
  obtain ⟨c, e1, e2⟩ := h3 pos cv hc
  exact ⟨c, e1, k _ _ (fun ys z => by unfold LamX.CodeO at z; cases z) e2⟩
theorem lamAt_keep {l : Lam} {f : Addr} (x : LamAt G q cs l f) (k : ∀ b o, (∀ xs, o ≠ .lst xs) → G b = some o → G2 b = some o) : LamAt G2 q cs l f := by
  obtain ⟨dt, pm, c', ct, a, b, d⟩ := x
  refine ⟨dt, pm, c', ct, k _ _ (fun ys z => by unfold LamO at z; cases z) a, k _ _ (fun ys z => by unfold LamX.CodeO at z; cases z) b, ?_⟩
  unfold DvAt at d ⊢
  cases z : l.dv with
  | none =>
    rw [z] at d
    exact d
  | some i =>
    rw [z] at d
    obtain ⟨t, e1, e2⟩ := d
    exact ⟨t, e1, k _ _ (fun ys z => by cases z) e2⟩
/-- the slots' facts where what is known and the lists stay -/
theorem has_keep {Hk : Hp} (s : Has K Hk G σ ρ) (own : ∀ (i : Nat) ds, ρ[i]? ≠ some (.own ds)) (k : ∀ b o, (∀ ps, o ≠ .tbl ps) → G b = some o → G2 b = some o) : Has K Hk G2 σ ρ where
  len := s.len
  dat := s.dat
  own := fun i ds e => absurd e (own i ds)
  row := fun i e => by
    obtain ⟨b, q, n, sa, x, y, z, ns, e1, e2⟩ := s.row i e
    exact ⟨b, q, n, sa, x, y, z, ns, k _ _ (fun ps w => by cases w) e1, e2⟩
  dis := s.dis
  hal := fun i m C fs e => let ⟨l, q, x⟩ := s.hal i m C fs e; ⟨l, q, x.keep (Evl.Ex.refl _) (fun a o _ n _ => n) fun a o _ nt h1 => k a o nt h1⟩
/-- a lambda is made -/
theorem TL.made {l : Lam} {Q : VK} (T : TL K Pt q cs r ρ σ ps ls G) (h : ∀ f G2, TL K Pt q cs r ρ σ ((f, l) :: ps) ls G2 → Q (.ref f) G2) : tLamM Pt q cs l σ G Q := by
  refine ⟨T.tab, fun f G2 eN eP tb la => h f G2 ?_⟩
  obtain ⟨Hk, hs, ex, nP, nl⟩ := T.has
  obtain ⟨tx, ht⟩ := TabS.tbl T.tab
  have kl : ∀ b xs, G b = some (.lst xs) → G2 b = some (.lst xs) := fun b xs e => eN b _ e fun ys z => by cases z
  refine ⟨⟨Hk, has_keep hs T.own (fun b o n e => eN b o e n), fun b o e => eP b o (fun z => by rw [z, nP] at e; cases e) (ex b o e), nP, nl⟩, tb, fun p hp => ?_, fun p hp => ⟨kl _ _ (T.lst p hp).1, (T.lst p hp).2⟩, T.row, T.rIs, T.own, T.hno, ?_⟩
  · rcases List.mem_cons.mp hp with z | z
    · rw [z]
      exact la
    · exact (T.lam p z).ext eN
  · obtain ⟨xs, e⟩ := T.at_r
    exact ⟨xs, kl _ _ e⟩
/-- the heap grows -/
theorem TL.grow (T : TL K Pt q cs r ρ σ ps ls G) (k : ∀ b o, G b = some o → G2 b = some o) : TL K Pt q cs r ρ σ ps ls G2 := by
  obtain ⟨Hk, hs, ex, nP, nl⟩ := T.has
  refine ⟨⟨Hk, has_keep hs T.own fun b o _ e => k b o e, fun b o e => k _ _ (ex b o e), nP, nl⟩, T.tab.ext k, fun p hp => lamAt_keep (T.lam p hp) fun b o _ e => k b o e, fun p hp => ⟨k _ _ (T.lst p hp).1, (T.lst p hp).2⟩, T.row, T.rIs, T.own, T.hno, ?_⟩
  obtain ⟨xs, e⟩ := T.at_r
  exact ⟨xs, k _ _ e⟩
/-- a new list -/
theorem TL.list {a : Addr} {xs : List V} (T : TL K Pt q cs r ρ σ ps ls G) (n : G a = none) : TL K Pt q cs r ρ σ ps ((a, xs) :: ls) (upd G a (.lst xs)) := by
  have k : ∀ b o, G b = some o → upd G a (.lst xs) b = some o := fun b o e => by rw [upd_ne (ne_of_none e n)]; exact e
  have T2 := T.grow k
  obtain ⟨Hk, hs, ex, nP, nl⟩ := T.has
  refine ⟨⟨Hk, has_keep hs T.own fun b o _ e => k b o e, fun b o e => k _ _ (ex b o e), nP, fun p hp => ?_⟩, T2.tab, T2.lam, fun p hp => ?_, T.row, T.rIs, T.own, T.hno, T2.at_r⟩
  · rcases List.mem_cons.mp hp with z | z
    · rw [z]
      exact Evl.fresh_back ex n
    · exact nl p z
  · rcases List.mem_cons.mp hp with z | z
    · rw [z]
      refine ⟨upd_same, fun y => ?_⟩
      obtain ⟨ys, e⟩ := T.at_r
      have y : a = r := y
      rw [← y, n] at e
      cases e
    · exact T2.lst p z
/-- the list that was made last is written -/
theorem TL.write {a : Addr} {xs ys : List V} (T : TL K Pt q cs r ρ σ ps ((a, xs) :: ls) G) (ne : ∀ p ∈ ls, p.1 ≠ a) : TL K Pt q cs r ρ σ ps ((a, ys) :: ls) (upd G a (.lst ys)) := by
  obtain ⟨Hk, hs, ex, nP, nl⟩ := T.has
  have ha := T.lst _ List.mem_cons_self
  have k : ∀ b o, b ≠ a → G b = some o → upd G a (.lst ys) b = some o := fun b o n e => by rw [upd_ne n]; exact e
  have kn : ∀ b o, (∀ zs, o ≠ .lst zs) → G b = some o → upd G a (.lst ys) b = some o := fun b o n e => k b o (fun z => n xs (by rw [z, ha.1] at e; exact (Option.some.inj e).symm)) e
  refine ⟨⟨Hk, ?_, fun b o e => k _ _ (fun z => by rw [z, nl _ List.mem_cons_self] at e; cases e) (ex b o e), nP, fun p hp => ?_⟩, tabS_keep T.tab kn, fun p hp => lamAt_keep (T.lam p hp) kn, fun p hp => ?_, T.row, T.rIs, T.own, T.hno, ?_⟩
  · refine ⟨hs.len, hs.dat, fun i ds e => absurd e (T.own i ds), fun i e => ?_, hs.dis, fun i m C fs e => let ⟨l, q, x⟩ := hs.hal i m C fs e; ⟨l, q, x.keep (Evl.Ex.refl _) (fun a o _ n _ => n) fun a o nl _ h1 => kn a o nl h1⟩⟩
    obtain ⟨b, qq, n, sa, x, y, z, ns, e1, e2⟩ := hs.row i e
    have br : b = r := T.row b ⟨i, e, qq⟩
    exact ⟨b, qq, n, sa, x, y, z, ns, k _ _ (fun w => ha.2 (by rw [← w, br])) e1, e2⟩
  · rcases List.mem_cons.mp hp with z | z
    · rw [z]
      exact nl (a, xs) List.mem_cons_self
    · exact nl p (List.mem_cons_of_mem _ z)
  · rcases List.mem_cons.mp hp with z | z
    · rw [z]
      exact ⟨upd_same, ha.2⟩
    · have := T.lst p (List.mem_cons_of_mem _ z)
      exact ⟨k _ _ (ne p z) this.1, this.2⟩
  · obtain ⟨zs, e⟩ := T.at_r
    exact ⟨zs, k _ _ (fun w => ha.2 w.symm) e⟩
/-- fewer things -/
theorem TL.less {ps' : List (Addr × Lam)} {ls' : List (Addr × List V)} (T : TL K Pt q cs r ρ σ ps ls G) (h : ∀ p ∈ ps', p ∈ ps) (h' : ∀ p ∈ ls', p ∈ ls) : TL K Pt q cs r ρ σ ps' ls' G := by
  obtain ⟨Hk, hs, ex, nP, nl⟩ := T.has
  exact ⟨⟨Hk, hs, ex, nP, fun p hp => nl p (h' p hp)⟩, T.tab, fun p hp => T.lam p (h p hp), fun p hp => T.lst p (h' p hp), T.row, T.rIs, T.own, T.hno, T.at_r⟩
/-- a slot of which nothing is known is set -/
theorem TL.slot {i : Nat} {v : Option V} (T : TL K Pt q cs r ρ σ ps ls G) (hi : ρ[i]? = some .un) : TL K Pt q cs r ρ (σ.set i v) ps ls G := by
  obtain ⟨Hk, hs, ex, nP, nl⟩ := T.has
  have e : ρ.set i .un = ρ := by
    refine List.ext_getElem? fun j => ?_
    by_cases z : i = j
    · subst z
      have lt : i < ρ.length := (List.getElem?_eq_some_iff.mp hi).1
      rw [List.getElem?_set_self lt, hi]
    · rw [List.getElem?_set_ne z]
  have h2 : Has K Hk G (σ.set i v) ρ := by
    have := has_hide (i := i) (a := v) hs
    rwa [e] at this
  refine ⟨⟨Hk, h2, ex, nP, nl⟩, T.tab, T.lam, T.lst, fun x ⟨j, e1, e2⟩ => ?_, ?_, T.own, T.hno, T.at_r⟩
  · by_cases z : i = j
    · subst z
      rw [hi] at e1
      cases e1
    rw [List.getElem?_set_ne z] at e2
    exact T.row x ⟨j, e1, e2⟩
  · obtain ⟨j, e1, e2⟩ := T.rIs
    exact ⟨j, e1, by rw [List.getElem?_set_ne fun z => by rw [z, e1] at hi; cases hi]; exact e2⟩
/-- what changed is the row at most -/
theorem TL.gr {Hk H' : Hp} (T : TL K Pt q cs r ρ σ ps ls G) (hs : Has K Hk G σ ρ) (nP : Hk Pt = none) (nl : ∀ p ∈ ls, Hk p.1 = none) (g : Gr K (Rows σ ρ) Hk G H' G2) : TL K Pt q cs r ρ σ ps ls G2 := by
  have k : ∀ b o, b ≠ r → G b = some o → G2 b = some o := fun b o n e => g.c b o (fun z => n (T.row b z)) e
  obtain ⟨xr, er⟩ := T.at_r
  have kn : ∀ b o, (∀ zs, o ≠ .lst zs) → G b = some o → G2 b = some o := fun b o n e => k b o (fun z => n xr (by rw [z, er] at e; exact (Option.some.inj e).symm)) e
  obtain ⟨tx, ht⟩ := TabS.tbl T.tab
  refine ⟨⟨H', hs.gr g, g.b, g.d _ _ ht nP, fun p hp => g.d _ _ (T.lst p hp).1 (nl p hp)⟩, tabS_keep T.tab kn, fun p hp => lamAt_keep (T.lam p hp) kn, fun p hp => ⟨k _ _ (T.lst p hp).2 (T.lst p hp).1, (T.lst p hp).2⟩, T.row, T.rIs, T.own, T.hno, ?_⟩
  by_cases z : Rows σ ρ r
  · obtain ⟨_, _, _, _, _, _, y, _⟩ := g.e r z
    exact ⟨_, y⟩
  · exact ⟨xr, g.c r _ z er⟩
/-- a call that raises -/
theorem TL.raises {W : WPX} {ta : TA} {C : Addr} {E : XK} {Q : VK} (T : TL K Pt q cs r ρ σ ps ls G) (h : AA K ta ρ fun ds => W ds (fun _ => False) fun c => c = .ref C) (hE : ∀ G2, TL K Pt q cs r ρ σ ps ls G2 → E (.ref C) none G2) :
    tCallS (spX K W) (L2.WE fun cls d _ H => E cls d H) ta σ G Q := by
  obtain ⟨Hk, hs, ex, nP, nl⟩ := T.has
  have ax : AX K (fun cls d _ H => E cls d H) (tCallS (spX K W) (L2.WE fun cls d _ H => E cls d H) ta) ρ (fun _ => False) (fun c => c = .ref C) := ax_call h
  exact ax σ Hk G hs ex Q (fun d z => z.elim) fun c ec H' H2 g => by
    subst ec
    exact hE H2 (T.gr hs nP nl g)
/-- behind a statement over data -/
def tlO (K : Frg) (Pt : Addr) (q : Str) (cs : List (Str × Addr)) (r : Addr) (u : TS) (D : Ends) : Out → Prop
  | .nx ρ2 => (∀ (i : Nat) ds, ρ2[i]? ≠ some (.own ds)) ∧ (∀ (i : Nat) C fs, ρ2[i]? ≠ some (.hal true C fs)) ∧ (∀ i : Nat, ρ2[i]? = some .row → i = 1) ∧ ∀ σ2 G2, TL K Pt q cs r ρ2 σ2 [] [] G2 → u D σ2 G2
  | .rt d => d = .bool true
  | .bk _ => False
  | .ct _ => False
theorem TL.of_stt {B : Addr → Prop} {Hs H1s Hk : Hp} (s : Stt K B Hs H1s Hk G σ ρ) (own : ∀ (i : Nat) ds, ρ[i]? ≠ some (.own ds)) (one : ∀ i : Nat, ρ[i]? = some .row → i = 1) (rIs : Rows σ ρ r) (nP : Hk Pt = none) (tab : LamX.TabS G Pt q) (hno : ∀ (i : Nat) C fs, ρ[i]? ≠ some (.hal true C fs) := by (intro i C fs h; have := List.mem_of_getElem? h; simp at this)) : TL K Pt q cs r ρ σ [] [] G := by
  obtain ⟨_, _, _, _, _, _, y, _⟩ := s.has.rowAt rIs
  refine ⟨⟨Hk, s.has, s.ex, nP, (fun p hp => nomatch hp)⟩, tab, (fun p hp => nomatch hp), (fun p hp => nomatch hp), fun x ⟨i, e1, e2⟩ => ?_, rIs, own, hno, ⟨_, y⟩⟩
  obtain ⟨j, e3, e4⟩ := rIs
  rw [one j e3] at e4
  rw [one i e1, e4] at e2
  cases e2
  rfl
/-- a statement over data -/
theorem TL.so {t u : TS} {D : Ends} (T : TL K Pt q cs r ρ σ [] [] G) (fin : ∀ H', D.rt (.bl true) H') (so : SO K t ρ (tlO K Pt q cs r u D)) : tSeq t u D σ G := by
  obtain ⟨Hk, hs, ex, nP, nl⟩ := T.has
  obtain ⟨xr, er⟩ := T.at_r
  obtain ⟨tx, ht⟩ := TabS.tbl T.tab
  refine so (Rows σ ρ) Hk G Hk G σ _ ⟨hs, ex, Evl.Ex.refl _, fun x o _ e => e, fun x o _ z => z, fun i ds l e _ => absurd e (T.own i ds), fun i l e z => .inl ⟨i, e, z⟩, fun x z => z, fun i C fs l e _ => absurd e (T.hno i C fs)⟩
    ⟨fun ρ2 p σ2 H' G2 s2 => ?_, fun d p v H' H2 _ dv => ?_, fun _ p => p.elim, fun _ p => p.elim⟩
  · obtain ⟨p1, p0, p2, p3⟩ := p
    have kn : ∀ b o, (∀ zs, o ≠ .lst zs) → G b = some o → G2 b = some o := fun b o n e => s2.c b o (fun z => n xr (by
      have z := T.row b z
      rw [z, er] at e
      exact (Option.some.inj e).symm)) e
    exact p3 σ2 G2 (TL.of_stt s2 p1 p2 (s2.bIn r T.rIs) (s2.d _ _ ht nP) (tabS_keep T.tab kn) p0)
  · have p : d = .bool true := p
    subst p
    cases dv
    exact fin H2
/-! ### the words of lambdas -/
/-- each lambda of ps, called in the slots of σ, raises C -/
def Raise1 (X : Cx) (k : Nat) (C : Addr) (Pt : Addr) (q : Str) (cs : List (Str × Addr)) (r : Addr) (ρ : Rho) (l : Lam) : Prop :=
  ∃ tl : XK → TE, LamGood X k l tl ∧ ∀ (τ : L2.St) (ps : List (Addr × Lam)) (ls : List (Addr × List V)) (G : Hp) (E : XK) (Q2 : VK), TL X.K Pt q cs r ρ τ ps ls G → (∀ G2, TL X.K Pt q cs r ρ τ ps ls G2 → E (.ref C) none G2) → tl E τ G Q2
/-- [g(x) for x in xs]: the words of the lambdas in a list -/
theorem TL.words {X : Cx} {k iw : Nat} {c1 c2 : Value} {r1 r2 wd : Str} {C a : Addr} {Q : Addr → Hp → Prop} (hk : X.K = K) (hq : X.env.qual ++ "<lambda>" = q) (hcs : X.env.cells = cs) (hi : ρ[iw]? = some .un) (few : ps.length ≤ 100)
    (T : TL K Pt q cs r ρ σ ps ((a, ps.map fun p => V.ref p.1) :: ls) G) (hr : ∀ p ∈ ps, Raise1 X k C Pt q cs r ρ p.2)
    (hw : (PySem.W.exmOne K (.ref C) c1 = some true ∧ wd = r1) ∨ (PySem.W.exmOne K (.ref C) c1 = some false ∧ PySem.W.exmOne K (.ref C) c2 = some true ∧ wd = r2))
    (h : ∀ D G2, TL K Pt q cs r ρ σ ps [(D, ps.map fun _ => V.str wd)] G2 → Q D G2) :
    ∀ D, G D = none → ∃ W : Nat → Nat → Hp → Prop, (∃ m, W 0 m (upd G D (.lst []))) ∧ ∀ i m H, W i m H → ((Itl K a).stop i H ∧ Q D H) ∨ ((Itl K a).go i H ∧ ∃ Nx : Hp → Prop, (∀ H', Nx H' → ∃ m', m' < m ∧ W (i + 1) m' H') ∧ ∀ x H', (Itl K a).yld i H x H' → gName iw x (wipe σ [iw]) H' fun σ2 H2 => wipe σ2 [iw] = wipe σ [iw] ∧ tYes σ2 H2 fun b H3 =>
      if b = true then tWord X k c1 c2 r1 r2 iw σ2 H3 fun y H4 => ∃ acc, H4 D = some (.lst acc) ∧ acc.length < sizeLine ∧ Nx (upd H4 D (.lst (acc ++ [y]))) else Nx H3) := fun D hD => by
  subst hk hq hcs
  have aD : a ≠ D := fun z => by
    have := (T.lst _ List.mem_cons_self).1
    rw [show (a, ps.map fun p => V.ref p.1).1 = D from z, hD] at this
    cases this
  refine lc_list (xs := ps.map fun p => V.ref p.1) (fun i H => TL X.K Pt (X.env.qual ++ "<lambda>") X.env.cells r ρ σ ps [(D, (ps.map fun _ => V.str wd).take i), (a, ps.map fun p => V.ref p.1)] H) ?_ ?_ ?_ ?_
  · exact (T.list (xs := []) hD).less (fun p hp => hp) fun p hp => by
      rcases List.mem_cons.mp hp with z | z
      · rw [z]
        exact List.mem_cons_self
      · rw [List.mem_singleton.mp z]
        exact List.mem_cons_of_mem _ List.mem_cons_self
  · exact fun i H _ p => SqL.of (p.lst (a, _) (List.mem_cons_of_mem _ List.mem_cons_self)).1
  · intro i x H hx p
    rw [List.getElem?_map] at hx
    cases hp : ps[i]? with
    | none =>
      rw [hp] at hx
      cases hx
    | some fl =>
      rw [hp] at hx
      have ex : x = V.ref fl.1 := (Option.some.inj hx).symm
      subst ex
      have mem : fl ∈ ps := List.mem_of_getElem? hp
      have lt : i < ps.length := (List.getElem?_eq_some_iff.mp hp).1
      have wlen : iw < (wipe σ [iw]).length := by
        obtain ⟨Hk, hs, _⟩ := T.has
        rw [wipe_length, hs.len]
        exact (List.getElem?_eq_some_iff.mp hi).1
      show wipe ((wipe σ [iw]).set iw (some (V.ref fl.1))) [iw] = wipe σ [iw] ∧ tYes _ H _
      refine ⟨?_, ?_⟩
      · show ((σ.set iw none).set iw (some (V.ref fl.1))).set iw none = σ.set iw none
        rw [List.set_set, List.set_set]
      dsimp only [tYes]
      rw [if_pos rfl]
      have T1 := (p.slot (v := none) hi).slot (v := some (V.ref fl.1)) hi
      obtain ⟨tl, good, rd⟩ := hr fl mem
      refine ⟨fl.1, fl.2, tl, List.getElem?_set_self wlen, p.lam fl mem, good, fun Q2 => rd _ ps _ H _ Q2 T1 fun G2 T2 => ?_⟩
      have T3 : TL X.K Pt (X.env.qual ++ "<lambda>") X.env.cells r ρ σ ps [(D, (ps.map fun _ => V.str wd).take i), (a, ps.map fun p => V.ref p.1)] G2 := by
        have := (T2.slot (v := none) hi).slot (v := (σ[iw]?).getD none) hi
        have e : ((((σ.set iw none).set iw (some (V.ref fl.1))).set iw none).set iw ((σ[iw]?).getD none)) = σ := by
          rw [List.set_set, List.set_set, List.set_set]
          refine List.ext_getElem? fun j => ?_
          by_cases z : iw = j
          · subst z
            have l2 : iw < σ.length := by rwa [wipe_length] at wlen
            rw [List.getElem?_set_self l2, List.getElem?_eq_getElem l2]
            rfl
          · rw [List.getElem?_set_ne z]
        have this : TL X.K Pt (X.env.qual ++ "<lambda>") X.env.cells r ρ ((((σ.set iw none).set iw (some (V.ref fl.1))).set iw none).set iw ((σ[iw]?).getD none)) ps _ G2 := this
        rwa [e] at this
      have done : ∃ acc, G2 D = some (.lst acc) ∧ acc.length < sizeLine ∧ TL X.K Pt (X.env.qual ++ "<lambda>") X.env.cells r ρ σ ps [(D, (ps.map fun _ => V.str wd).take (i + 1)), (a, ps.map fun p => V.ref p.1)] (upd G2 D (.lst (acc ++ [V.str wd]))) := by
        refine ⟨_, (T3.lst _ List.mem_cons_self).1, ?_, ?_⟩
        · refine Nat.lt_of_le_of_lt (?_ : _ ≤ 100) (by decide)
          show ((ps.map fun _ => V.str wd).take i).length ≤ 100
          rw [List.length_take, List.length_map]
          omega
        · have e : (ps.map fun _ => V.str wd).take (i + 1) = (ps.map fun _ => V.str wd).take i ++ [V.str wd] := by
            rw [List.take_add_one, List.getElem?_map, hp]
            rfl
          rw [e]
          exact T3.write fun p hp => by
            rw [List.mem_singleton.mp hp]
            exact aD
      rcases hw with ⟨w1, rfl⟩ | ⟨w1, w2, rfl⟩
      · exact .inl ⟨w1, done⟩
      · exact .inr ⟨w1, w2, done⟩
  · intro H p
    refine h D H (p.less (fun p hp => hp) fun p hp => ?_)
    rw [List.mem_singleton.mp hp, List.length_map]
    have e : (ps.map fun _ => V.str wd).take ps.length = ps.map fun _ => V.str wd := List.take_of_length_le (by rw [List.length_map]; exact Nat.le_refl _)
    rw [e]
    exact List.mem_cons_self
theorem eqv_words (wd : Str) : ∀ n : Nat, PyData.eqvAll (List.replicate n (PyData.str wd)) (List.replicate n (.str wd)) = true
  | 0 => by simp [PyData.eqvAll]
  | n + 1 => by
    have ih := eqv_words wd n
    have e : PyData.eqv (.str wd) (.str wd) = true := by rw [eqv_str]; simp
    rw [List.replicate_succ, PyData.eqvAll, e, ih]
    rfl
theorem dq_words {H : Hp} (wd : Str) : ∀ n : Nat, DqAll K H (List.replicate n (V.str wd)) (List.replicate n (PyData.str wd))
  | 0 => .nil
  | n + 1 => .cons (.str wd) (dq_words wd n)
theorem flat_words (wd : Str) : ∀ n : Nat, (List.replicate n [V.str wd]).flatten = List.replicate n (V.str wd)
  | 0 => rfl
  | n + 1 => by rw [List.replicate_succ, List.flatten_cons, flat_words wd n]; rfl
/-- the words beside [wd] * n -/
theorem TL.beside {D : Addr} {n : Nat} {wd : Str} {R : R2} {P : Da → Prop} {Q : VK} (T : TL K Pt q cs r ρ σ ps [(D, List.replicate n (V.str wd))] G) (hn : n ≤ 60) (hR : RR K R (.list (List.replicate n (.str wd))) (.list (List.replicate n (.str wd))) P)
    (h : ∀ d, P d → ∀ v H' G2, Dq K H' v d → TL K Pt q cs r ρ σ [] [] G2 → Q v G2) : tOp rRep (tLst (tCons (tC (.str wd)) tNil)) (tC (.int (n : Int))) σ G (fun y H2 => R (.ref D) y H2 Q) := by
  refine ⟨by show 1 ≤ sizeLine; decide, fun a na => ?_⟩
  have T1 := T.list (xs := [V.str wd]) na
  refine ⟨a, (n : Int), [V.str wd], rfl, rfl, upd_same, by omega, by omega, ?_, fun b nb => ?_⟩
  · refine Nat.le_trans (?_ : _ ≤ 100) (by decide)
    rw [Int.toNat_natCast]
    show 1 * n ≤ 100
    omega
  rw [Int.toNat_natCast, flat_words]
  have T2 := T1.list (xs := List.replicate n (V.str wd)) nb
  have dD : Dq K (upd (upd G a (.lst [V.str wd])) b (.lst (List.replicate n (V.str wd)))) (.ref D) (.list (List.replicate n (.str wd))) := .lst (T2.lst (D, _) (List.mem_cons_of_mem _ (List.mem_cons_of_mem _ List.mem_cons_self))).1 (dq_words wd n)
  refine hR _ _ _ _ (Evl.Ex.refl _) dD (.lst upd_same (dq_words wd n)) _ fun d hd z H' G2 g dz => ?_
  exact h d hd z H' G2 dz ((T2.less (ps' := []) (ls' := []) (fun p hp => nomatch hp) fun p hp => nomatch hp).grow fun x o e => g.c x o (fun z => z) e)
theorem sh_words (wd : Str) (h : (PyData.str wd).canLay0 = true) (n : Nat) : SeqAt.shaped (.list (List.replicate n (.str wd))) = true := by
  refine (gd_lst (n := 0) fun d hd => ?_).sh (by decide)
  rw [List.eq_of_mem_replicate hd]
  exact ⟨h, by simp [PyData.depth]⟩
theorem one_row {c0 : Cell} {rest : List Cell} (h0 : c0 ≠ .row) (h : ∀ c ∈ rest, c ≠ Cell.row) : ∀ i : Nat, (c0 :: Cell.row :: rest)[i]? = some .row → i = 1
  | 0, e => absurd (Option.some.inj e) h0
  | 1, _ => rfl
  | i + 2, e => absurd rfl (h _ (List.mem_of_getElem? (show rest[i]? = some .row from e)))
/-! ### the steps of terms -/
section
variable {D : Ends} {u t : TS} {te ta tb : TE} {tr : TA} {g : TG} {R : R2} {Q : VK} {Qs : List V → Hp → Prop} {i : Nat} {v : V} {c : TT}
theorem seq_asg (h : te σ G fun x H1 => g x σ H1 fun σ' H2 => u D σ' H2) : tSeq (tAsg te g) u D σ G := h
theorem gname_step {P : L2.St → Hp → Prop} (k : P (σ.set i (some v)) G) : gName i v σ G P := k
theorem lst_step (h : tr σ G fun xs H1 => xs.length ≤ sizeLine ∧ ∀ p, H1 p = none → Q (.ref p) (upd H1 p (.lst xs))) : tLst tr σ G Q := h
theorem cons_step (h : ta σ G fun x H1 => tr σ H1 fun xs H2 => Qs (x :: xs) H2) : tCons ta tr σ G Qs := h
theorem nil_step (h : Qs [] G) : tNil σ G Qs := h
theorem var_step (e : σ[i]? = some (some v)) (h : Q v G) : tVar i σ G Q := ⟨v, e, h⟩
theorem op_step (h : ta σ G fun x H1 => tb σ H1 fun y H2 => R x y H2 Q) : tOp R ta tb σ G Q := h
theorem test_step {Qb : Bool → Hp → Prop} (h : te σ G fun x H1 => ∃ k, x = .bl k ∧ Qb k H1) : tTest te σ G Qb := h
theorem seq_no {t : TS} (h : c σ G fun b H1 => b = false ∧ u D σ H1) (m : ∀ (Q Q' : Bool → Hp → Prop), (∀ b H1, Q b H1 → Q' b H1) → c σ G Q → c σ G Q') : tSeq (tIfS c t tNext) u D σ G :=
  m _ _ (fun b H1 ⟨e, k⟩ => by
    subst e
    exact k) h
theorem seq_if {t : TS} (h : c σ G fun b H1 => if b = true then t { D with nx := u D } σ H1 else u D σ H1) : tSeq (tIfS c t tNext) u D σ G := h
theorem ret_step (h : te σ G D.rt) : tRet te D σ G := h
theorem lc_step {wi : TI} {tt : TT} {vs : List Nat} (h : wi σ G fun J H1 => ∀ D, H1 D = none → ∃ W : Nat → Nat → Hp → Prop, (∃ m, W 0 m (upd H1 D (.lst []))) ∧ ∀ i m H, W i m H →
  (J.stop i H ∧ Q (.ref D) H) ∨ (J.go i H ∧ ∃ Nx : Hp → Prop, (∀ H', Nx H' → ∃ m', m' < m ∧ W (i + 1) m' H') ∧ ∀ x H', J.yld i H x H' → g x (wipe σ vs) H' fun σ2 H2 => wipe σ2 vs = wipe σ vs ∧ tt σ2 H2 fun b H3 =>
    if b = true then te σ2 H3 fun y H4 => ∃ acc, H4 D = some (.lst acc) ∧ acc.length < sizeLine ∧ Nx (upd H4 D (.lst (acc ++ [y]))) else Nx H3)) : tLc wi g tt te vs σ G Q := h
theorem seq_list {Rt : It → Hp → Prop} (h : te σ G fun x H1 => ∃ a, x = .ref a ∧ (∃ xs, SqL K H1 a xs) ∧ Rt (Itl K a) H1) : iSeq K te σ G Rt := .inl h
end
end
end Ft

/-! part: FtQ -/
set_option Elab.async false
set_option linter.all false
set_option maxRecDepth 100000
namespace Ft
open PySem L2 PyProof.Rows
open PySem.W (alike alikeAll keyToks keyToksAll dataLt dataLe AllAlike Sortable EachIs)
/-! ### while -/
def whileO (I : Nat → Rho → Prop) (m : Nat) (O : Out → Prop) : Out → Prop
  | .nx ρ => ∃ m', m' < m ∧ I m' ρ
  | .ct ρ => ∃ m', m' < m ∧ I m' ρ
  | .rt d => O (.rt d)
  | .bk ρ => O (.nx ρ)
theorem whileO_nx {I : Nat → Rho → Prop} {m : Nat} {O : Out → Prop} {ρ : Rho} (h : ∃ m', m' < m ∧ I m' ρ) : whileO I m O (.nx ρ) := h
section
variable {K : Frg} {ρ : Rho} {O : Out → Prop} {c : TT} {tb : TS}
theorem so_while (I : Nat → Rho → Prop) {m0 : Nat} (h0 : I m0 ρ) (hs : ∀ m ρ, I m ρ → AB K c ρ fun b => (b = true → SO K tb ρ (whileO I m O)) ∧ (b = false → O (.nx ρ))) : SO K (tWhile c tb) ρ O := fun B Hs H1s H H1 σ D s f => by
  refine ⟨fun m σ' G => ∃ ρ' Hk, Stt K B Hs H1s Hk G σ' ρ' ∧ I m ρ', ⟨m0, ρ, H, s, h0⟩, ?_⟩
  rintro m σ' G ⟨ρ', Hk, s', i⟩
  refine hs m ρ' i σ' Hk G s'.has s'.ex _ fun b p H3 H4 g => ?_
  cases b with
  | false => exact f.nx ρ' (p.2 rfl) σ' H3 H4 (s'.gr g)
  | true =>
    show if true = true then _ else _
    rw [if_pos rfl]
    refine ⟨fun σ2 G2 => ∃ m', m' < m ∧ ∃ ρ2 Hk2, Stt K B Hs H1s Hk2 G2 σ2 ρ2 ∧ I m' ρ2, fun σ2 G2 ⟨m', l, w⟩ => ⟨m', l, w⟩, p.1 rfl B Hs H1s H3 H4 σ' _ (s'.gr g) ⟨fun ρ2 p σ2 H5 H6 s2 => ?_, fun d p => f.rt d p, fun ρ2 p => f.nx ρ2 p, fun ρ2 p σ2 H5 H6 s2 => ?_⟩⟩
    · obtain ⟨m', l, i2⟩ := p
      exact ⟨m', l, ρ2, H5, s2, i2⟩
    · obtain ⟨m', l, i2⟩ := p
      exact ⟨m', l, ρ2, H5, s2, i2⟩
/-- xs != [], xs a list of one's own -/
theorem ab_ownNe {i : Nat} {ds : List Da} {P : Bool → Prop} (e : ρ[i]? = some (.own ds)) (sh : SeqAt.shaped (.list ds) = true) (p : P (!ds.isEmpty)) : AB K (tTest (tOp (rNeD K) (tVar i) (tLst tNil))) ρ P := fun σ H H1 s ex Q q => by
  obtain ⟨l, xs, eq, n, hl, hx⟩ := s.own i ds e
  refine ⟨_, eq, ?_⟩
  refine ⟨by show 0 ≤ sizeLine; decide, fun a na => ?_⟩
  have al : a ≠ l := fun z => by
    subst z
    rw [hl] at na
    cases na
  have ex1 : Ex H (upd H l (.lst xs)) := Evl.Ex.new n
  have dl : Dq K (upd (upd H l (.lst xs)) a (.lst [])) (.ref l) (.list ds) := by
    have n2 : (upd H l (.lst xs)) a = none := by
      rw [upd_ne al]
      exact Evl.fresh_back ex na
    exact dp_ex (Evl.Ex.new n2) _ (.lst upd_same (dps_ex ex1 ds hx))
  have ex2 : Ex (upd (upd H l (.lst xs)) a (.lst [])) (upd H1 a (.lst [])) := fun x o z => by
    by_cases w : x = a
    · subst w
      rw [upd_same] at z ⊢
      exact z
    · rw [upd_ne w] at z ⊢
      by_cases w2 : x = l
      · subst w2
        rw [upd_same] at z
        rw [hl]
        exact z
      · rw [upd_ne w2] at z
        exact ex x o z
  refine rr_neD (P := fun d => d = .bool (!PyData.eqv (.list ds) (.list []))) sh sh_nilL rfl _ _ _ _ ex2 dl (.lst upd_same .nil) _ fun d hd z G1 G2 gg dz => ?_
  subst hd
  cases dz
  refine ⟨_, rfl, ?_⟩
  rw [eqv_nil]
  have k : ∀ x o, H1 x = some o → G2 x = some o := fun x o z => gg.c x o (fun z => z) (by rw [upd_ne (ne_of_none z na)]; exact z)
  exact q _ p H G2 ⟨Evl.Ex.refl _, fun x o z => k x o (ex x o z), fun x o _ z => k x o z, fun _ _ _ m => m, fun x rx => (s.rowAt rx).keep (Evl.Ex.refl _) (s.rowAt rx).1 fun o z => k x o z⟩
/-- a, b = xs.pop() -/
theorem so_pop {i : Nat} {ds : List Da} {d : Da} {g : TG} {is : List Nat} {ρ' : Rho} (e : ρ[i]? = some (.own (ds ++ [d]))) (a : AT K g is (ρ.set i (.own ds)) d ρ') (o : O (.nx ρ')) : SO K (tAsg (tBM0 K "list" rPop (tVar i)) g) ρ O := fun B Hs H1s H H1 σ D s f => by
  obtain ⟨l, xs, eq, n, hl, hx⟩ := s.has.own i _ e
  have hlen := dps_len hx
  rw [List.length_append, List.length_singleton] at hlen
  obtain ⟨v, ev, dv⟩ := dps_get (i := ds.length) (d := d) hx (by rw [List.getElem?_append_right (Nat.le_refl _), Nat.sub_self]; rfl)
  have hy : DqAll K H xs.dropLast ds := by
    have := dps_take ds.length hx
    rw [List.take_left' rfl] at this
    rw [List.dropLast_eq_take, hlen]
    exact this
  refine ⟨V.ref l, eq, Or.inl ⟨rfl, _, SqL.of hl⟩, l, xs, v, rfl, rfl, hl, by rw [hlen]; exact ev, ?_⟩
  have s2 := s.wrote e eq hy
  exact a.run σ H _ v _ s2.has s2.ex dv fun σ' h' k => f.nx ρ' o σ' H _ (s2.slots h' a.out a.imm a.nrow k)
end
/-- both lists of one's own -/
theorem so_par2 {K : Frg} {ρ : Rho} {O : Out → Prop} {i j : Nat} {ta tb : TE} (hi : ρ[i]? ≠ some .row) (hj : ρ[j]? ≠ some .row) (hij : i ≠ j) (h : AF K ta ρ fun ds => AF K tb ρ fun es => O (.nx ((ρ.set i (.own ds)).set j (.own es)))) : SO K (tPar i j (tCons ta (tCons tb tNil))) ρ O := fun B Hs H1s H H1 σ D s f =>
  h σ H H1 s.has s.ex _ fun ds hd p xs H' H2 g n1 n' hp dx => hd σ H' H2 (s.has.gr g) g.b _ fun es o p2 ys H3 H4 g2 m1 m' hp2 dy => by
    refine ⟨V.ref p, V.ref p2, rfl, ?_⟩
    have nR : ¬ Rows σ ρ p := fun r => by
      obtain ⟨_, _, _, _, _, _, y, _⟩ := s.has.rowAt r
      rw [n1] at y
      cases y
    have s1 := s.gr g
    have s2 := s1.gr g2
    have s3 : Stt K B Hs H1s H3 H4 (σ.set i (some (V.ref p))) (ρ.set i (.own ds)) :=
      s2.owned (H0 := H1) n1 (fun x u r z => (g.trans g2).c x u r z) (fun x u z => s.old z) (fun m c l e m1 q => s.has.there e m1 q) hi (g2.d p _ hp n') (g2.c p _ nR hp) (dps_ex g2.a _ dx)
    refine f.nx _ o _ H3 H4 (s3.owned (H0 := H2) m1 (fun x u r z => ?_) (fun x u z => s1.old z) (fun m c l e m1 q => ?_) ?_ m' hp2 dy)
    · refine g2.c x u (fun ⟨m, e1, e2⟩ => r ⟨m, ?_, ?_⟩) z
      · rw [List.getElem?_set_ne fun w => by subst w; exact hi e1]
        exact e1
      · rw [List.getElem?_set_ne fun w => by subst w; exact hi e1]
        exact e2
    · rcases set_get e with ⟨ei, y, w⟩ | ⟨nn, y⟩
      · subst ei
        rw [List.getElem?_set_self (by rw [s.has.len]; exact w)] at q
        cases q
        exact ⟨_, hp⟩
      · rw [List.getElem?_set_ne fun w => nn w.symm] at q
        exact s1.has.there y m1 q
    · intro y
      rcases set_get y with ⟨_, y', _⟩ | ⟨_, y'⟩
      · cases y'
      · exact hj y'
theorem pe_bm0k {X : Cx} {K : Frg} (hk : X.K = K) {e : Expr} {T : String} {r : V → List V → Hp → VK → Prop} {ta : TE} (h : PE X e (tBM0 X.K T r ta)) : PE X e (tBM0 K T r ta) := by subst hk; exact h
/-! ### statement by statement, over the very heap -/
section
variable {K : Frg} {B : Addr → Prop} {Hs H1s H H1 : Hp} {σ : L2.St} {ρ : Rho} {t u : TS} {D : Ends}
/-- behind a statement: what is left, or the end -/
def rawO (K : Frg) (B : Addr → Prop) (Hs H1s : Hp) (u : TS) (D : Ends) : Out → Prop
  | .nx ρ => ∀ σ H H2, Stt K B Hs H1s H H2 σ ρ → u D σ H2
  | .rt d => d = .bool true
  | .bk _ => False
  | .ct _ => False
theorem rawO_nx (h : ∀ σ H H2, Stt K B Hs H1s H H2 σ ρ → u D σ H2) : rawO K B Hs H1s u D (.nx ρ) := h
theorem raw_seq (so : SO K t ρ (rawO K B Hs H1s u D)) (st : Stt K B Hs H1s H H1 σ ρ) (fin : ∀ H', D.rt (.bl true) H') : tSeq t u D σ H1 :=
  so B Hs H1s H H1 σ _ st ⟨fun ρ' p σ' H' H2 s' => p σ' H' H2 s', fun d p v H' H2 _ dv => by
    have p : d = .bool true := p
    subst p
    cases dv
    exact fin H2, fun _ p => p.elim, fun _ p => p.elim⟩
end
def spLawT (K : Frg) (Pt : Addr) : Sp := fun vs H Q _ => ∃ (a : Addr) (ns : List Int), vs = [.ref a] ∧ SqL K H a (ns.map V.int) ∧ ns.length ≤ 63 ∧ H Pt = some (.tbl #[]) ∧ ∀ H', Q (.bl true) H'
/-- the known heap at the start: all but the table -/
def hideT (H : Hp) (Pt : Addr) : Hp := fun b => if b = Pt then none else H b
theorem enterT {K : Frg} {N : List Str} {n : Nat} (hN : N.length = n + 2) {a p Pt : Addr} {ns : List Int} {z : Int} {H : Hp} (hs : SqL K H a (ns.map V.int)) (hl : ns.length ≤ 63) (hT : H Pt = some (.tbl #[]))
    (hp : H p = none) : Stt K (fun _ => False) (hideT H Pt) H (hideT H Pt) (upd H p (.lst [.ref a, .int 0, .int z, .int 0])) ((start N [.ref a]).set 1 (some (.ref p))) (.un :: .row :: List.replicate n .un) := by
  have es : (start N [V.ref a]).set 1 (some (.ref p)) = some (.ref a) :: some (.ref p) :: List.replicate n none := by
    unfold L2.start
    rw [hN]
    rfl
  rw [es]
  have sub : Ex (hideT H Pt) H := fun x o e => by
    unfold hideT at e
    split at e
    · cases e
    · exact e
  have hs2 : SqL K (hideT H Pt) a (ns.map V.int) := by
    have ne : ∀ {o : HO}, H a = some o → (∀ ps, o ≠ .tbl ps) → hideT H Pt a = some o := fun {o} e m => by
      unfold hideT
      rw [if_neg fun y => m #[] (by rw [y, hT] at e; exact (Option.some.inj e).symm)]
      exact e
    rcases hs with (h | ⟨o, h⟩) | h
    · exact .inl (.inl (ne h fun ps y => by cases y))
    · exact .inl (.inr ⟨o, ne h fun ps y => by cases y⟩)
    · exact .inr h
  have hp2 : hideT H Pt p = none := by
    unfold hideT
    split
    · rfl
    · exact hp
  have ex2 : Ex (hideT H Pt) (upd H p (.lst [.ref a, .int 0, .int z, .int 0])) := fun x o e => by
    rw [upd_ne (ne_of_none (sub x o e) hp)]
    exact sub x o e
  have rx : RowAt K (hideT H Pt) (upd H p (.lst [.ref a, .int 0, .int z, .int 0])) p := ⟨hp2, a, 0, z, 0, ns, upd_same, by decide, hs2, hl⟩
  have none2 : ∀ {i : Nat} {c : Cell}, (Cell.un :: .row :: List.replicate n .un)[i]? = some c → (i = 1 ∧ c = .row) ∨ c = .un := fun {i c} h => by
    rcases cons_get h with ⟨_, z⟩ | ⟨j, ej, h1⟩
    · exact .inr z
    · rcases cons_get h1 with ⟨e0, z⟩ | ⟨j', _, h2⟩
      · exact .inl ⟨by omega, z⟩
      · rw [List.getElem?_replicate] at h2
        split at h2
        · cases h2
          exact .inr rfl
        · cases h2
  refine ⟨⟨by simp, fun i d e => ?_, fun i d e => ?_, fun i e => ?_, fun i j c c' l ne ei ej mi mj => ?_, fun i m C fs e => ?_⟩, ex2, Evl.Ex.refl _, fun x o _ e => by rw [upd_ne (ne_of_none e hp)]; exact e, fun x o _ e => e, fun i d l e => ?_, fun i l e q' => ?_, fun x z => z.elim, fun i C fs l e => ?_⟩
  · rcases none2 e with ⟨_, z⟩ | z <;> cases z
  · rcases none2 e with ⟨_, z⟩ | z <;> cases z
  · rcases none2 e with ⟨rfl, _⟩ | z
    · exact ⟨p, rfl, rx⟩
    · cases z
  · rcases none2 ei with ⟨rfl, _⟩ | z
    · rcases none2 ej with ⟨rfl, _⟩ | z
      · exact absurd rfl ne
      · subst z
        exact mj.elim
    · subst z
      exact mi.elim
  · rcases none2 e with ⟨_, z⟩ | z <;> cases z
  · rcases none2 e with ⟨_, z⟩ | z <;> cases z
  · rcases none2 e with ⟨rfl, _⟩ | z
    · have q' : some (some (V.ref p)) = some (some (V.ref l)) := q'
      cases q'
      exact .inr hp
    · cases z
  · rcases none2 e with ⟨_, z⟩ | z <;> cases z
theorem af_lstRg2 {K : Frg} {ρ : Rho} {te tf : TE} {P : List Da → Prop} (h : AE K te ρ fun d => AE K tf ρ fun e => ∃ a b : Int, d = .int a ∧ e = .int b ∧ 0 ≤ a ∧ a ≤ b ∧ b ≤ 100000 ∧ P (nums (fromTo a b))) : AF K (tLstRg (tRg2 te tf)) ρ P := fun σ H H1 s e Q q =>
  h σ H H1 s e _ fun d hd v H' H2 g dx => hd σ H' H2 (s.gr g) g.b _ fun e' ⟨a, b, ed, ee, h0, h1, h2, p⟩ u H3 H4 g2 dy => by
    subst ed ee
    cases dx
    cases dy
    refine ⟨a, b, rfl, rfl, RgOk.of_le (by omega) (by omega) (by omega) (by omega), fun l nl => ?_⟩
    have gg := g.trans g2
    exact q _ p l _ H3 _ (gg.trans (GrN.up (GrN.fresh g2.b nl) fun b rb => ((s.gr g).gr g2).rowAt rb)) (gg.old nl) (Evl.fresh_back g2.b nl) upd_same (rg_nums2 a b)
theorem len_clubs {cs : List (List Int)} : ((clubs cs).length : Int) = (cs.length : Int) := by rw [List.length_map]
theorem so_no {K : Frg} {ρ : Rho} {O : Out → Prop} {t u : TS} {c : TT} (h : AB K c ρ fun b => b = false) (k : SO K u ρ O) : SO K (tIfS c t u) ρ O := so_if (h.imp fun b e => ⟨fun z => absurd (e.symm.trans z) (by decide), fun _ => k⟩)
theorem comp_none {K : Frg} {ρ : Rho} {g : TG} {is : List Nat} {tt : TT} {te : TE} {P : List Da → Prop} : ∀ ds : List Da, (∀ d ∈ ds, ∃ ρ1, AT K g is ρ d ρ1 ∧ AB K tt ρ1 fun b => b = false) → P [] → CompD K g is tt te ρ ds P
  | [], _, p => p
  | d :: ds, h, p => by
    obtain ⟨ρ1, a, b⟩ := h d List.mem_cons_self
    exact ⟨ρ1, a, b.imp fun k e => ⟨fun z => absurd (e.symm.trans z) (by decide), fun _ => comp_none ds (fun x hx => h x (List.mem_cons_of_mem _ hx)) p⟩⟩
theorem passesX {X : Cx} {Kp : Value → Shared → Prop} {E₁ : Value → Shared → Prop} (hx : X.xe = fun e s' => wpAny (model X.prog X.w) X.A (leaving X.env e) (fun _ s'' => Kp e s'') E₁ s') : PassesOwn (model X.prog X.w) X.A X.env X.xe := by
  rw [hx]
  exact PassesOwn.leaving
def spLaw (K : Frg) : Sp := fun vs H Q _ => ∃ (a : Addr) (ns : List Int), vs = [.ref a] ∧ SqL K H a (ns.map V.int) ∧ ns.length ≤ 63 ∧ ∀ H', Q (.bl true) H'
theorem enter {K : Frg} {N : List Str} {n : Nat} (hN : N.length = n + 2) {t : TS} {a p : Addr} {ns : List Int} {z : Int} {H : Hp} {Q : VK} (so : SO K t (.un :: .row :: List.replicate n .un) (retO fun d => d = .bool true)) (hs : SqL K H a (ns.map V.int)) (hl : ns.length ≤ 63)
    (hp : H p = none) (q : ∀ H', Q (.bl true) H') : t { nx := fun _ H' => Q .non H', rt := Q } ((start N [.ref a]).set 1 (some (.ref p))) (upd H p (.lst [.ref a, .int 0, .int z, .int 0])) := by
  have es : (start N [V.ref a]).set 1 (some (.ref p)) = some (.ref a) :: some (.ref p) :: List.replicate n none := by
    unfold L2.start
    rw [hN]
    rfl
  rw [es]
  have rx : RowAt K H (upd H p (.lst [.ref a, .int 0, .int z, .int 0])) p := ⟨hp, a, 0, z, 0, ns, upd_same, by decide, hs, hl⟩
  have none2 : ∀ {i : Nat} {c : Cell}, (Cell.un :: .row :: List.replicate n .un)[i]? = some c → (i = 1 ∧ c = .row) ∨ c = .un := fun {i c} h => by
    rcases cons_get h with ⟨_, z⟩ | ⟨j, ej, h1⟩
    · exact .inr z
    · rcases cons_get h1 with ⟨e0, z⟩ | ⟨j', _, h2⟩
      · exact .inl ⟨by omega, z⟩
      · rw [List.getElem?_replicate] at h2
        split at h2
        · cases h2
          exact .inr rfl
        · cases h2
  refine so (fun _ => False) H H H _ _ _ ⟨⟨by simp, fun i d e => ?_, fun i d e => ?_, fun i e => ?_, fun i j c c' l ne ei ej mi mj => ?_, fun i m C fs e => ?_⟩, Evl.Ex.new hp, Evl.Ex.refl H, fun x o _ e => by rw [upd_ne (ne_of_none e hp)]; exact e, fun x o _ e => e, fun i d l e => ?_, fun i l e q' => ?_, fun x z => z.elim, fun i C fs l e => ?_⟩ ⟨fun ρ' p' => absurd (show PyData.none = PyData.bool true from p') (fun h => by cases h), fun d p' v H' H2 g dv => ?_, fun ρ' p' => (show False from p').elim, fun ρ' p' => (show False from p').elim⟩
  · rcases none2 e with ⟨_, z⟩ | z <;> cases z
  · rcases none2 e with ⟨_, z⟩ | z <;> cases z
  · rcases none2 e with ⟨rfl, _⟩ | z
    · exact ⟨p, rfl, rx⟩
    · cases z
  · rcases none2 ei with ⟨rfl, _⟩ | z
    · rcases none2 ej with ⟨rfl, _⟩ | z
      · exact absurd rfl ne
      · subst z
        exact mj.elim
    · subst z
      exact mi.elim
  · rcases none2 e with ⟨_, z⟩ | z <;> cases z
  · rcases none2 e with ⟨_, z⟩ | z <;> cases z
  · rcases none2 e with ⟨rfl, _⟩ | z
    · have q' : some (some (V.ref p)) = some (some (V.ref l)) := q'
      cases q'
      exact .inr hp
    · cases z
  · rcases none2 e with ⟨_, z⟩ | z <;> cases z
  · have p' : d = PyData.bool true := p'
    subst p'
    cases dv
    exact q H2
theorem enterL {K : Frg} {N : List Str} {n : Nat} (hN : N.length = n + 2) {rest : TS} {a : Addr} {ns : List Int} {z : Int} {H : Hp} {Q : VK} (so : SO K rest (.un :: .row :: List.replicate n .un) (retO fun d => d = .bool true)) (hs : SqL K H a (ns.map V.int)) (hl : ns.length ≤ 63) (q : ∀ H', Q (.bl true) H') :
    tSeq (tAsg (tLst (tCons (tVar 0) (tCons (tC (.int 0)) (tCons (tC (.int z)) (tCons (tC (.int 0)) tNil))))) (gName 1)) rest { nx := fun _ H' => Q .non H', rt := Q } (start N [.ref a]) H := by
  have es : (start N [V.ref a])[0]? = some (some (V.ref a)) := by
    unfold L2.start
    rw [hN]
    rfl
  refine ⟨_, es, by show 4 ≤ sizeLine; decide, fun p hp => ?_⟩
  exact enter hN so hs hl hp q
/-! ### the order of data -/
section
variable {x y z : Da}
theorem lt_irr (x : Da) : dataLt x x = false := PyProof.Rows.lex_irrefl _
theorem lt_trans' (h : dataLt x y = true) (k : dataLt y z = true) : dataLt x z = true := PyProof.Rows.lex_trans _ _ _ h k
theorem lt_neg (h : dataLt y x = false) (k : dataLt z y = false) : dataLt z x = false := by
  cases e : dataLt z x with
  | false => rfl
  | true =>
    rcases PyProof.Rows.lex_negTrans (O := itemOrd) (keyToks z) (keyToks y) (keyToks x) e with w | w
    · exact absurd (k.symm.trans w) (by decide)
    · exact absurd (h.symm.trans w) (by decide)
theorem lt_asym (h : dataLt x y = true) : dataLt y x = false := by
  cases e : dataLt y x with
  | false => rfl
  | true => exact absurd ((lt_irr x).symm.trans (lt_trans' h e)) (by decide)
theorem le_trans' (x y z : Da) (h : dataLe false id x y = true) (k : dataLe false id y z = true) : dataLe false id x z = true := by
  have h : (!dataLt y x) = true := h
  have k : (!dataLt z y) = true := k
  show (!dataLt z x) = true
  rw [Bool.not_eq_true'] at h k ⊢
  exact lt_neg h k
theorem le_total' (x y : Da) : (dataLe false id x y || dataLe false id y x) = true := by
  show ((!dataLt y x) || !dataLt x y) = true
  cases e : dataLt x y with
  | false => simp
  | true => rw [lt_asym e]; rfl
theorem sort_pw (ds : List Da) : (ds.mergeSort (dataLe false id)).Pairwise fun x y => dataLt y x = false := by
  refine (List.pairwise_mergeSort le_trans' le_total' ds).imp fun {a b} h => ?_
  have h : (!dataLt b a) = true := h
  simpa using h
theorem lt_cons {x y : Da} (h : alike x y = true) (xs ys : List Da) : dataLt (.tuple (x :: xs)) (.tuple (y :: ys)) = if PyData.eqv x y = true then dataLt (.tuple xs) (.tuple ys) else dataLt x y := by
  rw [PySem.W.dataLt_tuple, PySem.W.dataLt_cons h, PySem.W.dataLt_tuple]
theorem lt_nil_cons {y : Da} {ys : List Da} : dataLt (.tuple []) (.tuple (y :: ys)) = true := by
  rw [PySem.W.dataLt_tuple]
  simp only [keyToksAll]
  rw [PyProof.Rows.lex_diff (O := itemOrd) (by simp)]
  rfl
theorem lt_cons_nil {y : Da} {ys : List Da} : dataLt (.tuple (y :: ys)) (.tuple []) = false := lt_asym lt_nil_cons
theorem alike_nums : ∀ ns ms : List Int, alikeAll (nums ns) (nums ms) = true := PySem.W.alike_ints
theorem alike_tupI (ns ms : List Int) : alike (tupI ns) (tupI ms) = true := by
  rw [alike]
  exact alike_nums ns ms
theorem alike_clubs : ∀ cs es : List (List Int), alikeAll (clubs cs) (clubs es) = true
  | [], _ => by simp [alikeAll]
  | c :: cs, [] => by simp [alikeAll]
  | c :: cs, e :: es => by
    show alikeAll (tupI c :: clubs cs) (tupI e :: clubs es) = true
    rw [alikeAll, alike_tupI, alike_clubs cs es]
    rfl
theorem lt_tupI : ∀ ns ms : List Int, dataLt (tupI ns) (tupI ms) = HT.lexLt ns ms
  | [], [] => lt_irr _
  | [], m :: ms => lt_nil_cons
  | n :: ns, [] => lt_cons_nil
  | n :: ns, m :: ms => by
    show dataLt (.tuple (.int n :: nums ns)) (.tuple (.int m :: nums ms)) = _
    rw [lt_cons (by simp [alike]), HT.lexLt_cons, eqv_int, PySem.W.dataLt_int]
    by_cases e : n = m
    · rw [if_pos (by simp [e]), if_pos e]
      exact lt_tupI ns ms
    · rw [if_neg (by simp [e]), if_neg e]
/-- the order of rows of clubs -/
def ltC (a b : List (List Int)) : Bool := dataLt (.tuple (clubs a)) (.tuple (clubs b))
theorem ltC_cons (c d : List Int) (a b : List (List Int)) : ltC (c :: a) (d :: b) = if c = d then ltC a b else HT.lexLt c d := by
  show dataLt (.tuple (tupI c :: clubs a)) (.tuple (tupI d :: clubs b)) = _
  rw [lt_cons (alike_tupI c d), eqv_tupI, lt_tupI]
  by_cases e : c = d
  · rw [if_pos (by simp [e]), if_pos e]
    rfl
  · rw [if_neg (by simp [e]), if_neg e]
theorem ltC_self (a : List (List Int)) : ltC a a = false := lt_irr _
theorem ltC_nil (a : List (List Int)) : ltC a [] = false := by
  cases a with
  | nil => exact lt_irr _
  | cons c a => exact lt_cons_nil
theorem ltC_nil_cons (c : List Int) (a : List (List Int)) : ltC [] (c :: a) = true := lt_nil_cons
theorem lexI_conn : ∀ a b : List Int, HT.lexLt a b = false → HT.lexLt b a = false → a = b
  | [], [], _, _ => rfl
  | [], b :: bs, h, _ => by rw [HT.lexLt_nil_cons] at h; cases h
  | a :: as, [], _, h => by rw [HT.lexLt_nil_cons] at h; cases h
  | a :: as, b :: bs, h, k => by
    rw [HT.lexLt_cons] at h k
    by_cases e : a = b
    · subst e
      rw [if_pos rfl] at h k
      rw [lexI_conn as bs h k]
    · rw [if_neg e] at h
      rw [if_neg fun z => e z.symm] at k
      have := of_decide_eq_false h
      have := of_decide_eq_false k
      omega
theorem ltC_conn : ∀ a b : List (List Int), ltC a b = false → ltC b a = false → a = b
  | [], [], _, _ => rfl
  | [], b :: bs, h, _ => absurd ((ltC_nil_cons b bs).symm.trans h) (by decide)
  | a :: as, [], _, h => absurd ((ltC_nil_cons a as).symm.trans h) (by decide)
  | a :: as, b :: bs, h, k => by
    rw [ltC_cons] at h k
    by_cases e : a = b
    · subst e
      rw [if_pos rfl] at h k
      rw [ltC_conn as bs h k]
    · rw [if_neg e] at h
      rw [if_neg fun z => e z.symm] at k
      exact absurd (lexI_conn a b h k) e
theorem lt_town {n : Int} (a b : List (List Int)) : dataLt (townD n a) (townD n b) = ltC a b := by
  show dataLt (.tuple [.int n, .tuple (clubs a)]) (.tuple [.int n, .tuple (clubs b)]) = _
  rw [lt_cons (by simp [alike]), eqv_int, if_pos (by simp), lt_cons (by rw [alike]; exact alike_clubs a b)]
  by_cases e : PyData.eqv (.tuple (clubs a)) (.tuple (clubs b)) = true
  · rw [if_pos e, lt_irr]
    show false = dataLt (.tuple (clubs a)) (.tuple (clubs b))
    have := (PySem.W.toks_eqv (.tuple (clubs a)) (.tuple (clubs b)) (by rw [alike]; exact alike_clubs a b)).1 e
    unfold dataLt
    rw [this]
    exact (PyProof.Rows.lex_irrefl _).symm
  · rw [if_neg e]
    rfl
theorem sortedC_uniq : ∀ {a b : List (List (List Int))}, a.Perm b → a.Pairwise (fun x y => ltC y x = false) → b.Pairwise (fun x y => ltC y x = false) → a = b
  | [], b, p, _, _ => (List.nil_perm.mp p).symm
  | x :: a, [], p, _, _ => absurd p.length_eq (by simp)
  | x :: a, y :: b, p, h, k => by
    have h' := List.pairwise_cons.mp h
    have k' := List.pairwise_cons.mp k
    have e : x = y := by
      rcases List.mem_cons.mp (p.mem_iff.mp (List.mem_cons_self (a := x))) with z | z
      · exact z
      · rcases List.mem_cons.mp (p.mem_iff.mpr (List.mem_cons_self (a := y))) with z' | z'
        · exact z'.symm
        · exact ltC_conn x y (k'.1 x z) (h'.1 y z')
    subst e
    rw [sortedC_uniq (List.Perm.cons_inv p) h'.2 k'.2]
end
/-! ### sorted of any data; < of any data -/
def rSortD (K : Frg) : List V → Hp → VK → Prop := fun vs H Q => ∃ (a : Addr) (ks : List (V × Da)), vs = [V.ref a] ∧ SqL K H a (ks.map (·.1)) ∧ (∀ p ∈ ks, Dp K H p.1 p.2) ∧ AllAlike (ks.map (·.2)) ∧ Sortable (ks.map (·.2)) ∧ (∀ p ∈ ks, p.2.depth ≤ 60) ∧
  ∀ l, H l = none → Q (V.ref l) (upd H l (.lst ((ks.mergeSort (dataLe false (·.2))).map (·.1))))
theorem each_vals {us : List Value} : ∀ {ks : List (V × Da)}, Vals (ks.map (·.1)) us → EachIs (fun v (p : V × Da) => RelV p.1 v) us ks := by
  induction us with
  | nil =>
    intro ks r
    cases ks with
    | nil => exact .nil
    | cons k ks => cases r
  | cons u us ih =>
    intro ks r
    cases ks with
    | nil => cases r
    | cons k ks =>
      have r : Vals (k.1 :: ks.map (·.1)) (u :: us) := r
      cases r with
      | cons a b => exact .cons a (ih b)
theorem vals_each {us : List Value} : ∀ {ks : List (V × Da)}, EachIs (fun v (p : V × Da) => RelV p.1 v) us ks → Vals (ks.map (·.1)) us := by
  induction us with
  | nil =>
    intro ks r
    cases r
    exact .nil
  | cons u us ih =>
    intro ks r
    cases r with
    | cons a b => exact .cons a (ih b)
theorem each_reads {X : Cx} {pins : _} {σ : L2.St} {H : Hp} {s : Shared} (I : Inv X pins σ H s) : ∀ {us : List Value} {ks : List (V × Da)}, (∀ p ∈ ks, Dp X.K H p.1 p.2) → EachIs (fun v (p : V × Da) => RelV p.1 v) us ks → EachIs (fun v (p : V × Da) => ∃ as, Reads s.heap v p.2 as) us ks
  | _, _, _, .nil => .nil
  | _, _, h, .cons a b => .cons (Dp.reads I _ _ _ (h _ List.mem_cons_self) a) (each_reads I (fun p hp => h p (List.mem_cons_of_mem _ hp)) b)
theorem call_sortD {X : Cx} {K : Frg} (hk : X.K = K) (hu : X.A.units + 64 < cLine) : CallR X (.builtin "sorted") (rSortD K) := by
  subst hk
  intro pins s σ H vs us Q I r h
  obtain ⟨a, ks, rfl, hL, hd, hal, hso, hdep, q⟩ := h
  have e1 := Vals.ref1 r
  subst e1
  obtain ⟨its, rv, pl, hz⟩ := I.list hL
  rw [List.length_map] at hz
  have ev := each_vals rv
  refine PySem.W.sorted_data (enc := fun p : V × Da => p.2) pl.isList ev (each_reads I hd ev) hal hso hz (fun b hb => by have := hdep b hb; omega) fun out hl he => ?_
  obtain ⟨e, hse⟩ := PyProof.Rows.sortedAll_at s.heap its out.toArray
  have hn : s.heap.objs.size ≤ s.heap.objs.size + 1 := Nat.le_succ _
  refine ⟨V.ref (s.heap.objs.size + 1), _, I.laid (t' := s.toks) (o := .lst ((ks.mergeSort (dataLe false (·.2))).map (·.1))) (fun b o q => PyProof.Rows.sortedAll_old q) hn ⟨?_, out, e, vals_each he, hse⟩, rfl, q _ (I.hok.fresh hn)⟩
  rw [List.length_map, List.length_mergeSort]
  exact hz
section
variable {K : Frg}
theorem zip_dq {H : Hp} : ∀ {xs : List V} {ds : List Da}, DqAll K H xs ds → (xs.zip ds).map (·.1) = xs ∧ (xs.zip ds).map (·.2) = ds ∧ ∀ p ∈ xs.zip ds, Dq K H p.1 p.2
  | _, [], h => by
    cases h
    exact ⟨rfl, rfl, fun p hp => nomatch hp⟩
  | _, d :: ds, h => by
    cases h with
    | cons a b =>
      obtain ⟨e1, e2, e3⟩ := zip_dq b
      refine ⟨congrArg _ e1, congrArg _ e2, fun p hp => ?_⟩
      rcases List.mem_cons.mp hp with z | z
      · subst z
        exact a
      · exact e3 p z
theorem pairs_dq {H : Hp} : ∀ {ks : List (V × Da)}, (∀ p ∈ ks, Dq K H p.1 p.2) → DqAll K H (ks.map (·.1)) (ks.map (·.2))
  | [], _ => .nil
  | k :: ks, h => .cons (h k List.mem_cons_self) (pairs_dq fun p hp => h p (List.mem_cons_of_mem _ hp))
theorem rf_sortD {ds : List Da} {P : List Da → Prop} (hal : AllAlike ds) (hso : Sortable ds) (hdep : ∀ d ∈ ds, d.depth ≤ 60) (lay : ∀ d ∈ ds, d.canLay0 = true) (p : ∀ out : List Da, out.Perm ds → out.Pairwise (fun x y => dataLt y x = false) → P out) : RF K (rSortD K) [.list ds] P := fun H H1 vs e dv Q q => by
  cases dv with
  | cons a b =>
    cases b
    cases a with
    | @lst a xs _ s x =>
      obtain ⟨e1, e2, e3⟩ := zip_dq x
      have mem : ∀ r ∈ xs.zip ds, r.2 ∈ ds := fun r hr => by
        rw [← e2]
        exact List.mem_map.mpr ⟨r, hr, rfl⟩
      refine ⟨a, xs.zip ds, rfl, by rw [e1]; exact SqL.of (e _ _ s), fun r hr => (dp_ex e _ (e3 r hr)).dp _ (lay _ (mem r hr)), by rw [e2]; exact hal, by rw [e2]; exact hso, fun r hr => hdep _ (mem r hr), fun l n => ?_⟩
      have pm : ((xs.zip ds).mergeSort (dataLe false (·.2))).Perm (xs.zip ds) := List.mergeSort_perm _ _
      refine q _ (p (((xs.zip ds).mergeSort (dataLe false (·.2))).map (·.2)) (by have := pm.map (·.2); rwa [e2] at this) ?_) l _ H _ (GrN.fresh e n) n (Evl.fresh_back e n) upd_same (pairs_dq fun r hr => e3 r (pm.mem_iff.mp hr))
      refine List.pairwise_map.mpr ((List.pairwise_mergeSort (le := dataLe false fun r : V × Da => r.2) (fun a b c h k => le_trans' a.2 b.2 c.2 h k) (fun a b => le_total' a.2 b.2) (xs.zip ds)).imp fun {a b} h => ?_)
      have h : (!dataLt b.2 a.2) = true := h
      simpa using h
def rLtD (K : Frg) : R2 := fun x y H Q => ∃ d e, Dp K H x d ∧ Dp K H y e ∧ alike d e = true ∧ d ≠ .none ∧ d.depth ≤ 60 ∧ Q (.bl (dataLt d e)) H
theorem op_ltD {X : Cx} {K : Frg} (hk : X.K = K) (hu : X.A.units + 64 < cLine) : OpR X (compareOp .Lt) (rLtD K) := by
  subst hk
  intro pins s σ H x y v u Q I rx ry h
  obtain ⟨d, e, hd, he, al, nn, dep, q⟩ := h
  obtain ⟨as, r1⟩ := Dp.reads I d x v hd rx
  obtain ⟨bs, r2⟩ := Dp.reads I e y u he ry
  exact PySem.W.lt_data r1 r2 al nn (Nat.lt_of_le_of_lt (Nat.add_le_add_left (Nat.le_trans (Nat.min_le_left _ _) dep) _) (by omega)) ⟨.bl _, H, I, rfl, q⟩
theorem rr_ltD {x y : Da} {P : Da → Prop} (hx : SeqAt.shaped x = true) (hy : SeqAt.shaped y = true) (al : alike x y = true) (nn : x ≠ .none) (dep : x.depth ≤ 60) (p : P (.bool (dataLt x y))) : RR K (rLtD K) x y P := fun H H1 v u e dv du Q q =>
  ⟨x, y, (dp_ex e x dv).dp _ (sh_lay hx), (dp_ex e y du).dp _ (sh_lay hy), al, nn, dep, q _ p _ H H1 (GrN.rf e) (.bl _)⟩
mutual
theorem eqv_self : ∀ d : Da, d.canLay0 = true → PyData.eqv d d = true
  | .none, _ => by simp [PyData.eqv]
  | .bool _, _ => by simp [PyData.eqv]
  | .int _, _ => by simp [PyData.eqv]
  | .str _, _ => by simp [PyData.eqv]
  | .list ds, h => by
    rw [PyData.eqv]
    exact eqvAll_self ds (by simpa only [PyData.canLay0] using h)
  | .tuple ds, h => by
    rw [PyData.eqv]
    exact eqvAll_self ds (by simpa only [PyData.canLay0] using h)
  | .dict _, h => by simp [PyData.canLay0] at h
theorem eqvAll_self : ∀ ds : List Da, PyData.canLayAll0 ds = true → PyData.eqvAll ds ds = true
  | [], _ => by simp [PyData.eqvAll]
  | d :: ds, h => by
    simp only [PyData.canLayAll0, Bool.and_eq_true] at h
    rw [PyData.eqvAll, eqv_self d h.1, eqvAll_self ds h.2]
    rfl
end
theorem rr_ne_is {x y : Da} {P : Da → Prop} (sh : SeqAt.shaped y = true) (e : x = y) (p : P (.bool false)) : RR K (rNeD K) x y P := by
  subst e
  exact rr_neD sh sh (by rw [eqv_self x (sh_lay sh)]; exact p)
theorem rr_eq_is {x y : Da} {P : Da → Prop} (sh : SeqAt.shaped y = true) (e : x = y) (p : P (.bool true)) : RR K (rEqD K) x y P := by
  subst e
  exact rr_eqD sh sh (by rw [eqv_self x (sh_lay sh)]; exact p)
/-! ### towns -/
theorem town_lay (n : Int) (cs : List (List Int)) : (townD n cs).canLay0 = true ∧ (townD n cs).depth ≤ 3 := gd_town
/-- sorted of a list of towns of so many people -/
theorem rf_sortTowns {n : Int} {ts : List (List (List Int))} {P : List Da → Prop} (p : ∀ out : List (List (List Int)), out.Perm ts → out.Pairwise (fun x y => ltC y x = false) → P (out.map (townD n))) : RF K (rSortD K) [.list (ts.map (townD n))] P := by
  refine rf_sortD ?_ (.inl fun d hd => ?_) (fun d hd => ?_) (fun d hd => ?_) fun out pm pw => ?_
  · exact PySem.W.AllAlike.of fun a b => by
      show alike (.tuple [.int n, .tuple (clubs a)]) (.tuple [.int n, .tuple (clubs b)]) = true
      simp [alike, alikeAll, alike_clubs a b]
  · obtain ⟨t, _, rfl⟩ := List.mem_map.mp hd
    exact ⟨_, _, rfl⟩
  · obtain ⟨t, _, rfl⟩ := List.mem_map.mp hd
    exact Nat.le_trans (town_lay n t).2 (by decide)
  · obtain ⟨t, _, rfl⟩ := List.mem_map.mp hd
    exact (town_lay n t).1
  · have all : ∃ ts' : List (List (List Int)), out = ts'.map (townD n) ∧ ts'.Perm ts := by
      clear pw p
      induction ts generalizing out with
      | nil =>
        rw [List.map_nil, List.perm_nil] at pm
        exact ⟨[], pm, .nil⟩
      | cons t ts ih =>
        have m : townD n t ∈ out := pm.mem_iff.mpr (by simp)
        obtain ⟨a, b, rfl⟩ := List.append_of_mem m
        have p2 : (a ++ b).Perm (ts.map (townD n)) := by
          have := (List.perm_middle.symm.trans pm)
          exact List.Perm.cons_inv this
        obtain ⟨ts', e, p3⟩ := ih _ p2
        obtain ⟨a', b', e1, e2, e3⟩ := List.map_eq_append_iff.mp e.symm
        refine ⟨a' ++ t :: b', by rw [List.map_append, List.map_cons, e2, e3], List.perm_middle.trans ?_⟩
        exact (List.Perm.cons t (by rw [← e1]; exact p3))
    obtain ⟨ts', rfl, p2⟩ := all
    refine p ts' p2 ((List.pairwise_map.mp pw).imp fun {a b} h => ?_)
    rwa [lt_town] at h
end
end Ft

/-! part: FtMf -/
set_option Elab.async false
set_option linter.all false
set_option maxRecDepth 100000
/-! math.factorial; x *= y of whole numbers of any size. -/
namespace Ft
open PySem L2
section
variable {X : Cx} {K : Frg} {ρ : Rho} {O : Out → Prop} {P : Da → Prop}
def rFact : List V → Hp → VK → Prop := fun vs H Q => ∃ n : Nat, vs = [.int (n : Int)] ∧ n ≤ 200 ∧ Q (.int ((Builtin.Math.factorialNat n : Nat) : Int)) H
theorem cr_fact : CallR X (.builtin "math.factorial") rFact := by
  intro pins s σ H vs us Q I r h
  obtain ⟨n, rfl, hn, q⟩ := h
  cases r with
  | cons r0 rs =>
  cases rs
  obtain ⟨t, rfl⟩ := r0
  refine PySem.W.mc_factorial (a := (n : Int)) (by omega) (by omega) fun _ => ?_
  rw [Int.toNat_natCast]
  exact ⟨.int _, H, I.tok _, ⟨_, rfl⟩, q⟩
theorem rc_fact {n : Nat} (h : n ≤ 200) (p : P (.int ((Builtin.Math.factorialNat n : Nat) : Int))) : RC K rFact [.int (n : Int)] P := fun H H1 vs e dv Q q => by
  cases dv with
  | cons y z =>
  cases z
  cases y
  exact ⟨n, rfl, h, q _ p _ H H1 (GrN.rf e) (.int _)⟩
def ipW : TIp := fun x y H Q => ∃ i j, x = .int i ∧ y = .int j ∧ CMulW i j ∧ Q (.int (i * j)) H
theorem ip_mulW : PIp X .Mult ipW := by
  intro pins s σ H x y v u Q I r1 r2 h
  obtain ⟨i, j, e1, e2, c, q⟩ := h
  subst e1; subst e2
  obtain ⟨t, rfl⟩ := r1
  obtain ⟨t', rfl⟩ := r2
  exact PyProof.Rows.imul_int ⟨.int _, H, I.tok _, ⟨_, rfl⟩, q⟩ c.ok
theorem so_augW {i : Nat} {te : TE} {z : Int} (e : ρ[i]? = some (.dat (.int z))) (h : AE K te ρ fun d => ∃ y, d = .int y ∧ CMulW z y ∧ O (.nx (ρ.set i (.dat (.int (z * y)))))) : SO K (tAug i te ipW) ρ O := fun B Hs H1s H H1 σ D s f => by
  obtain ⟨v0, e0, d0⟩ := s.has.dat i _ e
  cases d0
  have nr : ρ[i]? ≠ some .row := by
    rw [e]
    intro z
    cases z
  refine ⟨_, e0, h σ H H1 s.has s.ex _ fun d ⟨y, ed, c, o⟩ v H' H2 gr dx => ?_⟩
  subst ed
  cases dx
  refine ⟨z, y, rfl, rfl, c, ?_⟩
  exact (at_name (K := K) (d := PyData.int (z * y)) nr).run σ H' H2 (V.int (z * y)) _ (s.has.gr gr) gr.b (.int _) fun σ' h' k => f.nx _ o σ' H' H2 ((s.gr gr).slots h' (at_name (K := K) (d := PyData.int (z * y)) nr).out (at_name (K := K) (d := PyData.int (z * y)) nr).imm (at_name (K := K) (d := PyData.int (z * y)) nr).nrow k)
end
end Ft

/-! part: FtSx -/
set_option Elab.async false
set_option linter.all false
set_option maxRecDepth 100000
/-! set(a) ^ set(b) of small whole numbers. -/
namespace Ft
open PySem PySem.Spec PyProof.Rows L2
/-! ### tables -/
theorem erase_list {α : Type} (xs : Array α) (p : Nat) : (SetTable.eraseAt xs p).toList = xs.toList.eraseIdx p := by
  unfold SetTable.eraseAt
  rw [List.eraseIdx_eq_take_drop_succ]
  simp
  exact List.take_of_length_le (by rw [List.length_drop, Array.length_toList]; exact Nat.le_refl _)
theorem map_erase {α β : Type} (f : α → β) : ∀ (l : List α) (i : Nat), (l.eraseIdx i).map f = (l.map f).eraseIdx i
  | [], _ => by simp
  | _ :: _, 0 => rfl
  | a :: l, i + 1 => by
    have ih := map_erase f l i
    simp [ih]
theorem drop_at {t : SetTable} {i j : Nat} (h : t.place[i]? = some j) : t.drop i = { t with place := SetTable.eraseAt t.place i, dummies := SetTable.insertAt t.dummies (SetTable.below t.dummies j) j } := by
  unfold SetTable.drop
  rw [h]
theorem insert_size {xs : Array Nat} {p : Nat} (j : Nat) : (SetTable.insertAt xs p j).size = xs.size + 1 := by
  have h := congrArg List.length (SetTable.toList_insertAt xs p j)
  rw [Array.length_toList, List.length_append, List.length_cons, List.length_take, List.length_drop, Array.length_toList] at h
  rw [h]
  omega
theorem erase_size {α : Type} {xs : Array α} {p : Nat} (h : p < xs.size) : (SetTable.eraseAt xs p).size = xs.size - 1 := by
  have e := congrArg List.length (erase_list xs p)
  rw [Array.length_toList, List.length_eraseIdx_of_lt (by rw [Array.length_toList]; exact h), Array.length_toList] at e
  exact e
theorem drop_good {t : SetTable} {n i : Nat} (hi : i < n) (f : t.fits n = true) (r : Ris t.place.toList) : (t.drop i).fits (n - 1) = true ∧ Ris (t.drop i).place.toList ∧ (t.drop i).led = t.led := by
  have f1 : t.place.size = n := beq_iff_eq.mp (Bool.and_eq_true_iff.mp f).1
  have f2 : t.place.size + t.dummies.size ≤ t.mask := of_decide_eq_true (Bool.and_eq_true_iff.mp f).2
  have hp : i < t.place.size := by omega
  rw [drop_at (Array.getElem?_eq_getElem hp)]
  refine ⟨?_, ?_, rfl⟩
  · refine Bool.and_eq_true_iff.mpr ⟨beq_iff_eq.mpr ?_, decide_eq_true ?_⟩
    · show (SetTable.eraseAt t.place i).size = n - 1
      rw [erase_size hp]
      omega
    · show (SetTable.eraseAt t.place i).size + (SetTable.insertAt _ _ _).size ≤ t.mask
      rw [erase_size hp, insert_size]
      omega
  · show Ris (SetTable.eraseAt t.place i).toList
    rw [erase_list]
    exact List.Pairwise.sublist (List.eraseIdx_sublist _ _) r
section
variable {P : Program} {w : World} {A : Around} {E : Value → Shared → Prop} {s : Shared}
/-! ### taking one out -/
theorem point_pure {Q : Bool → Shared → Prop} {b : Bool} (h : Q b s) : wpAny (model P w) A (point >>= fun _ => pure b) Q E s := wpAny_bind (wpAny_point (wpAny_pure h))
theorem setR_out {a : Addr} {S : Int → Bool} {n : Nat} {k : Int} {tk : Tok} {Q : Bool → Shared → Prop} (R : SetR w s.heap a S n)
    (hQ : ∀ h2, Heap.SameBut a s.heap h2 → SetR w h2 a (fun j => S j && !decide (j = k)) (if S k = true then n - 1 else n) → Q (S k) { s with heap := h2 }) :
    wpAny (model P w) A (setDiscardHashed a (.int k tk) ((intKind P w).hash k)) Q E s := by
  obtain ⟨o, es, ep, t, hg0, hx0, hd0, gd, nd, mm, hb0, hf0, hn0, hr0, hl0⟩ := R
  have isk : (intKind P w).is k (.int k tk) = true := intKind_is P w k tk
  have elm : ElemsOf (intKind P w) es.toList := good_elems gd
  unfold setDiscardHashed setFind setFindIn
  refine wpAny_bind ?_
  refine wpAny_bind (wpAny_setState_of hg0 hd0 hf0 ?_)
  dsimp only
  rw [byScan_of (show (Value.int k tk).scannable = true from rfl) hb0 elm]
  simp only [↓reduceIte]
  refine wpAny_bind (wpAny_rule ?_)
  refine wpAny_bind (wpAny_setScan_of isk hg0 hd0 hf0 elm ?_)
  cases hfi : List.findIdx? (fun e => (intKind P w).is k e.2) es.toList with
  | none =>
    dsimp only
    have nk : k ∉ es.toList.map keyOf := fun z => by
      obtain ⟨e, he, q⟩ := (good_mem (P := P) (w := w) gd k).1 z
      have c := List.findIdx?_eq_none_iff.mp hfi e he
      rw [q] at c
      cases c
    have sk : S k = false := by
      cases q : S k with
      | false => rfl
      | true => exact absurd ((mm k).1 q) nk
    refine wpAny_pure (wpAny_pure ?_)
    have z := hQ s.heap (Heap.SameBut.refl a s.heap) ⟨o, es, ep, t, hg0, hx0, hd0, gd, nd, fun i => by
      rw [Bool.and_eq_true, mm i]
      refine ⟨fun z => z.1, fun z => ⟨z, ?_⟩⟩
      have : i ≠ k := fun e => nk (e ▸ z)
      simp [this], hb0, hf0, by rw [if_neg (by rw [sk]; decide)]; exact hn0, hr0, hl0⟩
    rw [sk] at z
    exact z
  | some j =>
    dsimp only
    obtain ⟨hj, pj, _⟩ := List.findIdx?_eq_some_iff_getElem.mp hfi
    have jz : j < es.size := by rwa [Array.length_toList] at hj
    have kj : keyOf es.toList[j] = k := (good_is (gd _ (List.getElem_mem hj)) k).1 pj
    have sk : S k = true := (mm k).2 (List.mem_map.mpr ⟨_, List.getElem_mem hj, kj⟩)
    refine wpAny_pure ?_
    dsimp only
    refine wpAny_bind (wpAny_setState_of hg0 hd0 hf0 ?_)
    dsimp only
    have ez : (SetTable.eraseAt es (0 + j)).size = es.size - 1 := by rw [Nat.zero_add]; exact erase_size jz
    obtain ⟨f1, r1, l1⟩ := drop_good (i := 0 + j) (by omega) hf0 hr0
    have nz : es.size = n := hn0
    refine wpAny_bind (wpAny_storeSet_of hg0 hd0 ?_ (fits_of_scanBound (by rw [ez]; omega)))
    refine point_pure ?_
    have z := hQ _ (Heap.SameBut.update s.heap a (Obj.putSet (SetTable.eraseAt es (0 + j)) (t.drop (0 + j)))) ⟨_, _, _, _, store_at hg0 hd0, hx0, rfl, ?_, ?_, ?_, by rw [ez]; omega, by rw [ez]; exact f1, by rw [if_pos sk, ez, nz], r1, hl0.imp id fun z => by rw [l1]; exact z⟩
    · rw [sk] at z
      exact z
    · intro e he
      rw [erase_list] at he
      exact gd e (List.eraseIdx_subset he)
    · rw [erase_list]
      exact nd.sublist (List.Sublist.map keyOf (List.eraseIdx_sublist es.toList (0 + j)))
    · intro i
      rw [erase_list, Nat.zero_add, map_erase, Bool.and_eq_true, mm i]
      have hj2 : j < (es.toList.map keyOf).length := by rw [List.length_map]; exact hj
      have kk : (es.toList.map keyOf)[j] = k := by rw [List.getElem_map]; exact kj
      have pm : ((es.toList.map keyOf)[j] :: (es.toList.map keyOf).eraseIdx j).Perm (es.toList.map keyOf) := erase_perm _ _ _ (List.getElem?_eq_getElem hj2)
      rw [kk] at pm
      have nk := List.nodup_cons.mp (pm.nodup_iff.mpr nd)
      rw [← pm.mem_iff, List.mem_cons]
      constructor
      · rintro ⟨h1, h2⟩
        rcases h1 with z | z
        · simp [z] at h2
        · exact z
      · intro z
        refine ⟨.inr z, ?_⟩
        have : i ≠ k := fun e => nk.1 (e ▸ z)
        simp [this]
end
end Ft

/-! part: FtSy -/
set_option Elab.async false
set_option linter.all false
set_option maxRecDepth 100000
namespace Ft
open PySem PySem.Spec PyProof.Rows L2
section
variable {P : Program} {w : World} {A : Around} {E : Value → Shared → Prop} {s : Shared}
/-! ### one in or out -/
theorem setR_flip {a : Addr} {S : Int → Bool} {n : Nat} {k : Int} {tk : Tok} {Q : Unit → Shared → Prop} (R : SetR w s.heap a S n) (room : n + 1 < scanBound)
    (hQ : ∀ h2 m, Heap.SameBut a s.heap h2 → SetR w h2 a (fun j => S j ^^ decide (j = k)) m → m ≤ n + 1 → Q () { s with heap := h2 }) :
    wpAny (model P w) A (do if !(← setDiscardHashed a (.int k tk) ((intKind P w).hash k)) then let _ ← setAddHashed a (.int k tk) ((intKind P w).hash k)) Q E s := by
  refine wpAny_bind (setR_out R fun h2 sb R2 => ?_)
  cases sk : S k with
  | true =>
    refine wp_if_neg (by decide) (wpAny_pure (hQ h2 _ sb (R2.congr fun j => ?_) (by rw [if_pos sk]; omega)))
    by_cases e : j = k
    · subst e
      simp [sk]
    · simp [e]
  | false =>
    have R3 : SetR w h2 a (fun j => S j && !decide (j = k)) n := by
      rw [if_neg (by rw [sk]; decide)] at R2
      exact R2
    refine wp_if_pos (by decide) (wpAny_bind (setR_add_hashed (s := { s with heap := h2 }) R3 room fun h3 sb2 R4 => ?_))
    refine wpAny_pure (hQ h3 _ (sb.trans sb2) (R4.congr fun j => ?_) (by split <;> omega))
    by_cases e : j = k
    · subst e
      simp [sk]
    · simp [e]
/-! ### loops -/
theorem each_list {α : Type} {M : Model} {f : α → PUnit → Sem (ForInStep PUnit)} (I : List α → Shared → Prop) {Q : PUnit → Shared → Prop}
    (st : ∀ x r s1, I (x :: r) s1 → wpAny M A (f x ⟨⟩) (fun v s2 => v = .yield ⟨⟩ ∧ I r s2) E s1) (fin : ∀ s1, I [] s1 → Q ⟨⟩ s1) : ∀ (l : List α) (s1 : Shared), I l s1 → wpAny M A (forIn l ⟨⟩ f) Q E s1
  | [], s1, h => by
    rw [List.forIn_nil]
    exact wpAny_pure (fin s1 h)
  | x :: r, s1, h => by
    rw [List.forIn_cons]
    refine wpAny_bind (wpAny_mono (st x r s1 h) (fun v s2 z => ?_) fun _ _ z => z)
    obtain ⟨e, i⟩ := z
    subst e
    exact each_list I st fin r s2 i
theorem still_list {α β : Type} {M : Model} {b : β} {f : α → β → Sem (ForInStep β)} {Q : β → Shared → Prop} : ∀ (l : List α), (∀ x ∈ l, ∀ Q2 : ForInStep β → Shared → Prop, Q2 (.yield b) s → wpAny M A (f x b) Q2 E s) → Q b s → wpAny M A (forIn l b f) Q E s
  | [], _, h => by
    rw [List.forIn_nil]
    exact wpAny_pure h
  | x :: r, st, h => by
    rw [List.forIn_cons]
    exact wpAny_bind (st x List.mem_cons_self _ (still_list r (fun y hy => st y (List.mem_cons_of_mem _ hy)) h))
/-- a set of whole numbers: what is known of its object -/
def SetW (w : World) (h : Heap) (a : Addr) (es : Array (Int × Value)) (ep : Nat) (t : SetTable) : Prop :=
  ∃ o, h.get? a = some o ∧ o.ExactSet ∧ o.data = .set es ep t ∧ (∀ e ∈ es.toList, GoodE e) ∧ t.fits es.size = true ∧ (w.params.followText "set-order" = true ∨ t.led = true)
theorem SetW.at {h h2 : Heap} {a : Addr} {es : Array (Int × Value)} {ep : Nat} {t : SetTable} (x : SetW w h a es ep t) (k : ∀ o, h.get? a = some o → h2.get? a = some o) : SetW w h2 a es ep t :=
  let ⟨o, ho, r⟩ := x; ⟨o, k o ho, r⟩
theorem quiet_sets {l : List Addr} {Q : Bool → Shared → Prop} (h : ∀ a ∈ l, ∃ es ep t, SetW w s.heap a es ep t) (q : Q true s) : wpAny (model P w) A (setsQuiet l) Q E s := by
  unfold setsQuiet
  refine wpAny_bind (still_list l (fun a ha Q2 q2 => ?_) ?_)
  · obtain ⟨es, ep, t, o, ho, hx, hd, gd, hf, hl⟩ := h a ha
    refine wpAny_bind (wpAny_setEntries_of ho hd hf ?_)
    rw [← Array.forIn_toList]
    refine wpAny_bind (still_list es.toList (fun e he Q3 q3 => ?_) ?_)
    · obtain ⟨k, tk, e1, e2⟩ := gd e he
      obtain ⟨a1, a2⟩ := e
      have e1 : a2 = Value.int k tk := e1
      subst e1
      exact wpAny_pure q3
    · exact wpAny_pure q2
  · exact wpAny_pure q
theorem walk_perm {a : Addr} {es : Array (Int × Value)} {ep : Nat} {t : SetTable} {Q : Array (Int × Value) → Shared → Prop} (x : SetW w s.heap a es ep t) (q : ∀ arr d, arr.toList.Perm es.toList → Q arr { s with drawn := d }) :
    wpAny (model P w) A (setWalk a) Q E s := by
  obtain ⟨o, ho, hx, hd, gd, hf, hl⟩ := x
  unfold setWalk
  refine wpAny_bind (wpAny_setState_of ho hd hf ?_)
  dsimp only
  refine wpAny_bind (wpAny_byText ?_)
  cases hb : w.params.followText "set-order" with
  | true =>
    refine wp_if_pos rfl ?_
    exact wpAny_bind (wpAny_askSetting (wpAny_pure (q _ s.drawn (pick_perm _ _))))
  | false =>
    have led : t.led = true := hl.resolve_left (by rw [hb]; decide)
    refine wp_if_neg (by decide) ?_
    by_cases c : (!t.plain && decide (es.size > 1)) = true
    · refine wp_if_pos c ?_
      refine wpAny_bind (drawOrder_at es.size es.toList s _ (by rw [Array.length_toList]; exact Nat.le_refl _) fun ys d pm => wpAny_pure (q _ d (by simpa using pm)))
    · refine wp_if_neg c ?_
      refine wpAny_bind (wpAny_of_eq (a := ()) ?_ (wpAny_pure (q _ s.drawn (List.Perm.refl _))))
      show (if (!t.led && decide (es.size > 1)) = true then unsupported "set:maker-not-led" else pure ()) = pure ()
      rw [led]
      rfl
theorem walk_unseen {o a : Addr} {es : Array (Int × Value)} {ep : Nat} {t : SetTable} {S : Int → Bool} {n : Nat} {Q : Array (Int × Value) → Shared → Prop} (x : SetW w s.heap o es ep t) (R : SetR w s.heap a S n)
    (q : ∀ arr d h2, arr.toList.Perm es.toList → Heap.SameBut a s.heap h2 → SetR w h2 a S n → Q arr { s with heap := h2, drawn := d }) :
    wpAny (model P w) A (setWalkUnseen o [a] (some a)) Q E s := by
  obtain ⟨ob, ho, hx, hd, gd, hf, hl⟩ := id x
  obtain ⟨ob2, es2, ep2, t2, ho2, hx2, hd2, gd2, nd2, mm2, hb2, hf2, hn2, hr2, hl2⟩ := id R
  unfold setWalkUnseen
  refine wpAny_bind (wpAny_setState_of ho hd hf ?_)
  dsimp only
  refine wpAny_bind (wpAny_byText ?_)
  by_cases c : (w.params.followText "set-order" || t.led && t.plain || decide (es.size ≤ 1)) = true
  · refine wp_if_pos c ?_
    exact walk_perm x fun arr d pm => q arr d s.heap pm (Heap.SameBut.refl a s.heap) R
  · refine wp_if_neg c ?_
    simp only [Bool.or_eq_true, not_or] at c
    have nt : w.params.followText "set-order" = false := by simpa using c.1.1
    have led : t.led = true := hl.resolve_left (by rw [nt]; decide)
    have led2 : t2.led = true := hl2.resolve_left (by rw [nt]; decide)
    refine wpAny_bind (quiet_sets (fun b hb => ?_) ?_)
    · rcases List.mem_cons.mp hb with z | z
      · subst z
        exact ⟨es, ep, t, x⟩
      · rw [List.mem_singleton.mp z]
        exact ⟨es2, ep2, t2, ob2, ho2, hx2, hd2, gd2, hf2, hl2⟩
    refine wp_if_neg (by decide) ?_
    refine wpAny_bind (wpAny_rule ?_)
    refine wpAny_bind (wpAny_setState_of ho2 hd2 hf2 ?_)
    dsimp only
    by_cases c2 : (t2.led && !t.led || t2.plain && !t.plain) = true
    · refine wp_if_pos c2 ?_
      refine wpAny_bind (wpAny_storeSet_of ho2 hd2 ?_ (fits_of_scanBound hb2))
      refine wpAny_pure (q es s.drawn _ (List.Perm.refl _) (Heap.SameBut.update s.heap a _) ⟨_, _, _, _, store_at ho2 hd2, hx2, rfl, gd2, nd2, mm2, hb2, hf2, hn2, hr2, .inr ?_⟩)
      show (t2.led && t.led) = true
      rw [led, led2]
      rfl
    · refine wp_if_neg c2 ?_
      exact wpAny_pure (q es s.drawn s.heap (List.Perm.refl _) (Heap.SameBut.refl a s.heap) R)
end
end Ft

/-! part: FtSz -/
set_option Elab.async false
set_option linter.all false
set_option maxRecDepth 100000
namespace Ft
open PySem PySem.Spec PyProof.Rows L2
/-! ### small numbers laid into a clean table -/
theorem hash_small : ∀ k : _root_.Fin 8, hashInt (k.val : Int) = (k.val : Int) := by decide +kernel
theorem hash_of {k : Int} (h0 : 0 ≤ k) (h7 : k ≤ 7) : hashInt k = k := by
  have := hash_small ⟨k.toNat, by omega⟩
  have e : ((k.toNat : Nat) : Int) = k := by omega
  rw [show ((⟨k.toNat, by omega⟩ : _root_.Fin 8).val : Int) = k from e] at this
  exact this
theorem bits_small {x : Nat} (h : x ≤ 7) : SetTable.bits (x : Int) = x := by
  unfold SetTable.bits
  omega
structure Laid (m : Nat) (l : List Nat) (owner : Array (Option Nat)) : Prop where
  sz : owner.size = m + 1
  here : ∀ (i x : Nat), l[i]? = some x → oAt owner x = some i
  no : ∀ j, j ≤ m → j ∉ l → oAt owner j = none
theorem laid_next {m x : Nat} {l : List Nat} {owner : Array (Option Nat)} (hm : 7 ≤ m) (W : Laid m l owner) (hx : x ≤ 7) (hn : x ∉ l) : SetTable.layClean.free m owner (SetTable.turns m) (SetTable.bits (x : Int) % (m + 1)) (SetTable.bits (x : Int)) = some x := by
  rw [bits_small hx, Nat.mod_eq_of_lt (by omega)]
  show SetTable.layClean.free m owner ((m + 14) + 1) x x = some x
  rw [free_succ, find_range (k := 0) _ ?_ ?_ fun k hk => absurd hk (by omega)]
  · rfl
  · have := (runEnd_bd (m := m) (i := x) (by omega)).2.1
    omega
  · rw [Nat.add_zero, W.no x (by omega) hn]
    rfl
theorem laid_put {m x : Nat} {l : List Nat} {owner : Array (Option Nat)} (hm : 7 ≤ m) (W : Laid m l owner) (hx : x ≤ 7) (hn : x ∉ l) : Laid m (l ++ [x]) (owner.setIfInBounds x (some l.length)) where
  sz := by rw [Array.size_setIfInBounds, W.sz]
  here := fun i y h => by
    by_cases c : i < l.length
    · rw [List.getElem?_append_left c] at h
      have ne : y ≠ x := fun e => hn (e ▸ List.mem_of_getElem? h)
      rw [oAt_set_ne _ ne]
      exact W.here i y h
    · rw [List.getElem?_append_right (by omega)] at h
      have e : i - l.length = 0 := by
        have := (List.getElem?_eq_some_iff.mp h).1
        rw [List.length_singleton] at this
        omega
      rw [e] at h
      have e2 : x = y := Option.some.inj h
      subst e2
      rw [oAt_set_self _ (by rw [W.sz]; omega)]
      congr 1
      omega
  no := fun j hj hl => by
    rw [List.mem_append, List.mem_singleton, not_or] at hl
    rw [oAt_set_ne _ hl.2]
    exact W.no j hj hl.1
theorem laid_fold {m : Nat} (hm : 7 ≤ m) : ∀ (rest done : List Nat) (owner : Array (Option Nat)), Laid m done owner → (∀ x ∈ rest, x ≤ 7 ∧ x ∉ done) → rest.Nodup →
    ∃ own2 c, (rest.map fun (x : Nat) => (x : Int)).foldl (stepF m) (some (owner, done.length)) = some (own2, c) ∧ Laid m (done ++ rest) own2
  | [], done, owner, W, _, _ => ⟨owner, done.length, rfl, by rw [List.append_nil]; exact W⟩
  | x :: rest, done, owner, W, h, nd => by
    have hx := h x List.mem_cons_self
    have nd2 := List.nodup_cons.mp nd
    have W2 := laid_put hm W hx.1 hx.2
    obtain ⟨o2, c, e, W3⟩ := laid_fold hm rest (done ++ [x]) _ W2 (fun y hy => ⟨(h y (List.mem_cons_of_mem _ hy)).1, fun z => by
      rcases List.mem_append.mp z with z | z
      · exact (h y (List.mem_cons_of_mem _ hy)).2 z
      · rw [List.mem_singleton.mp z] at hy
        exact nd2.1 hy⟩) nd2.2
    refine ⟨o2, c, ?_, by rw [List.append_assoc] at W3; exact W3⟩
    rw [List.map_cons, List.foldl_cons, stepF_some (laid_next hm W hx.1 hx.2)]
    rw [List.length_append] at e
    exact e
theorem laid_small {m f mv : Nat} {led pl : Bool} (hm : 7 ≤ m) {l : List Nat} (h7 : ∀ x ∈ l, x ≤ 7) (nd : l.Nodup) :
    ∃ t order, SetTable.laid m f mv led pl (l.map fun (x : Nat) => (x : Int)).toArray = some (t, order) ∧ order.toList.Perm (List.range l.length) ∧ t.place.size = l.length ∧ Ris t.place.toList ∧ t.dummies = #[] ∧ t.led = led ∧ t.mask = m := by
  have W0 : Laid m [] (Array.replicate (m + 1) none) := ⟨Array.size_replicate, fun i x h => by simp at h, fun j hj _ => oAt_init hj⟩
  obtain ⟨owner, c, e, W⟩ := laid_fold hm l [] _ W0 (fun x hx => ⟨h7 x hx, by simp⟩) nd
  rw [List.nil_append] at W
  have lc : SetTable.layClean m (l.map fun (x : Nat) => (x : Int)).toArray = some owner := by
    rw [layClean_eq]
    show ((l.map fun (x : Nat) => (x : Int)).foldl (stepF m) (some (Array.replicate (m + 1) none, ([] : List Nat).length))).map (·.1) = _
    rw [e]
    rfl
  have hr : SetTable.laid m f mv led pl (l.map fun (x : Nat) => (x : Int)).toArray = some ({ mask := m, place := ((liveOf m owner).map (·.1)).toArray, dummies := #[], finger := f, led := led, moves := mv, plain := pl }, ((liveOf m owner).map (·.2)).toArray) := by
    unfold SetTable.laid
    rw [lc]
    rfl
  have ris : Ris ((liveOf m owner).map (·.1)) := (ris_live (fun j => owner.getD j none) (List.range (m + 1)) (by
    unfold Ris
    exact List.pairwise_lt_range)).1
  have inL : ∀ j k, (j, k) ∈ liveOf m owner → l[k]? = some j := fun j k h => by
    obtain ⟨h1, h2⟩ := (mem_live W.sz).1 h
    by_cases c : j ∈ l
    · obtain ⟨i, hi⟩ := List.mem_iff_getElem?.mp c
      have := W.here i j hi
      rw [h2] at this
      cases this
      exact hi
    · rw [W.no j h1 c] at h2
      cases h2
  have len : (liveOf m owner).length = l.length := by
    have dif : ((liveOf m owner).map (·.1)).Nodup := List.Pairwise.imp (fun h => Nat.ne_of_lt h) ris
    have a := nat_nodup_len ((liveOf m owner).map (·.1)) l dif fun x hx => by
      obtain ⟨q, hq, e1⟩ := List.mem_map.mp hx
      obtain ⟨y, k⟩ := q
      have e1 : y = x := e1
      subst e1
      exact List.mem_of_getElem? (inL y k hq)
    have b := nat_nodup_len (List.range l.length) ((liveOf m owner).map (·.2)) List.nodup_range fun k hk => by
      have hk := List.mem_range.mp hk
      have hj := h7 _ (List.getElem_mem hk)
      exact List.mem_map.mpr ⟨(l[k], k), (mem_live W.sz).2 ⟨by omega, W.here k _ (List.getElem?_eq_getElem hk)⟩, rfl⟩
    rw [List.length_map] at a
    rw [List.length_map, List.length_range] at b
    omega
  refine ⟨_, _, hr, perm_range l.length _ ?_ fun k hk => ?_, ?_, ris, rfl, rfl, rfl⟩
  · show ((liveOf m owner).map (·.2)).length = _
    rw [List.length_map, len]
  · show k ∈ (liveOf m owner).map (·.2)
    have hj := h7 _ (List.getElem_mem hk)
    exact List.mem_map.mpr ⟨(l[k], k), (mem_live W.sz).2 ⟨by omega, W.here k _ (List.getElem?_eq_getElem hk)⟩, rfl⟩
  · show ((liveOf m owner).map (·.1)).toArray.size = _
    rw [List.size_toArray, List.length_map, len]
section
variable {P : Program} {w : World} {A : Around} {E : Value → Shared → Prop} {s : Shared}
/-- an empty set, its table may have grown -/
def Empt (w : World) (h : Heap) (a : Addr) (ep : Nat) (t : SetTable) (n : Nat) : Prop :=
  ∃ o, h.get? a = some o ∧ o.ExactSet ∧ o.data = .set #[] ep t ∧ t.place = #[] ∧ t.dummies = #[] ∧ 7 ≤ t.mask ∧ n ≤ t.mask ∧ (w.params.followText "set-order" = true ∨ t.led = true)
theorem Empt.fits {h : Heap} {a : Addr} {ep : Nat} {t : SetTable} {n : Nat} (x : Empt w h a ep t n) : t.fits (#[] : Array (Int × Value)).size = true := by
  obtain ⟨o, ho, hx, hd, hp, hz, h7, hn, hl⟩ := x
  unfold SetTable.fits SetTable.fill
  rw [hp, hz]
  simp
theorem size_few : ∀ n : _root_.Fin 9, ((0 + n.val) * 5 ≥ 21 → n.val ≤ SetTable.sizeAbove ((0 + n.val) * 2) - 1 ∧ 7 ≤ SetTable.sizeAbove ((0 + n.val) * 2) - 1 ∧ SetTable.sizeAbove ((0 + n.val) * 2) ≤ 128) := by decide +kernel
theorem room_made {a : Addr} {ep n : Nat} {t : SetTable} {Q : Unit → Shared → Prop} (x : Empt w s.heap a ep t 0) (m7 : t.mask = 7) (n8 : n ≤ 8)
    (q : ∀ h2 ep2 t2, Heap.SameBut a s.heap h2 → Empt w h2 a ep2 t2 n → Q () { s with heap := h2 }) : wpAny (model P w) A (setRoomFor a n) Q E s := by
  have hf := x.fits
  obtain ⟨o, ho, hx, hd, hp, hz, h7, hn, hl⟩ := id x
  have rf : t.roomFor n = if (0 + n) * 5 ≥ 21 then some ((0 + n) * 2) else none := by
    unfold SetTable.roomFor SetTable.fill
    rw [hp, hz, m7]
    rfl
  unfold setRoomFor
  refine wpAny_bind (wpAny_setState_of ho hd hf ?_)
  dsimp only
  rw [rf]
  by_cases c : (0 + n) * 5 ≥ 21
  · rw [if_pos c]
    dsimp only
    obtain ⟨s1, s2, s3⟩ := size_few ⟨n, by omega⟩ c
    have s1 : n ≤ SetTable.sizeAbove ((0 + n) * 2) - 1 := s1
    have s2 : 7 ≤ SetTable.sizeAbove ((0 + n) * 2) - 1 := s2
    have s3 : SetTable.sizeAbove ((0 + n) * 2) ≤ 128 := s3
    obtain ⟨t2, order, e, pm, pz, rs, dm, ld, mk⟩ := laid_small (m := SetTable.sizeAbove ((0 + n) * 2) - 1) (f := t.finger) (mv := t.movedTo (SetTable.sizeAbove ((0 + n) * 2) - 1)) (led := t.led) (pl := t.plain) s2 (l := []) (fun x hx => by cases hx) List.nodup_nil
    have e2 : t.relaid ((#[] : Array (Int × Value)).map (·.1)) ((0 + n) * 2) = some (t2, order) := by
      rw [show ((#[] : Array (Int × Value)).map (·.1)) = (([] : List Nat).map fun (x : Nat) => (x : Int)).toArray by simp]
      exact e
    have oz : order = #[] := by
      have := pm.length_eq
      simp at this
      simpa using this
    subst oz
    rw [setRelay_eq]
    refine wpAny_bind (wpAny_setState_of ho hd hf ?_)
    dsimp only
    refine wp_if_neg (by rw [sizeLine_eq]; omega) ?_
    rw [e2]
    dsimp only
    refine wpAny_bind ?_
    refine wp_if_neg (by simp) ?_
    refine wpAny_pure ?_
    dsimp only
    refine wpAny_storeSet_of ho hd ?_ (by simp)
    refine q _ _ t2 (Heap.SameBut.update s.heap a _) ⟨_, store_at ho hd, hx, rfl, ?_, dm, by rw [mk]; exact s2, by rw [mk]; exact s1, hl.imp id fun z => by rw [ld]; exact z⟩
    have z : t2.place.size = 0 := pz
    exact Array.size_eq_zero_iff.mp z
  · rw [if_neg c]
    exact wpAny_pure (q s.heap ep t (Heap.SameBut.refl a s.heap) ⟨o, ho, hx, hd, hp, hz, h7, by rw [m7]; omega, hl⟩)
end
end Ft

/-! part: FtXs -/
set_option Elab.async false
set_option linter.all false
set_option maxRecDepth 100000
namespace Ft
open PySem PySem.Spec PyProof.Rows L2
theorem range_all {α : Type} : ∀ l : List α, (List.range l.length).filterMap (fun i => l[i]?) = l
  | [] => rfl
  | a :: l => by
    rw [List.length_cons, List.range_succ_eq_map, List.filterMap_cons_some (f := fun i => (a :: l)[i]?) (a := 0) (b := a) rfl, List.filterMap_map]
    exact congrArg (a :: ·) (range_all l)
theorem order_perm {es : Array (Int × Value)} {order : Array Nat} (hp : order.toList.Perm (List.range es.size)) : (order.filterMap (es[·]?)).toList.Perm es.toList := by
  have e : (order.filterMap (es[·]?)).toList = order.toList.filterMap fun i => es.toList[i]? := by simp
  rw [e]
  have h := range_all es.toList
  rw [Array.length_toList] at h
  have pm := hp.filterMap fun i => es.toList[i]?
  rw [h] at pm
  exact pm
theorem merge_eq (a b : Addr) (each : Sem Unit) : setMerge a b each = (do
    if a == b then return
    let (eb, pb, tb) ← setState b
    if eb.isEmpty then return
    setRoomFor a eb.size
    let (_, _, ta) ← setState a
    match ta.road tb with
    | .slotForSlot =>
      storeSet a eb { tb with
        finger := ta.finger, led := ta.led && tb.led, moves := ta.moves, plain := ta.plain && tb.plain }
    | .clean =>
      let (es, t) ← (do
        let some (t, order) := SetTable.laid ta.mask ta.finger ta.moves (led := ta.led && tb.led) (plain := ta.plain && tb.plain) (eb.map (·.1)) | unsupported "internal:set-table-without-room"
        let ne := order.filterMap (eb[·]?)
        if ne.size != eb.size then unsupported "internal:set-table-lost-an-element"
        pure (ne, t) : Sem (Array (Int × Value) × SetTable))
      storeSet a es t
    | .oneByOne =>
      for (h, x) in ← setWalkUnseen b [a] (some a) do
        let _ ← holding [x]
          (setAddHashed a x h)
        each
        if (← setState b).2.1 != pb then
          unsupported "set.changed-during-merge") := by rfl
section
variable {P : Program} {w : World} {A : Around} {E : Value → Shared → Prop} {s : Shared}
theorem merge_small {a b : Addr} {each : Sem Unit} {ep n : Nat} {t : SetTable} {S : Int → Bool} {Q : Unit → Shared → Prop} (ne : a ≠ b) (x : Empt w s.heap a ep t 0) (m7 : t.mask = 7) (R : SetR w s.heap b S n)
    (small : ∀ k, S k = true → 0 ≤ k ∧ k ≤ 7) (n8 : n ≤ 8) (q : ∀ h2, Heap.SameBut a s.heap h2 → SetR w h2 a S n → Q () { s with heap := h2 }) : wpAny (model P w) A (setMerge a b each) Q E s := by
  obtain ⟨ob, eb, pb, tb, hob, hxb, hdb, gd, nd, mm, hbb, hfb, hnb, hrb, hlb⟩ := id R
  rw [merge_eq]
  refine wp_if_neg (by simpa using ne) ?_
  refine wpAny_bind (wpAny_setState_of hob hdb hfb ?_)
  dsimp only
  by_cases em : eb.isEmpty = true
  · refine wp_if_pos em ?_
    have e0 : eb = #[] := by simpa using em
    obtain ⟨o, ho, hx, hd, hp, hz, h7, hn, hl⟩ := id x
    refine wpAny_pure (q s.heap (Heap.SameBut.refl a s.heap) ⟨o, #[], ep, t, ho, hx, hd, fun e he => by simp at he, by simp, fun k => ?_, by decide, x.fits, ?_, by rw [hp]; exact List.Pairwise.nil, hl⟩)
    · rw [mm k, e0]
    · rw [← hnb, e0]
  · refine wp_if_neg em ?_
    rw [hnb]
    refine wpAny_bind (room_made x m7 n8 fun h2 ep2 t2 sb x2 => ?_)
    obtain ⟨o, ho, hx, hd, hp, hz, h7, hn, hl⟩ := id x2
    refine wpAny_bind (wpAny_setState_of (s := { s with heap := h2 }) ho hd x2.fits ?_)
    dsimp only
    have rd : t2.road tb = if (t2.mask == tb.mask && tb.dummies.isEmpty) = true then .slotForSlot else .clean := by
      unfold SetTable.road SetTable.fill
      rw [hp, hz]
      rfl
    have led : w.params.followText "set-order" = true ∨ (t2.led && tb.led) = true := by
      rcases hl with z | z
      · exact .inl z
      · rcases hlb with y | y
        · exact .inl y
        · exact .inr (by rw [y, z]; rfl)
    rw [rd]
    by_cases c : (t2.mask == tb.mask && tb.dummies.isEmpty) = true
    · rw [if_pos c]
      dsimp only
      refine wpAny_storeSet_of (s := { s with heap := h2 }) ho hd ?_ (fits_of_scanBound hbb)
      exact q _ (sb.trans (Heap.SameBut.update h2 a _)) ⟨_, eb, _, _, store_at ho hd, hx, rfl, gd, nd, mm, hbb, hfb, hnb, hrb, led⟩
    · rw [if_neg c]
      dsimp only
      have kk : ∀ e ∈ eb.toList, 0 ≤ keyOf e ∧ keyOf e ≤ 7 := fun e he => small _ ((mm _).2 (List.mem_map.mpr ⟨e, he, rfl⟩))
      have hk : eb.map (·.1) = ((eb.toList.map fun e => (keyOf e).toNat).map fun (x : Nat) => (x : Int)).toArray := by
        apply Array.toList_inj.mp
        rw [Array.toList_map, List.map_map]
        refine List.map_congr_left fun e he => ?_
        obtain ⟨k0, tk, e1, e2⟩ := gd e he
        have e3 : keyOf e = k0 := by simp [keyOf, e1]
        have e4 := kk e he
        rw [e3] at e4
        show e.1 = (((keyOf e).toNat : Nat) : Int)
        rw [e2, e3, hash_of e4.1 e4.2]
        omega
      have ndn : (eb.toList.map fun e => (keyOf e).toNat).Nodup := by
        have : (eb.toList.map fun e => (keyOf e).toNat) = (eb.toList.map keyOf).map Int.toNat := by rw [List.map_map]; rfl
        rw [this]
        refine nodup_map nd fun y hy z hz e => ?_
        obtain ⟨e1, h1, rfl⟩ := List.mem_map.mp hy
        obtain ⟨e2, h2, rfl⟩ := List.mem_map.mp hz
        have := kk e1 h1
        have := kk e2 h2
        omega
      obtain ⟨t3, order, e, pm, pz, rs, dm, ld, mk⟩ := laid_small (m := t2.mask) (f := t2.finger) (mv := t2.moves) (led := t2.led && tb.led) (pl := t2.plain && tb.plain) h7 (l := eb.toList.map fun e => (keyOf e).toNat) (fun y hy => by
        obtain ⟨e, he, rfl⟩ := List.mem_map.mp hy
        have := kk e he
        omega) ndn
      rw [← hk] at e
      rw [List.length_map, Array.length_toList] at pm pz
      have po := order_perm (es := eb) pm
      have sz : (order.filterMap (eb[·]?)).size = eb.size := by
        rw [← Array.length_toList, po.length_eq, Array.length_toList]
      rw [e]
      dsimp only
      refine wpAny_bind ?_
      refine wp_if_neg (by rw [sz, hnb]; simp) ?_
      refine wpAny_pure ?_
      dsimp only
      refine wpAny_storeSet_of (s := { s with heap := h2 }) ho hd ?_ (fits_of_scanBound (by rw [sz]; exact hbb))
      refine q _ (sb.trans (Heap.SameBut.update h2 a _)) ⟨_, _, _, t3, store_at ho hd, hx, rfl, fun e he => gd e (po.mem_iff.mp he), (po.map keyOf).nodup_iff.mpr nd, fun k => (mm k).trans (po.map keyOf).mem_iff.symm, by rw [sz]; exact hbb, ?_, by rw [sz]; exact hnb, rs, led.imp id fun z => by rw [ld]; exact z⟩
      refine Bool.and_eq_true_iff.mpr ⟨beq_iff_eq.mpr (by rw [pz, sz]), decide_eq_true ?_⟩
      show t3.place.size + t3.dummies.size ≤ t3.mask
      rw [pz, dm, mk]
      show eb.size + 0 ≤ t2.mask
      omega
end
end Ft

/-! part: FtXr -/
set_option Elab.async false
set_option linter.all false
set_option maxRecDepth 100000
namespace Ft
open PySem PySem.Spec PyProof.Rows L2
theorem xor_eq (args : Args) : Builtin.«frozenset.__xor__» args = (do
    let (one, two) ← Builtin.Frozenset.slot1 "__xor__" args
    if !(← Builtin.Frozenset.isAnySet one <&&> Builtin.Frozenset.isAnySet two) then rule s!"frozenset.{"__xor__"}.declined"; return ← ret .notImplemented
    let a ← Builtin.Frozenset.addrOf one
    ret (← (do
      let result ← Builtin.Frozenset.newFrom s!"frozenset.{"__xor__"}" (← Builtin.Frozenset.baseOf a) two
      holding [result] (Builtin.Frozenset.symmetricDifferenceUpdate s!"frozenset.{"__xor__"}" (← Builtin.Frozenset.addrOf result) (.ref a))
      return result : Sem Value))) := by rfl
theorem entry_sxor : entryFor table "set.__xor__" = some Builtin.«frozenset.__xor__» := entryFor_alias (id' := "frozenset.__xor__") (by kernel_rfl) rfl (by decide +kernel) (by kernel_rfl)
section
variable {P : Program} {w : World} {A : Around} {E : Value → Shared → Prop} {s : Shared}
theorem setR_type {a : Addr} {S : Int → Bool} {n : Nat} (R : SetR w s.heap a S n) : s.TypeIs (.ref a) "set" := by
  obtain ⟨o, es, ep, t, ho, hx, _⟩ := R
  exact ⟨o, ho, hx.1⟩
theorem any_set {a : Addr} {Q : Bool → Shared → Prop} (h : s.TypeIs (.ref a) "set") (q : Q true s) : wpAny (model P w) A (Builtin.Frozenset.isAnySet (.ref a)) Q E s := by
  unfold Builtin.Frozenset.isAnySet orM
  exact wpAny_bind (wpAny_isInstance (T := "set") (b := true) h sub_set_self (wpAny_pure q))
theorem base_set {a : Addr} {Q : Value → Shared → Prop} (h : s.TypeIs (.ref a) "set") (q : Q (.type "set") s) : wpAny (model P w) A (Builtin.Frozenset.baseOf a) Q E s := by
  unfold Builtin.Frozenset.baseOf
  exact wpAny_bind (wpAny_isInstance (T := "set") (b := true) h sub_set_self (wpAny_pure q))
theorem setR_w {a : Addr} {S : Int → Bool} {n : Nat} (R : SetR w s.heap a S n) : ∃ es ep t, SetW w s.heap a es ep t ∧ (es.toList.map keyOf).Nodup ∧ (∀ k, S k = true ↔ k ∈ es.toList.map keyOf) ∧ es.size = n := by
  obtain ⟨o, es, ep, t, ho, hx, hd, gd, nd, mm, hb, hf, hn, hr, hl⟩ := R
  exact ⟨es, ep, t, ⟨o, ho, hx, hd, gd, hf, hl⟩, nd, mm, hn⟩
theorem new_from {b : Addr} {S : Int → Bool} {n : Nat} {nm : String} {Q : Value → Shared → Prop} (R : SetR w s.heap b S n) (small : ∀ k, S k = true → 0 ≤ k ∧ k ≤ 7) (n8 : n ≤ 8)
    (q : ∀ h2, (∀ x o, s.heap.get? x = some o → h2.get? x = some o) → SetR w h2 s.heap.objs.size S n → Q (.ref s.heap.objs.size) { s with heap := h2 }) :
    wpAny (model P w) A (Builtin.Frozenset.newFrom nm (.type "set") (.ref b)) Q E s := by
  obtain ⟨es, ep, t, ⟨o, ho, hx, hd, gd, hf, hl⟩, nd, mm, hn⟩ := setR_w R
  have lb : b < s.heap.objs.size := Heap.lt_size ho
  unfold Builtin.Frozenset.newFrom
  refine wpAny_bind ?_
  unfold newSet setsByText
  refine wpAny_bind (wpAny_bind (wpAny_askSetting (wpAny_pure ?_)))
  dsimp only
  simp only [newObj]
  refine wpAny_bind (wpAny_alloc (wpAny_pure ?_))
  refine wpAny_bind (wpAny_pure ?_)
  have keep : ∀ x o, s.heap.get? x = some o → (s.heap.push (set0 w)).get? x = some o := fun x o e => Heap.get?_push_of_some _ e
  have Rb : SetR w (s.heap.push (set0 w)) b S n := R.at (keep b)
  have emp : Empt w (s.heap.push (set0 w)) s.heap.objs.size 0 (.fresh 0 0 (!w.params.followText "set-order")) 0 := by
    refine ⟨set0 w, Heap.get?_push_size _ rfl, ⟨rfl, rfl, rfl⟩, rfl, rfl, rfl, Nat.le_refl 7, Nat.zero_le _, ?_⟩
    cases w.params.followText "set-order"
    · exact .inr rfl
    · exact .inl rfl
  refine wpAny_bind (wpAny_holding ?_)
  unfold Builtin.Frozenset.updateFrom
  refine wpAny_bind (any_set (setR_type (s := { s with heap := s.heap.push (set0 w) }) Rb) ?_)
  refine wp_if_pos rfl ?_
  refine wpAny_bind (wpAny_pure ?_)
  unfold Builtin.Frozenset.merge
  obtain ⟨o2, es2, ep2, t2, ho2, hx2, hd2, gd2, nd2, mm2, hb2, hf2, _⟩ := id Rb
  refine wpAny_bind (wpAny_setEpoch_of (s := { s with heap := s.heap.push (set0 w) }) ho2 hd2 hf2 ?_)
  refine merge_small (s := { s with heap := s.heap.push (set0 w) }) (Nat.ne_of_gt lb) emp rfl Rb small n8 fun h2 sb R2 => wpAny_pure (q h2 (fun x o e => ?_) R2)
  have lx : x < s.heap.objs.size := Heap.lt_size e
  exact (sb.2 x (Nat.ne_of_lt lx)).trans (keep x o e)
theorem flip_all {sA oA : Addr} {nm : String} {was : Nat} {es : Array (Int × Value)} {t : SetTable} {Q : PUnit → Shared → Prop} (ne : oA ≠ sA) (arr : Array (Int × Value)) (gd : ∀ e ∈ arr.toList, GoodE e) (nd : (arr.toList.map keyOf).Nodup)
    {S : Int → Bool} {n : Nat} (R : SetR w s.heap sA S n) (X : SetW w s.heap oA es was t) (few : n + arr.size + 1 < scanBound)
    (q : ∀ h2 m, Heap.SameBut sA s.heap h2 → SetR w h2 sA (fun j => S j ^^ decide (j ∈ arr.toList.map keyOf)) m → m ≤ n + arr.size → Q ⟨⟩ { s with heap := h2 }) :
    wpAny (model P w) A (do
      for (h, x) in arr do
        holding [x] (do
          if !(← setDiscardHashed sA x h) then
            let _ ← setAddHashed sA x h)
        Builtin.Frozenset.unchanged nm oA was) Q E s := by
  rw [← Array.forIn_toList]
  have fin : ∀ (l : List (Int × Value)) (h2 : Heap) (T : Int → Bool) (m : Nat), Heap.SameBut sA s.heap h2 → SetR w h2 sA T m → m + l.length ≤ n + arr.size → (∀ e ∈ l, GoodE e) → (l.map keyOf).Nodup → (∀ j, (T j ^^ decide (j ∈ l.map keyOf)) = (S j ^^ decide (j ∈ arr.toList.map keyOf))) →
      wpAny (model P w) A (forIn l PUnit.unit fun x _ => match x with
        | (h, x) => do
          holding [x] (do
            if !(← setDiscardHashed sA x h) then
              let _ ← setAddHashed sA x h)
          Builtin.Frozenset.unchanged nm oA was
          pure (ForInStep.yield PUnit.unit)) (fun _ s2 => wpAny (model P w) A (pure ()) Q E s2) E { s with heap := h2 } := by
    intro l
    induction l with
    | nil =>
      intro h2 T m sb R2 hm g2 nd2 ht
      rw [List.forIn_nil]
      refine wpAny_pure (wpAny_pure (q h2 m sb (R2.congr fun j => ?_) (by simpa using hm)))
      rw [← ht j]
      simp
    | cons e l ih =>
      intro h2 T m sb R2 hm g2 nd2 ht
      rw [List.length_cons] at hm
      have nd3 := List.nodup_cons.mp nd2
      obtain ⟨k, tk, e1, e2⟩ := g2 e List.mem_cons_self
      obtain ⟨a1, a2⟩ := e
      have e1 : a2 = Value.int k tk := e1
      have e2 : a1 = hashInt k := e2
      subst e1 e2
      have ek : keyOf (hashInt k, Value.int k tk) = k := rfl
      rw [List.forIn_cons]
      refine wpAny_bind ?_
      refine wpAny_bind (wpAny_holding (setR_flip (s := { s with heap := h2 }) R2 (by omega) fun h3 m3 sb3 R3 hm3 => ?_))
      have sb4 := sb.trans sb3
      obtain ⟨o, ho, hx, hd, gd0, hf, hl⟩ := X.at (h2 := h3) fun o e => (sb4.2 oA ne).trans e
      refine wpAny_bind ?_
      unfold Builtin.Frozenset.unchanged
      refine wpAny_bind (wpAny_setEpoch_of (s := { s with heap := h3 }) ho hd hf ?_)
      refine wp_if_neg (by simp) ?_
      refine wpAny_pure (wpAny_pure ?_)
      refine ih h3 _ m3 sb4 R3 (by omega) (fun e he => g2 e (List.mem_cons_of_mem _ he)) nd3.2 fun j => ?_
      rw [← ht j, List.map_cons, ek]
      by_cases c : j = k
      · subst c
        have : j ∉ l.map keyOf := by rw [← ek]; exact nd3.1
        simp [this]
      · simp [c]
  exact wpAny_bind (fin arr.toList s.heap S n (Heap.SameBut.refl sA s.heap) R (by rw [Array.length_toList]; exact Nat.le_refl _) gd nd fun j => rfl)
/-- set ^ set -/
theorem set_xor {a b : Addr} {S T : Int → Bool} {n m : Nat} {Q : Value → Shared → Prop} (Ra : SetR w s.heap a S n) (Rb : SetR w s.heap b T m) (smB : ∀ k, T k = true → 0 ≤ k ∧ k ≤ 7) (n8 : n ≤ 8) (m8 : m ≤ 8)
    (q : ∀ h2 d c, (∀ x o, s.heap.get? x = some o → h2.get? x = some o) → SetR w h2 s.heap.objs.size (fun j => T j ^^ S j) c → c ≤ 16 → Q (.ref s.heap.objs.size) { s with heap := h2, drawn := d }) :
    wpAny (model P w) A (binaryOp .BitXor (.ref a) (.ref b)) Q E s := by
  refine wpAny_binaryOp_same (op := .BitXor) (T := "set") (setR_type Ra) (setR_type Rb) PySem.F.fills_set_xor PySem.F.slot_set_xor ?_
  refine wpAny_call_entry PySem.F.slot_set_xor (setR_type Ra) entry_sxor ?_ (PySem.F.args_set_xor_2 _ _)
  rw [xor_eq]
  unfold Builtin.Frozenset.slot1 slotArgs
  refine wpAny_bind ?_
  refine wpAny_bind ?_
  simp only [List.isEmpty_nil, Bool.not_true, Bool.false_eq_true, if_false]
  refine wpAny_pure (wpAny_pure ?_)
  dsimp only
  unfold andM
  refine wpAny_bind (wpAny_bind (any_set (setR_type Ra) (any_set (setR_type Rb) ?_)))
  refine wp_if_neg (by decide) ?_
  refine wpAny_bind (wpAny_pure ?_)
  refine wpAny_bind ?_
  refine wpAny_bind (base_set (setR_type Ra) ?_)
  refine wpAny_bind (new_from Rb smB m8 fun h2 keep R2 => ?_)
  refine wpAny_bind (wpAny_pure ?_)
  refine wpAny_bind (wpAny_holding ?_)
  unfold Builtin.Frozenset.symmetricDifferenceUpdate
  have Ra2 : SetR w h2 a S n := Ra.at (keep a)
  have ne : a ≠ s.heap.objs.size := Nat.ne_of_lt Ra.lt
  refine wp_if_neg (by simpa using ne) ?_
  refine wpAny_bind (wpAny_typeOf (T := "set") (setR_type (s := { s with heap := h2 }) Ra2) ?_)
  refine wp_if_neg (by decide) ?_
  refine wpAny_bind (any_set (setR_type (s := { s with heap := h2 }) Ra2) ?_)
  refine wpAny_bind ?_
  refine wpAny_pure ?_
  refine wpAny_bind (wpAny_pure ?_)
  obtain ⟨es, ep, t, X, nd, mm, hn⟩ := setR_w (s := { s with heap := h2 }) Ra2
  obtain ⟨o, ho, hx, hd, gd, hf, hl⟩ := id X
  refine wpAny_bind (wpAny_setEpoch_of (s := { s with heap := h2 }) ho hd hf ?_)
  refine wpAny_holding ?_
  refine wpAny_bind (walk_unseen (s := { s with heap := h2 }) X R2 fun arr d h3 pm sb R3 => ?_)
  have X3 : SetW w h3 a es ep t := X.at fun o e => (sb.2 a ne).trans e
  have az : arr.size = n := by rw [← Array.length_toList, pm.length_eq, Array.length_toList, hn]
  refine flip_all (s := { s with heap := h3, drawn := d }) ne arr (fun e he => gd e (pm.mem_iff.mp he)) ((pm.map keyOf).nodup_iff.mpr nd) R3 X3 (by rw [az]; exact Nat.lt_of_le_of_lt (show _ ≤ 17 by omega) (by decide)) fun h4 c sb2 R4 hc => ?_
  refine wpAny_pure (wpAny_pure ?_)
  refine ⟨_, rfl, (fun z => by cases z), q h4 d c (fun x o e => ?_) (R4.congr fun j => ?_) (by omega)⟩
  · have lx : x ≠ s.heap.objs.size := Nat.ne_of_lt (Heap.lt_size e)
    exact (sb2.2 x lx).trans ((sb.2 x lx).trans (keep x o e))
  · congr 1
    rw [Bool.eq_iff_iff, mm j, decide_eq_true_eq]
    exact (pm.map keyOf).mem_iff.symm
end
end Ft

/-! part: FtXo -/
set_option Elab.async false
set_option linter.all false
set_option maxRecDepth 100000
/-! sorted(set(a) ^ set(b)) of tuples of small numbers; n.bit_length(). -/
namespace Ft
open PySem L2 PyProof.Rows
section
variable {X : Cx} {K : Frg} {w : World} {ρ : Rho}
def rSetTI (K : Frg) (w : World) : List V → Hp → VK → Prop := fun xs H Q => ∃ (l : Addr) (ns : List Int), xs = [V.ref l] ∧ SqT K H l (ns.map V.int) ∧ ns.length ≤ 8 ∧
  ∀ (a : Addr) (c : Nat), H a = none → c ≤ ns.length → Q (.ref a) (upd H a (SetO w a (fun j => decide (j ∈ ns)) c))
theorem cr_setTI (hc : X.calm = true) : CallR X (.type "set") (rSetTI X.K X.w) := by
  intro pins s σ H xs us Q I r h
  obtain ⟨l, ns, rfl, hl, h8, q⟩ := h
  rw [Vals.ref1 r]
  obtain ⟨its, rv, pl, hz⟩ := I.tuple hl
  have hi : IntsAre its.toArray.toList ns := ints_of_vals rv
  have hn : H s.heap.objs.size = none := I.hok.fresh (Nat.le_refl _)
  refine call_set_tupI ns (I.ok.hd hc) (show s.heap.IsTuple l its.toArray from pl) hi (by unfold scanBound; omega) fun h2 tk c R hcn k => ?_
  exact ⟨.ref s.heap.objs.size, upd H s.heap.objs.size (SetO X.w s.heap.objs.size (fun j => decide (j ∈ ns)) c), I.laid (t' := tk) k (Nat.le_refl _) (setO_new R), rfl, q _ c hn hcn⟩
def rXorS (w : World) : R2 := fun x y H Q => ∃ (a b : Addr) (S T : Int → Bool) (n m : Nat), x = V.ref a ∧ y = V.ref b ∧ H a = some (SetO w a S n) ∧ H b = some (SetO w b T m) ∧ (∀ k, T k = true → 0 ≤ k ∧ k ≤ 7) ∧ n ≤ 8 ∧ m ≤ 8 ∧
  ∀ (p : Addr) (c : Nat), H p = none → c ≤ 16 → Q (.ref p) (upd H p (SetO w p (fun j => T j ^^ S j) c))
theorem op_sxor : OpR X (binaryOp .BitXor) (rXorS X.w) := by
  intro pins s σ H x y v u Q I rx ry h
  obtain ⟨a, b, S, T, n, m, rfl, rfl, ha, hb, sm, n8, m8, q⟩ := h
  cases rx
  cases ry
  have hn : H s.heap.objs.size = none := I.hok.fresh (Nat.le_refl _)
  refine set_xor (setO_get I ha) (setO_get I hb) sm n8 m8 fun h2 d c keep R hc => ?_
  have J : Inv X pins σ (upd H s.heap.objs.size (SetO X.w s.heap.objs.size (fun j => T j ^^ S j) c)) { s with heap := h2, gens := s.gens, drawn := d, toks := s.toks } :=
    I.call (ch := []) (Un.laid keep (Nat.le_refl _) hn) (I.hok.laid keep (Nat.le_refl _) (setO_new R)) I.bare fun _ z => nomatch z
  exact ⟨.ref s.heap.objs.size, _, J, rfl, q _ c hn hc⟩
theorem not_row {R : Addr → Prop} {H H1 H2 : Hp} {H' : Hp} (g : Gr K R H H1 H' H2) {a : Addr} (n : H2 a = none) : ¬ R a := fun r => by
  obtain ⟨_, _, _, _, _, _, y, _⟩ := g.e a r
  rw [n] at y
  cases y
theorem af_sxor {ta tb : TE} {P : List Da → Prop} (h : AE K ta ρ fun d => ∃ a, d = tupI a ∧ a.length ≤ 8 ∧ AE K tb ρ fun e => ∃ b, e = tupI b ∧ b.length ≤ 8 ∧ (∀ k ∈ b, 0 ≤ k ∧ k ≤ 7) ∧
      ∀ out : List Int, out.Pairwise (· < ·) → (∀ k, k ∈ out ↔ (k ∈ a ∧ k ∉ b) ∨ (k ∈ b ∧ k ∉ a)) → P (nums out)) :
    AF K (tCB (rSortedSet w) (tCons (tOp (rXorS w) (tCB (rSetTI K w) (tCons ta tNil)) (tCB (rSetTI K w) (tCons tb tNil))) tNil)) ρ P := fun σ H H1 s e Q q =>
  h σ H H1 s e _ fun d ⟨a, ed, la, k⟩ v H' H2 g dx => by
    subst ed
    cases dx with
    | @tup l xs _ sl x =>
      have exs := dq_nums x
      subst exs
      refine ⟨l, a, rfl, Evl.ex_t g.b sl, la, fun p c np hc => ?_⟩
      have g1 : Gr K (Rows σ ρ) H H1 H' (upd H2 p (SetO w p (fun j => decide (j ∈ a)) c)) := g.trans (GrN.up (GrN.fresh g.b np) fun x rx => (s.gr g).rowAt rx)
      have nr : ¬ Rows σ ρ p := not_row g np
      refine k σ H' _ (s.gr g1) g1.b _ fun d ⟨b, ed, lb, sm, pf⟩ v2 H3 H4 g2 dy => ?_
      subst ed
      cases dy with
      | @tup l2 ys _ sl2 y =>
        have eys := dq_nums y
        subst eys
        have hp : H4 p = some (SetO w p (fun j => decide (j ∈ a)) c) := g2.c p _ nr upd_same
        refine ⟨l2, b, rfl, Evl.ex_t g2.b sl2, lb, fun p2 c2 np2 hc2 => ?_⟩
        have np12 : p ≠ p2 := fun z => by
          subst z
          rw [hp] at np2
          cases np2
        have gg := g1.trans g2
        have f1 : Ex H4 (upd H4 p2 (SetO w p2 (fun j => decide (j ∈ b)) c2)) := Evl.Ex.new np2
        refine ⟨p, p2, _, _, c, c2, rfl, rfl, by rw [upd_ne np12]; exact hp, upd_same, fun j hj => sm j (of_decide_eq_true hj), by omega, by omega, fun p3 c3 np3 hc3 => ?_⟩
        refine ⟨p3, _, c3, rfl, upd_same, by omega, fun ns p4 pw mm hl np4 => ?_⟩
        have f2 := Evl.Ex.new (o := SetO w p3 (fun j => decide (j ∈ b) ^^ decide (j ∈ a)) c3) np3
        have f3 := Evl.Ex.new (o := HO.lst (ns.map V.int)) np4
        have n34 : p4 ≠ p3 := fun z => by
          subst z
          rw [upd_same] at np4
          cases np4
        have np4' : (upd H4 p2 (SetO w p2 (fun j => decide (j ∈ b)) c2)) p4 = none := by
          rw [upd_ne n34] at np4
          exact np4
        have n24 : p4 ≠ p2 := fun z => by
          subst z
          rw [upd_same] at np4'
          cases np4'
        have np4'' : H4 p4 = none := by
          rw [upd_ne n24] at np4'
          exact np4'
        refine q _ (pf ns pw fun j => ?_) p4 _ H3 _ (gg.trans (GrN.up (GrN.mk' gg.b (f1.trans (f2.trans f3))) fun x rx => ((s.gr g1).gr g2).rowAt rx)) (gg.old np4'') (Evl.fresh_back gg.b np4'') upd_same (dq_intsV ns)
        rw [mm j]
        by_cases h1 : j ∈ a <;> by_cases h2 : j ∈ b <;> simp [h1, h2]
theorem ae_bits {te : TE} {P : Da → Prop} (h : AE K te ρ fun d => ∃ i, d = .int i ∧ P (.int ((Builtin.Int.intBits i : Nat) : Int))) : AE K (tBits te) ρ P := fun σ H H1 s e Q q =>
  h σ H H1 s e _ fun d ⟨i, ed, p⟩ v H' H2 g dx => by
    subst ed
    cases dx
    exact ⟨i, rfl, q _ p _ H' H2 g (.int _)⟩
theorem bits_all : ∀ d : _root_.Fin 20, Builtin.Int.intBits (((2 ^ d.val : Nat) : Int)) = d.val + 1 := by decide +kernel
theorem bits_pow {d : Nat} (h : d < 20) : Builtin.Int.intBits (((2 ^ d : Nat) : Int)) = d + 1 := bits_all ⟨d, h⟩
end
end Ft

/-! part: FtHl -/
set_option Elab.async false
set_option linter.all false
set_option maxRecDepth 100000
/-! Instances of a class of one's own: made, read, changed, over data. -/
namespace Ft
open PySem L2
section
variable {K : Frg} {ρ : Rho} {O : Out → Prop} {P : Da → Prop} {i : Nat} {m : Bool} {C : Addr × Addr} {fs fs' : List (Str × Da)} {f : Str} {d : Da}
theorem HalAt.self {H H1 : Hp} {l : Addr} (x : HalAt K H H1 C l fs) : HalAt K H H1 (l, C.2) l fs := ⟨rfl, x.2⟩
theorem fs_look {H : Hp} : ∀ {xs : List (Str × V)} {fs : List (Str × Da)}, FsAt K H xs fs → fs.lookup f = some d → ∃ v, xs.lookup f = some v ∧ Dq K H v d
  | _, [], _, h => by cases h
  | xs, (g, e) :: fs, ⟨h1, h2⟩, h => by
    cases xs with
    | nil => cases h1
    | cons x xs =>
      obtain ⟨g2, v⟩ := x
      rw [List.map_cons, List.map_cons] at h1 h2
      injection h1 with e1 e2
      have e1 : g2 = g := e1
      subst e1
      cases h2 with
      | cons a b =>
        rw [List.lookup_cons] at h ⊢
        cases c : f == g2 with
        | true =>
          rw [c] at h
          cases h
          exact ⟨v, rfl, a⟩
        | false =>
          rw [c] at h
          exact fs_look ⟨e2, b⟩ h
theorem fs_none {H : Hp} : ∀ {xs : List (Str × V)} {fs : List (Str × Da)}, FsAt K H xs fs → fs.lookup f = none → xs.lookup f = none
  | [], _, _, _ => rfl
  | x :: xs, [], ⟨h1, _⟩, _ => by cases h1
  | x :: xs, (g, e) :: fs, ⟨h1, h2⟩, h => by
    obtain ⟨g2, v⟩ := x
    rw [List.map_cons, List.map_cons] at h1 h2
    injection h1 with e1 e2
    have e1 : g2 = g := e1
    subst e1
    cases h2 with
    | cons a b =>
      rw [List.lookup_cons] at h ⊢
      cases c : f == g2 with
      | true =>
        rw [c] at h
        cases h
      | false =>
        rw [c] at h
        exact fs_none ⟨e2, b⟩ h
def putD (f : Str) (v : Da) : List (Str × Da) → List (Str × Da)
  | [] => [(f, v)]
  | (g, x) :: r => if g = f then (g, v) :: r else (g, x) :: putD f v r
theorem fs_put {H : Hp} {v : V} (dv : Dq K H v d) : ∀ {xs : List (Str × V)} {fs : List (Str × Da)}, FsAt K H xs fs → FsAt K H (putF f v xs) (putD f d fs)
  | [], [], _ => ⟨rfl, .cons dv .nil⟩
  | [], _ :: _, ⟨h1, _⟩ => by cases h1
  | x :: xs, [], ⟨h1, _⟩ => by cases h1
  | x :: xs, (g, e) :: fs, ⟨h1, h2⟩ => by
    obtain ⟨g2, v2⟩ := x
    rw [List.map_cons, List.map_cons] at h1 h2
    injection h1 with e1 e2
    have e1 : g2 = g := e1
    subst e1
    cases h2 with
    | cons a b =>
      show FsAt K H (if g2 = f then (g2, v) :: xs else (g2, v2) :: putF f v xs) (if g2 = f then (g2, d) :: fs else (g2, e) :: putD f d fs)
      split
      · exact ⟨by rw [List.map_cons, List.map_cons, e2], .cons dv b⟩
      · obtain ⟨i1, i2⟩ := fs_put dv (xs := xs) (fs := fs) ⟨e2, b⟩
        exact ⟨by rw [List.map_cons, List.map_cons, i1], .cons a i2⟩
theorem fs_len {H : Hp} {xs : List (Str × V)} {fs : List (Str × Da)} (h : FsAt K H xs fs) : xs.length = fs.length := by
  have := congrArg List.length h.1
  rwa [List.length_map, List.length_map] at this
/-- x.f -/
theorem ae_fld (hi : ρ[i]? = some (.hal m C fs)) (c : Cls K C.2) (n : NoAttr K C.2 f) (hf : fs.lookup f = some d) (p : P d) : AE K (tFld K (tVar i) f) ρ P := fun σ H H1 s e Q q => by
  obtain ⟨l, sl, el, nl, dx, xs, nd, h1, h2, hx⟩ := s.hal i m C fs hi
  obtain ⟨v, lv, dv⟩ := fs_look hx hf
  exact ⟨V.ref l, sl, l, C.2, dx, xs, v, rfl, h1, c, n, lv, q d p v H H1 (Gr.refl e fun _ => s.rowAt) dv⟩
/-- what a method promises that leaves its object as it is -/
abbrev WH := List (Str × Da) → List Da → (Da → Prop) → Prop
def spH (K : Frg) (C : Addr) (W : WH) : Sp := fun vs H1 Q _ => ∃ l us ds fs P H, vs = V.ref l :: us ∧ Ex H H1 ∧ HalAt K H H1 (l, C) l fs ∧ DqAll K H us ds ∧ W fs ds P ∧ ∀ d, P d → ∀ v H' H2, GrN K H H1 H' H2 → Dq K H' v d → Q v H2
/-- .. that changes its object's attributes, and returns None -/
abbrev WM := List (Str × Da) → List Da → (List (Str × Da) → Prop) → Prop
def spM (K : Frg) (C : Addr) (W : WM) : Sp := fun vs H1 Q _ => ∃ l us ds fs P H, vs = V.ref l :: us ∧ Ex H H1 ∧ HalAt K H H1 (l, C) l fs ∧ DqAll K H us ds ∧ W fs ds P ∧
  ∀ fs', P fs' → ∀ H' G dx dx' xs xs', GrN K H H1 H' G → G l = some (.ins C dx xs) → H' dx' = none → G dx' = some (.own l) → FsAt K H' xs' fs' → Q .non (upd G l (.ins C dx' xs'))
theorem ae_hmeth0 {W : WH} {mn : Str} {E : XK} (hi : ρ[i]? = some (.hal m C fs)) (nm : fs.lookup mn = none) (h : W fs [] P) : AE K (tMeth C.2 mn (spH K C.2 W) [] E (tVar i) tNil) ρ P := fun σ H H1 s e Q q => by
  obtain ⟨l, sl, x⟩ := s.hal i m C fs hi
  obtain ⟨el, nl, dx, xs, nd, h1, h2, hx⟩ := id x
  exact ⟨V.ref l, sl, l, dx, xs, rfl, h1, fs_none hx nm, l, [], [], fs, P, H, rfl, e, x.self, .nil, h, fun d p v H' H2 g dv => q d p v H' H2 (GrN.up g fun _ => s.rowAt) dv⟩
theorem ae_hprop {W : WH} {E : XK} (hi : ρ[i]? = some (.hal m C fs)) (h : W fs [] P) : AE K (tProp C.2 (spH K C.2 W) [] E (tVar i)) ρ P := fun σ H H1 s e Q q => by
  obtain ⟨l, sl, x⟩ := s.hal i m C fs hi
  obtain ⟨el, nl, dx, xs, nd, h1, h2, hx⟩ := id x
  exact ⟨V.ref l, sl, l, dx, xs, rfl, h1, l, [], [], fs, P, H, rfl, e, x.self, .nil, h, fun d p v H' H2 g dv => q d p v H' H2 (GrN.up g fun _ => s.rowAt) dv⟩
section
variable {B : Addr → Prop} {Hs H1s H H1 : Hp} {σ : L2.St} {l dx dx' : Addr} {xs xs' : List (Str × V)}
/-- the object's attributes change -/
theorem Stt.hwrote (s : Stt K B Hs H1s H H1 σ ρ) (e : ρ[i]? = some (.hal true C fs)) (q : σ[i]? = some (some (V.ref l))) (hl : H1 l = some (.ins C.2 dx xs)) (nd : H dx' = none) (hd : H1 dx' = some (.own l)) (hy : FsAt K H xs' fs') : Stt K B Hs H1s H (upd H1 l (.ins C.2 dx' xs')) σ (ρ.set i (.hal true C fs')) := by
  obtain ⟨l', q', el, n, dx0, xs0, n2, h1, h2, hx⟩ := s.has.hal i true C fs e
  rw [q] at q'
  cases q'
  rw [hl] at h1
  cases h1
  have hi : i < ρ.length := (List.getElem?_eq_some_iff.mp e).1
  have dn : dx' ≠ l := fun z => by
    subst z
    rw [hl] at hd
    cases hd
  have ex' : Ex H (upd H1 l (.ins C.2 dx' xs')) := fun x o z => by
    rw [upd_ne (ne_of_none z n)]
    exact s.ex x o z
  have nl := s.halN i C fs l e q
  have other : ∀ (j : Nat) (c : Cell) (l' : Addr), j ≠ i → ρ[j]? = some c → c.mut → σ[j]? = some (some (V.ref l')) → l' ≠ l := fun j c l' nj ej mj qj z => by
    subst z
    exact s.has.dis j i c _ l' nj ej e mj True.intro qj q
  refine ⟨⟨?_, fun j d e' => ?_, fun j es' e' => ?_, fun j e' => ?_, fun a b c c' l' nab ea eb ma mb sa sb => ?_, fun j m' C' gs e' => ?_⟩, ex', s.a, fun x o nb z => ?_, s.d, fun j es' l' e' q' => ?_, fun j l' e' q' => ?_, fun x bx => ?_, fun j C' gs l' e' q' => ?_⟩
  · rw [List.length_set, s.has.len]
  · rcases set_get e' with ⟨_, y, _⟩ | ⟨z, y⟩
    · cases y
    · exact s.has.dat j d y
  · rcases set_get e' with ⟨_, y, _⟩ | ⟨z, y⟩
    · cases y
    · obtain ⟨l', ys, q2, n3, h3, x3⟩ := s.has.own j es' y
      exact ⟨l', ys, q2, n3, by rw [upd_ne (other j _ l' z y True.intro q2)]; exact h3, x3⟩
  · rcases set_get e' with ⟨_, y, _⟩ | ⟨z, y⟩
    · cases y
    · obtain ⟨r, q2, x2⟩ := s.has.row j y
      refine ⟨r, q2, x2.keep (Evl.Ex.refl H) x2.1 fun o w => ?_⟩
      rw [upd_ne (other j _ r z y True.intro q2)]
      exact w
  · have ga : ∃ c0, ρ[a]? = some c0 ∧ c0.mut := by
      rcases set_get ea with ⟨za, _, _⟩ | ⟨_, ya⟩
      · exact ⟨.hal true C fs, by rw [za]; exact e, True.intro⟩
      · exact ⟨c, ya, ma⟩
    have gb : ∃ c0, ρ[b]? = some c0 ∧ c0.mut := by
      rcases set_get eb with ⟨za, _, _⟩ | ⟨_, ya⟩
      · exact ⟨.hal true C fs, by rw [za]; exact e, True.intro⟩
      · exact ⟨c', ya, mb⟩
    obtain ⟨c1, e1, m1⟩ := ga
    obtain ⟨c2, e2, m2⟩ := gb
    exact s.has.dis a b c1 c2 l' nab e1 e2 m1 m2 sa sb
  · rcases set_get e' with ⟨ej, y, _⟩ | ⟨z, y⟩
    · subst ej
      cases y
      exact ⟨l, q, el, n, dx', xs', nd, upd_same, by rw [upd_ne dn]; exact hd, hy⟩
    · obtain ⟨l', q2, el3, n3, dx3, ys, m3, h3, h4, x3⟩ := s.has.hal j m' C' gs y
      have nl' := other j _ l' z y True.intro q2
      refine ⟨l', q2, el3, n3, dx3, ys, m3, by rw [upd_ne nl']; exact h3, ?_, x3⟩
      rw [upd_ne fun w => by rw [w, hl] at h4; cases h4]
      exact h4
  · rw [upd_ne (ne_of_none z nl)]
    exact s.c x o nb z
  · rcases set_get e' with ⟨_, y, _⟩ | ⟨z, y⟩
    · cases y
    · exact s.ownN j es' l' y q'
  · rcases set_get e' with ⟨_, y, _⟩ | ⟨z, y⟩
    · cases y
    · exact s.rowB j l' y q'
  · obtain ⟨j, e', q'⟩ := s.bIn x bx
    have z : i ≠ j := fun w => by
      subst w
      rw [e] at e'
      cases e'
    exact ⟨j, by rw [List.getElem?_set_ne z]; exact e', q'⟩
  · rcases set_get e' with ⟨ej, y, _⟩ | ⟨z, y⟩
    · subst ej
      exact s.halN j C fs l' (by cases y; exact e) q'
    · exact s.halN j C' gs l' y q'
/-- an object of one's own comes to a slot -/
theorem Stt.hmade (s : Stt K B Hs H1s H H1 σ ρ) {p : Addr} {H0 : Hp} (n0 : H0 p = none) (old : ∀ x o, H1s x = some o → ∃ o', H0 x = some o')
    (was : ∀ (j : Nat) (c : Cell) (l : Addr), ρ[j]? = some c → c.mut → σ[j]? = some (some (V.ref l)) → ∃ o, H0 l = some o) (nr : ρ[i]? ≠ some .row) (hp : HalAt K H H1 C p fs) :
    Stt K B Hs H1s H H1 (σ.set i (some (V.ref p))) (ρ.set i (.hal true C fs)) := by
  have ns : H1s p = none := by
    cases z : H1s p with
    | none => rfl
    | some o =>
      obtain ⟨o', z'⟩ := old p o z
      rw [n0] at z'
      cases z'
  have ne : ∀ (j : Nat) (c : Cell) (l : Addr), ρ[j]? = some c → c.mut → σ[j]? = some (some (V.ref l)) → l ≠ p := fun j c l a b d z => by
    subst z
    obtain ⟨o, w⟩ := was j c l a b d
    rw [n0] at w
    cases w
  have hi : ∀ {c : Cell}, (ρ.set i (.hal true C fs))[i]? = some c → (σ.set i (some (V.ref p)))[i]? = some (some (V.ref p)) := fun {c} e => by
    rcases set_get e with ⟨_, _, w⟩ | ⟨z, _⟩
    · exact List.getElem?_set_self (by rw [s.has.len]; exact w)
    · exact absurd rfl z
  refine ⟨⟨?_, fun j d e => ?_, fun j es e => ?_, fun j e => ?_, fun a b c c' l nab ea eb ma mb sa sb => ?_, fun j m C fs e => ?_⟩, s.ex, s.a, s.c, s.d, fun j es l e q => ?_, fun j l e q => ?_, fun x bx => ?_, fun j C fs l e q => ?_⟩
  · rw [List.length_set, List.length_set, s.has.len]
  · rcases set_get e with ⟨_, y, _⟩ | ⟨z, y⟩
    · cases y
    · rw [List.getElem?_set_ne fun w => z w.symm]
      exact s.has.dat j d y
  · rcases set_get e with ⟨_, y, _⟩ | ⟨z, y⟩
    · cases y
    · rw [List.getElem?_set_ne fun w => z w.symm]
      exact s.has.own j es y
  · rcases set_get e with ⟨_, y, _⟩ | ⟨z, y⟩
    · cases y
    · rw [List.getElem?_set_ne fun w => z w.symm]
      exact s.has.row j y
  · rcases set_get ea with ⟨za, ya, _⟩ | ⟨za, ya⟩
    · rcases set_get eb with ⟨zb, yb, _⟩ | ⟨zb, yb⟩
      · exact nab (za.trans zb.symm)
      · subst za
        rw [hi ea] at sa
        rw [List.getElem?_set_ne fun w => zb w.symm] at sb
        cases sa
        exact ne b c' _ yb mb sb rfl
    · rcases set_get eb with ⟨zb, yb, _⟩ | ⟨zb, yb⟩
      · subst zb
        rw [hi eb] at sb
        rw [List.getElem?_set_ne fun w => za w.symm] at sa
        cases sb
        exact ne a c _ ya ma sa rfl
      · rw [List.getElem?_set_ne fun w => za w.symm] at sa
        rw [List.getElem?_set_ne fun w => zb w.symm] at sb
        exact s.has.dis a b c c' l nab ya yb ma mb sa sb
  · rcases set_get e with ⟨ej, y, _⟩ | ⟨z, y⟩
    · subst ej
      cases y
      exact ⟨p, hi e, hp⟩
    · rw [List.getElem?_set_ne fun w => z w.symm]
      exact s.has.hal j m C fs y
  · rcases set_get e with ⟨_, y, _⟩ | ⟨z, y⟩
    · cases y
    · rw [List.getElem?_set_ne fun w => z w.symm] at q
      exact s.ownN j es l y q
  · rcases set_get e with ⟨_, y, _⟩ | ⟨z, y⟩
    · cases y
    · rw [List.getElem?_set_ne fun w => z w.symm] at q
      exact s.rowB j l y q
  · obtain ⟨j, e, q⟩ := s.bIn x bx
    have z : i ≠ j := fun w => by subst w; exact nr e
    exact ⟨j, by rw [List.getElem?_set_ne z]; exact e, by rw [List.getElem?_set_ne z]; exact q⟩
  · rcases set_get e with ⟨ej, y, _⟩ | ⟨z, y⟩
    · subst ej
      rw [hi e] at q
      cases q
      exact ns
    · rw [List.getElem?_set_ne fun w => z w.symm] at q
      exact s.halN j C fs l y q
end
/-- x.m(e): the object of one's own changes -/
theorem so_hmut {W : WM} {mn : Str} {E : XK} {t : TA} (hi : ρ[i]? = some (.hal true C fs)) (nm : fs.lookup mn = none) (h : AA K t ρ fun ds => W fs ds fun fs' => O (.nx (ρ.set i (.hal true C fs')))) :
    SO K (tDrop (tMeth C.2 mn (spM K C.2 W) [] E (tVar i) t)) ρ O := fun B Hs H1s H H1 σ D s f => by
  obtain ⟨l, sl, el, nl, dx, xs, nd, h1, h2, hx⟩ := s.has.hal i true C fs hi
  refine ⟨V.ref l, sl, l, dx, xs, rfl, h1, fs_none hx nm, h σ H H1 s.has s.ex _ fun ds w vs H' H2 g dq => ?_⟩
  have s2 := s.gr g
  obtain ⟨l2, sl2, x2⟩ := s2.has.hal i true C fs hi
  rw [sl] at sl2
  cases sl2
  refine ⟨l, vs, ds, fs, _, H', by rw [List.append_nil], g.b, x2.self, dq, w, fun fs' o H3 G dx1 dx' ys ys' g2 hl n' hd hf => ?_⟩
  have s3 := s2.gr (GrN.up g2 fun _ => s2.has.rowAt)
  exact f.nx _ o σ H3 _ (s3.hwrote hi sl hl n' hd hf)
/-- x = C(..) -/
theorem so_make {Cc : Addr} {W : WM} {E : XK} {t : TA} (nr : ρ[i]? ≠ some .row) (h : AA K t ρ fun ds => W [] ds fun fs' => ∀ l, O (.nx (ρ.set i (.hal true (l, Cc) fs')))) :
    SO K (tAsg (tMake Cc (spM K Cc W) [] E t) (gName i)) ρ O := fun B Hs H1s H H1 σ D s f =>
  h σ H H1 s.has s.ex _ fun ds w vs H' H2 g dq x dx nx ndx ne => by
    have nd2 : (upd H2 dx (.own x)) x = none := by rw [upd_ne fun z => ne z.symm]; exact nx
    have e1 : Ex H2 (upd H2 dx (.own x)) := Evl.Ex.new ndx
    have e2 : Ex (upd H2 dx (.own x)) (upd (upd H2 dx (.own x)) x (.ins Cc dx [])) := Evl.Ex.new nd2
    have g1 : GrN K H' H2 H' (upd (upd H2 dx (.own x)) x (.ins Cc dx [])) := GrN.mk' g.b (e1.trans e2)
    have s2 := (s.gr g).gr (GrN.up g1 fun _ => (s.gr g).has.rowAt)
    refine ⟨x, vs, ds, [], _, H', by rw [List.append_nil], g1.b, ⟨rfl, Evl.fresh_back g.b nx, dx, [], Evl.fresh_back g.b ndx, upd_same, by rw [upd_ne ne, upd_same], rfl, .nil⟩, dq, w, fun fs' o H3 G dx1 dx' ys ys' g2 hl n' hd hf => ⟨rfl, ?_⟩⟩
    have hx0 : (upd (upd H2 dx (.own x)) x (.ins Cc dx [])) x = some (.ins Cc dx []) := upd_same
    have hd0 : (upd (upd H2 dx (.own x)) x (.ins Cc dx [])) dx = some (.own x) := by rw [upd_ne ne, upd_same]
    have hxG := g2.c x _ (fun z => z) hx0
    have nx' := g2.d x _ hx0 (Evl.fresh_back g.b nx)
    have dn : dx' ≠ x := fun z => by
      subst z
      rw [hl] at hd
      cases hd
    have s3 := s2.gr (GrN.up g2 fun _ => s2.has.rowAt)
    -- the object as it stands, then its attributes
    have nx1 : H1 x = none := g.old nx
    have ex4 : Ex H3 (upd G x (.ins Cc dx' ys')) := fun b u z => by
      rw [upd_ne (ne_of_none z nx')]
      exact g2.b b u z
    have s4 : Stt K B Hs H1s H3 (upd G x (.ins Cc dx' ys')) σ ρ := by
      have ns : H1s x = none := by
        cases z : H1s x with
        | none => rfl
        | some o =>
          obtain ⟨o', z'⟩ := s.old z
          rw [nx1] at z'
          cases z'
      have oth : ∀ (j : Nat) (c : Cell) (l' : Addr), ρ[j]? = some c → c.mut → σ[j]? = some (some (V.ref l')) → l' ≠ x := fun j c l' e m q z => by
        subst z
        obtain ⟨o, w⟩ := s.has.there e m q
        rw [nx1] at w
        cases w
      refine ⟨⟨s3.has.len, s3.has.dat, fun j es e' => ?_, fun j e' => ?_, s3.has.dis, fun j m C fs e' => ?_⟩, ex4, s3.a, fun b u nb z => ?_, s3.d, s3.ownN, s3.rowB, s3.bIn, s3.halN⟩
      · obtain ⟨l', zs, q2, n3, h3, x3⟩ := s3.has.own j es e'
        exact ⟨l', zs, q2, n3, by rw [upd_ne (oth j _ l' e' True.intro q2)]; exact h3, x3⟩
      · obtain ⟨r, q2, x2⟩ := s3.has.row j e'
        refine ⟨r, q2, x2.keep (Evl.Ex.refl H3) x2.1 fun o w => ?_⟩
        rw [upd_ne (oth j _ r e' True.intro q2)]
        exact w
      · obtain ⟨l', q2, el3, n3, dx3, zs, m3, h3, h4, x3⟩ := s3.has.hal j m C fs e'
        refine ⟨l', q2, el3, n3, dx3, zs, m3, by rw [upd_ne (oth j _ l' e' True.intro q2)]; exact h3, ?_, x3⟩
        rw [upd_ne fun w => by rw [w, hl] at h4; cases h4]
        exact h4
      · rw [upd_ne (ne_of_none z ns)]
        exact s3.c b u nb z
    exact f.nx _ (o x) _ H3 _ (s4.hmade (H0 := H1) nx1 (fun b u z => s.old z) (fun j c l' e m q => s.has.there e m q) nr ⟨rfl, nx', dx', ys', n', upd_same, by rw [upd_ne dn]; exact hd, hf⟩)
end
end Ft

/-! part: FtHm -/
set_option Elab.async false
set_option linter.all false
set_option maxRecDepth 100000
/-! Methods, by their bodies over data. -/
namespace Ft
open PySem L2
section
variable {K : Frg} {ρ : Rho} {O : Out → Prop} {P : Da → Prop} {i : Nat} {m : Bool} {C : Addr × Addr} {fs fs' : List (Str × Da)} {f : Str} {d : Da}
/-- x.f = e -/
theorem so_setf {te : TE} (hi : ρ[i]? = some (.hal true C fs)) (c : Cls K C.2) (n : NoAttr K C.2 f) (hl : fs.length < 1000) (h : AE K te ρ fun d => O (.nx (ρ.set i (.hal true C (putD f d fs))))) : SO K (sFld K (tVar i) te f) ρ O := fun B Hs H1s H H1 σ D s fin =>
  h σ H H1 s.has s.ex _ fun d o v H' H2 g dv => by
    have s2 := s.gr g
    obtain ⟨l, sl, el, nl, dx, xs, nd, h1, h2, hx⟩ := s2.has.hal i true C fs hi
    exact ⟨V.ref l, sl, l, C.2, dx, xs, rfl, h1, c, n, by rw [fs_len hx]; exact hl, fin.nx _ o σ H' _ (s2.hwrote hi sl h1 nd h2 (fs_put dv hx))⟩
/-- the slots of a method at its start -/
def rhoH (n : Nat) (m : Bool) (C : Addr × Addr) (fs : List (Str × Da)) (ds : List Da) : Rho := .hal m C fs :: (ds.map Cell.dat ++ List.replicate (n - 1 - ds.length) .un)
theorem hasH {N : List Str} {H H1 : Hp} {l : Addr} {vs : List V} {ds : List Da} (hx : HalAt K H H1 C l fs) (dx : DqAll K H vs ds) : Has K H H1 (start N (V.ref l :: vs)) (rhoH N.length m C fs ds) where
  len := by
    unfold L2.start rhoH
    have e := dps_len dx
    simp only [List.length_append, List.length_cons, List.length_map, List.length_replicate]
    omega
  dat := fun i d e => by
    rcases cons_get e with ⟨_, z⟩ | ⟨j, rfl, e'⟩
    · cases z
    · rcases dats_get e' with ⟨d', e1, e2⟩ | e1
      · cases e1
        obtain ⟨v, ev, dv⟩ := dps_get dx e2
        exact ⟨v, start_get (vs := V.ref l :: vs) (i := j + 1) (by simpa using ev), dv⟩
      · cases e1
  own := fun i d e => by
    rcases cons_get e with ⟨_, z⟩ | ⟨j, rfl, e'⟩
    · cases z
    · rcases dats_get e' with ⟨d', e1, e2⟩ | e1 <;> cases e1
  row := fun i e => by
    rcases cons_get e with ⟨_, z⟩ | ⟨j, rfl, e'⟩
    · cases z
    · rcases dats_get e' with ⟨d', e1, e2⟩ | e1 <;> cases e1
  dis := fun a b c c' l ne ea eb ma mb sa sb => by
    rcases cons_get ea with ⟨rfl, z⟩ | ⟨j, rfl, e'⟩
    · rcases cons_get eb with ⟨rfl, z'⟩ | ⟨j', rfl, e''⟩
      · exact ne rfl
      · rcases dats_get e'' with ⟨d', e1, e2⟩ | e1 <;> (subst e1; exact mb)
    · rcases dats_get e' with ⟨d', e1, e2⟩ | e1 <;> (subst e1; exact ma)
  hal := fun i m C fs e => by
    rcases cons_get e with ⟨rfl, z⟩ | ⟨j, rfl, e'⟩
    · cases z
      exact ⟨l, rfl, hx⟩
    · rcases dats_get e' with ⟨d', e1, e2⟩ | e1 <;> cases e1
theorem rhoH_get {n : Nat} {ds : List Da} {c : Cell} {j : Nat} (h : (rhoH n m C fs ds)[j]? = some c) : (j = 0 ∧ c = .hal m C fs) ∨ (∃ d, c = .dat d) ∨ c = .un := by
  rcases cons_get h with z | ⟨k, rfl, e⟩
  · exact .inl z
  · rcases dats_get e with ⟨d, e1, _⟩ | e1
    · exact .inr (.inl ⟨d, e1⟩)
    · exact .inr (.inr e1)
/-- behind a method that changes its object -/
def chgO (C : Addr × Addr) (P : List (Str × Da) → Prop) : Out → Prop
  | .nx ρ => ∃ fs, ρ[0]? = some (.hal true C fs) ∧ P fs
  | _ => False
end
section
variable {P : Program} {w : World} {K : Frg} {mg : Str → Option Value} {base : Heap} {C : Addr}
theorem fn_H {k : Nat} {x qual : Str} {st : Stmt} {f : Addr} {fd : FuncData} {N ps : List Str} {W : WH} (F : Fun K x qual st f fd) (S : FnScope N ps (defScope st)) (hl : ∀ fs ds P, W fs ds P → ds.length + 1 = ps.length)
    (body : ∀ (cdv : Value) (A : Around) (outer : List Env) (s : Shared) (H : Hp) (E : XK), Room k (A.deeper (PyProof.Rows.envOfC qual (defScope st) s.heap.objs.size f cdv)) →
      ∃ t, PSs (cxOf CX0 P w K mg base N qual (defScope st) f cdv A outer s H E).nox (defBody st) t ∧ ∀ fs ds P, W fs ds P → ∀ l, SO K t (rhoH N.length false (l, C) fs ds) (retO P)) : FnOk P w K mg base CX0 (k + 1) f fd ps (spH K C W) := by
  refine F.ok S (fun vs H Q E ⟨l, us, ds, fs, P, H0, ev, e, hx, dx, wp, q⟩ => by rw [ev, List.length_cons, dps_len dx]; exact hl fs ds P wp) (fun cdv A outer s H vs Q E hr ⟨l, us, ds, fs, P, H0, ev, e, hx, dx, wp, q⟩ => ?_)
  subst ev
  obtain ⟨t, pt, so⟩ := body cdv A outer s H E hr
  refine ⟨t, pt, so fs ds P wp l (fun _ => False) H0 H H0 H (start N (V.ref l :: us)) _ ⟨hasH hx dx, e, Evl.Ex.refl _, fun x o _ z => z, fun x o _ z => z, fun i es l z => ?_, fun i l z zz => ?_, fun x z => z.elim, fun i C fs l z => ?_⟩ ⟨fun ρ' p σ' H' H2 s' => q _ p _ H' H2 s'.toGr .non, fun d p v H' H2 g dv => q d p v H' H2 g dv, fun ρ' p => p.elim, fun ρ' p => p.elim⟩⟩
  · rcases rhoH_get z with ⟨_, y⟩ | ⟨d, y⟩ | y <;> cases y
  · rcases rhoH_get z with ⟨_, y⟩ | ⟨d, y⟩ | y <;> cases y
  · rcases rhoH_get z with ⟨_, y⟩ | ⟨d, y⟩ | y <;> cases y
theorem fn_M {k : Nat} {x qual : Str} {st : Stmt} {f : Addr} {fd : FuncData} {N ps : List Str} {W : WM} (F : Fun K x qual st f fd) (S : FnScope N ps (defScope st)) (hl : ∀ fs ds P, W fs ds P → ds.length + 1 = ps.length)
    (body : ∀ (cdv : Value) (A : Around) (outer : List Env) (s : Shared) (H : Hp) (E : XK), Room k (A.deeper (PyProof.Rows.envOfC qual (defScope st) s.heap.objs.size f cdv)) →
      ∃ t, PSs (cxOf CX0 P w K mg base N qual (defScope st) f cdv A outer s H E).nox (defBody st) t ∧ ∀ fs ds P, W fs ds P → ∀ l, SO K t (rhoH N.length true (l, C) fs ds) (chgO (l, C) P)) : FnOk P w K mg base CX0 (k + 1) f fd ps (spM K C W) := by
  refine F.ok S (fun vs H Q E ⟨l, us, ds, fs, P, H0, ev, e, hx, dx, wp, q⟩ => by rw [ev, List.length_cons, dps_len dx]; exact hl fs ds P wp) (fun cdv A outer s H vs Q E hr ⟨l, us, ds, fs, P, H0, ev, e, hx, dx, wp, q⟩ => ?_)
  subst ev
  obtain ⟨t, pt, so⟩ := body cdv A outer s H E hr
  obtain ⟨_, nl, dx0, xs0, nd, h1, h2, hf⟩ := id hx
  let Hl : Hp := fun b => if b = l then none else H b
  have hlE : ∀ {b o}, Hl b = some o → b ≠ l ∧ H b = some o := fun {b o} z => by
    have z : (if b = l then none else H b) = some o := z
    by_cases c : b = l
    · rw [if_pos c] at z
      cases z
    · rw [if_neg c] at z
      exact ⟨c, z⟩
  refine ⟨t, pt, so fs ds P wp l (fun _ => False) H0 Hl H0 H (start N (V.ref l :: us)) _ ⟨hasH hx dx, e, Evl.Ex.refl _, fun x o _ z => (hlE z).2, fun x o _ z => z, fun i es l z => ?_, fun i l z zz => ?_, fun x z => z.elim, fun i C fs l2 z zz => ?_⟩ ⟨fun ρ' p σ' H' H2 s' => ?_, fun d p v H' H2 g dv => p.elim, fun ρ' p => p.elim, fun ρ' p => p.elim⟩⟩
  · rcases rhoH_get z with ⟨_, y⟩ | ⟨d, y⟩ | y <;> cases y
  · rcases rhoH_get z with ⟨_, y⟩ | ⟨d, y⟩ | y <;> cases y
  · rcases rhoH_get z with ⟨ei, y⟩ | ⟨d, y⟩ | y
    · subst ei
      have zz : some (some (V.ref l)) = some (some (V.ref l2)) := zz
      cases zz
      show (if l = l then none else H l) = none
      rw [if_pos rfl]
    · cases y
    · cases y
  · obtain ⟨fs', e', pf⟩ := p
    obtain ⟨l2, sl2, el2, n2, dx2, xs2, nd2, h3, h4, hf2⟩ := s'.has.hal 0 true _ fs' e'
    have el2 : l2 = l := el2
    subst el2
    let G : Hp := upd H2 l2 (.ins C dx0 xs0)
    have gl : G l2 = some (.ins C dx0 xs0) := upd_same
    have gn : ∀ b, b ≠ l2 → G b = H2 b := fun b z => upd_ne z
    have hl0 : ∀ b o, b ≠ l2 → H b = some o → Hl b = some o := fun b o z y => by
      show (if b = l2 then none else H b) = some o
      rw [if_neg z]
      exact y
    have gr : GrN K H0 H H' G := ⟨s'.a, fun b o z => by
      rw [gn b (ne_of_none z n2)]
      exact s'.ex b o z, fun b o _ z => by
      by_cases c : b = l2
      · rw [c] at z ⊢
        rw [gl, ← h1]
        exact z
      · rw [gn b c]
        exact s'.c b o (fun z => z) (hl0 b o c z), fun b o z n => by
      by_cases c : b = l2
      · rw [c]
        exact n2
      · exact s'.d b o (hl0 b o c z) n, fun b z => z.elim⟩
    have dn : dx2 ≠ l2 := fun z => by
      rw [z, h3] at h4
      cases h4
    have q' := q fs' pf H' G dx0 dx2 xs0 xs2 gr gl nd2 ((gn _ dn).trans h4) hf2
    have eH : upd G l2 (.ins C dx2 xs2) = H2 := by
      funext b
      by_cases c : b = l2
      · rw [c, upd_same, h3]
      · rw [upd_ne c, gn b c]
    rw [eH] at q'
    exact q'
end
end Ft

/-! part: FtHn -/
set_option Elab.async false
set_option linter.all false
set_option maxRecDepth 100000
/-! Methods, properties and the making of an object, by name. -/
namespace Ft
open PySem L2
/-- a method of the class at C -/
structure MetAt (P : Program) (w : World) (K : Frg) (mg : Str → Option Value) (base : Heap) (k : Nat) (C : Addr) (m : Str) (sp : Sp) : Prop where
  ex : ∃ f fd ps, Cls K C ∧ Meth K C m f ∧ FnOk P w K mg base CX0 k f fd ps sp ∧ Binds K fd ps []
/-- a property of it -/
structure ProAt (P : Program) (w : World) (K : Frg) (mg : Str → Option Value) (base : Heap) (k : Nat) (C : Addr) (m : Str) (sp : Sp) : Prop where
  ex : ∃ p f fd ps, Cls K C ∧ PropOf K C m p f ∧ FnOk P w K mg base CX0 k f fd ps sp ∧ Binds K fd ps []
/-- the class called; sp: its __init__ -/
structure MakAt (P : Program) (w : World) (K : Frg) (mg : Str → Option Value) (base : Heap) (k : Nat) (C : Addr) (x : Str) (sp : Sp) : Prop where
  ex : ∃ f fd ps, Mk K C f ∧ FnOk P w K mg base CX0 k f fd ps sp ∧ mg x = some (.ref C) ∧ Binds K fd ps []
section
variable {X : Cx} {k j : Nat} {C : Addr} {x m : Str} {sp : Sp} {p pos apos : Pos} {e o : Expr} {es : List Expr} {ta : TE} {t : TA}
theorem pe_mkA (c : MakAt X.prog X.w X.K X.mg X.base k C x sp) (hr : Room (k + 1) X.A) (hg : Gl X x) (ha : PA X (e :: es) t)
    (hdb : (x == ("__debug__" : Str)) = false := by decide) (he : starEach (e :: es) X.env = (false, eval e X.env) :: starEach es X.env := by rfl) (hpl : (backTo pos (starEach es X.env)).any (·.1) = false := by rfl) :
    PE X (.Call (.Name x p) (e :: es) [] pos) (tMake C sp [] E0 t) := by
  obtain ⟨f, fd, ps, M, F, hm, b⟩ := c.ex
  exact pe_make M F hr hg hm b .nil pass0 ha hdb he hpl
theorem pe_mtA {pl : Sem Bool} (c : MetAt X.prog X.w X.K X.mg X.base k C m sp) (hr : Room k X.A) (he : PE X o ta) (ha : PA X (e :: es) t)
    (hst : starEach (e :: es) X.env = (false, eval e X.env) :: starEach es X.env := by rfl) (hpl : (backTo pos (starEach es X.env)).any (·.1) = false := by rfl)
    (ht : eval (.Call (.Attribute o m apos) (e :: es) [] pos) X.env = (do
      let ov ← eval o X.env
      standAt apos.atName
      let (f, first) ← holding [ov] (getMethod ov m pl)
      callWith pos f first (backTo pos (starEach (e :: es) X.env)) (backToKw pos (keywordEach [] X.env))) := by rfl) :
    PE X (.Call (.Attribute o m apos) (e :: es) [] pos) (tMeth C m sp [] E0 ta t) := by
  obtain ⟨f, fd, ps, hc, hm, F, b⟩ := c.ex
  exact pe_meth (pl := pl) he hc hm F hr b .nil pass0 ha hst hpl ht
theorem pe_mt0A {pl : Sem Bool} (c : MetAt X.prog X.w X.K X.mg X.base k C m sp) (hr : Room k X.A) (he : PE X o ta)
    (ht : eval (.Call (.Attribute o m apos) [] [] pos) X.env = (do
      let ov ← eval o X.env
      standAt apos.atName
      let (f, first) ← holding [ov] (getMethod ov m pl)
      callWith pos f first (backTo pos (starEach [] X.env)) (backToKw pos (keywordEach [] X.env))) := by rfl) :
    PE X (.Call (.Attribute o m apos) [] [] pos) (tMeth C m sp [] E0 ta tNil) := by
  obtain ⟨f, fd, ps, hc, hm, F, b⟩ := c.ex
  exact pe_meth0 (pl := pl) he hc hm F hr b .nil pass0 ht
theorem pe_proA (c : ProAt X.prog X.w X.K X.mg X.base k C m sp) (hr : Room (k + 1) X.A) (he : PE X e ta) (hab : attributeBase e m X.env (eval e X.env) = eval e X.env) : PE X (.Attribute e m pos) (tProp C sp [] E0 ta) := by
  obtain ⟨p, f, fd, ps, hc, hm, F, b⟩ := c.ex
  exact pe_prop he hc hm F hr b .nil pass0 hab
end
end Ft

/-! part: FtHx -/
set_option Elab.async false
set_option linter.all false
set_option maxRecDepth 100000
/-! Methods that may raise, over data. -/
namespace Ft
open PySem L2
section
variable {X : Cx} {CX : CXT} {k : Nat} {f C : Addr} {fd : FuncData} {ps : List Str} {sp : Sp} {E : L2.St → XK} {x m : Str} {p pos apos : Pos} {e o : Expr} {es : List Expr} {ta : TE} {t : TA}
def tMethX (C : Addr) (m : Str) (sp : Sp) (E : L2.St → XK) (ta : TE) (t : TA) : TE := fun σ H Q => ta σ H fun x H1 => ∃ a dx fs, x = .ref a ∧ H1 a = some (.ins C dx fs) ∧ fs.lookup m = none ∧ t σ H1 fun vs H2 => sp (x :: vs) H2 Q (E σ)
def tMakeX (C : Addr) (sp : Sp) (E : L2.St → XK) (t : TA) : TE := fun σ H Q => t σ H fun vs H1 => ∀ x dx, H1 x = none → H1 dx = none → dx ≠ x →
  sp (.ref x :: vs) (upd (upd H1 dx (.own x)) x (.ins C dx [])) (fun v H2 => v = .non ∧ Q (.ref x) H2) (E σ)
theorem pe_methX {pl : Sem Bool} (he : PE X o ta) (c : Cls X.K C) (hm : Meth X.K C m f) (F : FnOk X.prog X.w X.K X.mg X.base CX k f fd ps sp) (hr : Room k X.A) (hb : Binds X.K fd ps []) (hx : ∀ σ, PassesAt CX X σ (E σ)) (ha : PA X (e :: es) t)
    (hst : starEach (e :: es) X.env = (false, eval e X.env) :: starEach es X.env := by rfl) (hpl : (backTo pos (starEach es X.env)).any (·.1) = false := by rfl)
    (ht : eval (.Call (.Attribute o m apos) (e :: es) [] pos) X.env = (do
      let ov ← eval o X.env
      standAt apos.atName
      let (f, first) ← holding [ov] (getMethod ov m pl)
      callWith pos f first (backTo pos (starEach (e :: es) X.env)) (backToKw pos (keywordEach [] X.env))) := by rfl) :
    PE X (.Call (.Attribute o m apos) (e :: es) [] pos) (tMethX C m sp E ta t) := by
  refine ⟨fun pins s σ H Q I h => ?_⟩
  refine PySem.W.methodCall_KW (pl := pl) (thn (he.run pins s σ H _ I h) fun u s1 ⟨x, H1, I1, rx, a, dx, fs, ex, ea, l, q⟩ => ?_) ht
  subst ex
  obtain rfl : u = Value.ref a := rx
  refine getmeth_ok I1 ea c hm l ?_
  refine PySem.W.callWith_K (first := [.ref a]) (h₀ := X.base) I1.ok.mod.kin hm.kp (thn (ha.run pos pins s1 σ H1 _ I1 q) fun us s2 ⟨vs, H2, I2, r, q2⟩ => ⟨I2.kIn, ?_⟩) hst hpl
  exact run_fnS (us := .ref a :: us) (vs := .ref a :: vs) F hr hb (hx σ) I2 (.cons rfl r) q2
theorem pe_methX0 {pl : Sem Bool} (he : PE X o ta) (c : Cls X.K C) (hm : Meth X.K C m f) (F : FnOk X.prog X.w X.K X.mg X.base CX k f fd ps sp) (hr : Room k X.A) (hb : Binds X.K fd ps []) (hx : ∀ σ, PassesAt CX X σ (E σ))
    (ht : eval (.Call (.Attribute o m apos) [] [] pos) X.env = (do
      let ov ← eval o X.env
      standAt apos.atName
      let (f, first) ← holding [ov] (getMethod ov m pl)
      callWith pos f first (backTo pos (starEach [] X.env)) (backToKw pos (keywordEach [] X.env))) := by rfl) :
    PE X (.Call (.Attribute o m apos) [] [] pos) (tMethX C m sp E ta tNil) := by
  refine ⟨fun pins s σ H Q I h => ?_⟩
  refine PySem.W.methodCall_KW (pl := pl) (thn (he.run pins s σ H _ I h) fun u s1 ⟨x, H1, I1, rx, a, dx, fs, ex, ea, l, q⟩ => ?_) ht
  subst ex
  obtain rfl : u = Value.ref a := rx
  refine getmeth_ok I1 ea c hm l ?_
  exact PySem.W.callWith_K0 (first := [.ref a]) I1.kIn hm.kp (run_fnS (us := [.ref a]) (vs := [.ref a]) F hr hb (hx σ) I1 (.cons rfl .nil) q)
theorem run_makeX {pins : List (Addr × Obj)} {σ : L2.St} {H : Hp} {s : Shared} {Q : VK} {us : List Value} {vs : List V} (M : Mk X.K C f) (F : FnOk X.prog X.w X.K X.mg X.base CX k f fd ps sp) (hr : Room (k + 1) X.A) (hb : Binds X.K fd ps [])
    (hx : PassesAt CX X σ (E σ)) (I : Inv X pins σ H s) (r : Vals vs us)
    (h : ∀ x dx, H x = none → H dx = none → dx ≠ x → sp (.ref x :: vs) (upd (upd H dx (.own x)) x (.ins C dx [])) (fun v H2 => v = .non ∧ Q (.ref x) H2) (E σ)) :
    wpAny (model X.prog X.w) X.A (call (.ref C) us) (EP X pins σ Q) X.xe s := by
  have hq := h (s.heap.objs.size + 1) s.heap.objs.size (I.hok.fresh (Nat.le_succ _)) (I.hok.fresh (Nat.le_refl _)) (Nat.ne_of_lt (Nat.lt_succ_self _))
  have I2 := Inv.made (C := C) I
  have r2 : Vals (V.ref (s.heap.objs.size + 1) :: vs) (Value.ref (s.heap.objs.size + 1) :: us) := .cons rfl r
  have hl : (Value.ref (s.heap.objs.size + 1) :: us).length = ps.length := by
    have e := r2.length
    rw [F.len _ _ _ _ hq] at e
    exact e.symm
  have bb := hb _ (Value.ref (s.heap.objs.size + 1) :: us) I2.kIn (by rw [List.append_nil]; exact hl)
  rw [List.append_nil] at bb
  refine wpAny_call (make_map (f := f) I.kIn M.makes M.init (beq_iff_eq.mp M.fn) (codeAny_mono (F.run _ X.stack _ _ ⟨Value.ref (s.heap.objs.size + 1) :: us, []⟩ (Value.ref (s.heap.objs.size + 1) :: us) _ _ (E σ) (hr.make C us [])
    (I2.env0.make C us []) bb r2 hq) fun r s' hq' => ?_))
  cases r with
  | error e => exact hx pins _ _ e s' I2 hq'
  | ok fl =>
    cases fl with
    | ret u =>
      obtain ⟨v, H', I3, rv, ev, q3⟩ := I2.after hq'
      subst ev
      exact ⟨rv, ⟨V.ref (s.heap.objs.size + 1), H', I3, rfl, q3⟩⟩
    | next => exact False.elim hq'
    | brk => exact False.elim hq'
    | cont => exact False.elim hq'
theorem pe_makeX (M : Mk X.K C f) (F : FnOk X.prog X.w X.K X.mg X.base CX k f fd ps sp) (hr : Room (k + 1) X.A) (hg : Gl X x) (hm : X.mg x = some (.ref C)) (hb : Binds X.K fd ps []) (hx : ∀ σ, PassesAt CX X σ (E σ))
    (ha : PA X (e :: es) t) (hdb : (x == ("__debug__" : Str)) = false := by decide) (he : starEach (e :: es) X.env = (false, eval e X.env) :: starEach es X.env := by rfl) (hpl : (backTo pos (starEach es X.env)).any (·.1) = false := by rfl) :
    PE X (.Call (.Name x p) (e :: es) [] pos) (tMakeX C sp E t) := by
  refine ⟨fun pins s σ H Q I h => ?_⟩
  refine wpAny_Call_Name_kw (ld_glob I hg hm ?_ hdb)
  refine PySem.W.callWith_K (h₀ := X.base) I.ok.mod.kin M.kp (thn (ha.run pos pins s σ H _ I h) fun us s1 ⟨vs, H1, I1, r, q⟩ => ⟨I1.kIn, ?_⟩) he hpl
  exact run_makeX M F hr hb (hx σ) I1 r q
end
/-- what a method promises that changes its object and returns None, or raises and leaves it -/
abbrev WMX := List (Str × Da) → List Da → (List (Str × Da) → Prop) → (Value → Prop) → Prop
/-- the object at l has the attributes fs behind H1 -/
def Left (K : Frg) (C l : Addr) (H H1 : Hp) (fs : List (Str × Da)) (H2 : Hp) : Prop := ∃ H' G dx dx' xs xs', GrN K H H1 H' G ∧ G l = some (.ins C dx xs) ∧ H' dx' = none ∧ G dx' = some (.own l) ∧ FsAt K H' xs' fs ∧ H2 = upd G l (.ins C dx' xs')
def spMX (K : Frg) (C : Addr) (W : WMX) : Sp := fun vs H1 Q E => ∃ l us ds fs P R H, vs = V.ref l :: us ∧ Ex H H1 ∧ HalAt K H H1 (l, C) l fs ∧ DqAll K H us ds ∧ W fs ds P R ∧
  (∀ fs', P fs' → ∀ H2, Left K C l H H1 fs' H2 → Q .non H2) ∧ ∀ c, R c → ∀ H2, Left K C l H H1 fs H2 → E c none H2
section
variable {P : Program} {w : World} {K : Frg} {mg : Str → Option Value} {base : Heap} {C : Addr}
theorem fn_MX {k : Nat} {x qual : Str} {st : Stmt} {f : Addr} {fd : FuncData} {N ps : List Str} {W : WMX} (F : Fun K x qual st f fd) (S : FnScope N ps (defScope st)) (hl : ∀ fs ds P R, W fs ds P R → ds.length + 1 = ps.length)
    (body : ∀ (cdv : Value) (A : Around) (outer : List Env) (s : Shared) (H : Hp) (E : XK), Room k (A.deeper (PyProof.Rows.envOfC qual (defScope st) s.heap.objs.size f cdv)) →
      ∃ t, PSs (cxOf (L2N.CX P w) P w K mg base N qual (defScope st) f cdv A outer s H E) (defBody st) t ∧ ∀ fs ds P R, W fs ds P R → ∀ l, SX K (fun cls d _ H' => E cls d H') t (rhoH N.length true (l, C) fs ds) (chgO (l, C) P) fun c ρ => ρ[0]? = some (.hal true (l, C) fs) ∧ R c) :
    FnOk P w K mg base (L2N.CX P w) (k + 1) f fd ps (spMX K C W) := by
  refine fn_okX F S (fun vs H Q E ⟨l, us, ds, fs, P, R, H0, ev, e, hx, dx, wp, q, qx⟩ => by rw [ev, List.length_cons, dps_len dx]; exact hl fs ds P R wp) (fun cdv A outer s H vs Q E hr ⟨l, us, ds, fs, P, R, H0, ev, e, hx, dx, wp, q, qx⟩ => ?_)
  subst ev
  obtain ⟨t, pt, so⟩ := body cdv A outer s H E hr
  obtain ⟨_, nl, dx0, xs0, nd, h1, h2, hf⟩ := id hx
  let Hl : Hp := fun b => if b = l then none else H b
  have hlE : ∀ {b o}, Hl b = some o → b ≠ l ∧ H b = some o := fun {b o} z => by
    have z : (if b = l then none else H b) = some o := z
    by_cases c : b = l
    · rw [if_pos c] at z
      cases z
    · rw [if_neg c] at z
      exact ⟨c, z⟩
  have key : ∀ (fs' : List (Str × Da)) (ρ' : Rho) (σ' : L2.St) (H' H2 : Hp), ρ'[0]? = some (.hal true (l, C) fs') → Stt K (fun _ => False) H0 Hl H' H2 σ' ρ' → Left K C l H0 H fs' H2 := fun fs' ρ' σ' H' H2 e' s' => by
    obtain ⟨l2, sl2, el2, n2, dx2, xs2, nd2, h3, h4, hf2⟩ := s'.has.hal 0 true _ fs' e'
    have el2 : l2 = l := el2
    subst el2
    let G : Hp := upd H2 l2 (.ins C dx0 xs0)
    have gl : G l2 = some (.ins C dx0 xs0) := upd_same
    have gn : ∀ b, b ≠ l2 → G b = H2 b := fun b z => upd_ne z
    have hl0 : ∀ b o, b ≠ l2 → H b = some o → Hl b = some o := fun b o z y => by
      show (if b = l2 then none else H b) = some o
      rw [if_neg z]
      exact y
    have gr : GrN K H0 H H' G := ⟨s'.a, fun b o z => by
      rw [gn b (ne_of_none z n2)]
      exact s'.ex b o z, fun b o _ z => by
      by_cases c : b = l2
      · rw [c] at z ⊢
        rw [gl, ← h1]
        exact z
      · rw [gn b c]
        exact s'.c b o (fun z => z) (hl0 b o c z), fun b o z n => by
      by_cases c : b = l2
      · rw [c]
        exact n2
      · exact s'.d b o (hl0 b o c z) n, fun b z => z.elim⟩
    have dn : dx2 ≠ l2 := fun z => by
      rw [z, h3] at h4
      cases h4
    refine ⟨H', G, dx0, dx2, xs0, xs2, gr, gl, nd2, (gn _ dn).trans h4, hf2, ?_⟩
    funext b
    by_cases c : b = l2
    · rw [c, upd_same, h3]
    · rw [upd_ne c, gn b c]
  refine ⟨t, pt, so fs ds P R wp l (fun _ => False) H0 Hl H0 H (start N (V.ref l :: us)) _ ⟨hasH hx dx, e, Evl.Ex.refl _, fun x o _ z => (hlE z).2, fun x o _ z => z, fun i es l z => ?_, fun i l z zz => ?_, fun x z => z.elim, fun i C fs l2 z zz => ?_⟩ ⟨fun ρ' p σ' H' H2 s' => ?_, fun d p v H' H2 g dv => p.elim, fun ρ' p => p.elim, fun ρ' p => p.elim⟩ fun c ρ' rc σ' H' H2 s' => qx c rc.2 H2 (key fs ρ' σ' H' H2 rc.1 s')⟩
  · rcases rhoH_get z with ⟨_, y⟩ | ⟨d, y⟩ | y <;> cases y
  · rcases rhoH_get z with ⟨_, y⟩ | ⟨d, y⟩ | y <;> cases y
  · rcases rhoH_get z with ⟨ei, y⟩ | ⟨d, y⟩ | y
    · subst ei
      have zz : some (some (V.ref l)) = some (some (V.ref l2)) := zz
      cases zz
      show (if l = l then none else H l) = none
      rw [if_pos rfl]
    · cases y
    · cases y
  · obtain ⟨fs', e', pf⟩ := p
    exact q fs' pf H2 (key fs' ρ' σ' H' H2 e' s')
end
/-- a method that may raise -/
structure MetX (P : Program) (w : World) (K : Frg) (mg : Str → Option Value) (base : Heap) (k : Nat) (C : Addr) (m : Str) (sp : Sp) : Prop where
  ex : ∃ f fd ps, Cls K C ∧ Meth K C m f ∧ FnOk P w K mg base (L2N.CX P w) k f fd ps sp ∧ Binds K fd ps []
structure MakX (P : Program) (w : World) (K : Frg) (mg : Str → Option Value) (base : Heap) (k : Nat) (C : Addr) (x : Str) (sp : Sp) : Prop where
  ex : ∃ f fd ps, Mk K C f ∧ FnOk P w K mg base (L2N.CX P w) k f fd ps sp ∧ mg x = some (.ref C) ∧ Binds K fd ps []
section
variable {X : Cx} {Wx : WX} {k : Nat} {C : Addr} {x m : Str} {sp : Sp} {p pos apos : Pos} {e o : Expr} {es : List Expr} {ta : TE} {t : TA}
theorem pe_mtX {pl : Sem Bool} (c : MetX X.prog X.w X.K X.mg X.base k C m sp) (hr : Room k X.A) (tk : L2N.Takes X Wx) (he : PE X o ta) (ha : PA X (e :: es) t)
    (hst : starEach (e :: es) X.env = (false, eval e X.env) :: starEach es X.env := by rfl) (hpl : (backTo pos (starEach es X.env)).any (·.1) = false := by rfl)
    (ht : eval (.Call (.Attribute o m apos) (e :: es) [] pos) X.env = (do
      let ov ← eval o X.env
      standAt apos.atName
      let (f, first) ← holding [ov] (getMethod ov m pl)
      callWith pos f first (backTo pos (starEach (e :: es) X.env)) (backToKw pos (keywordEach [] X.env))) := by rfl) :
    PE X (.Call (.Attribute o m apos) (e :: es) [] pos) (tMethX C m sp (L2.WE Wx) ta t) := by
  obtain ⟨f, fd, ps, hc, hm, F, b⟩ := c.ex
  exact pe_methX (pl := pl) he hc hm F hr b (fun σ => L2N.passAt tk σ) ha hst hpl ht
theorem pe_mt0X {pl : Sem Bool} (c : MetX X.prog X.w X.K X.mg X.base k C m sp) (hr : Room k X.A) (tk : L2N.Takes X Wx) (he : PE X o ta)
    (ht : eval (.Call (.Attribute o m apos) [] [] pos) X.env = (do
      let ov ← eval o X.env
      standAt apos.atName
      let (f, first) ← holding [ov] (getMethod ov m pl)
      callWith pos f first (backTo pos (starEach [] X.env)) (backToKw pos (keywordEach [] X.env))) := by rfl) :
    PE X (.Call (.Attribute o m apos) [] [] pos) (tMethX C m sp (L2.WE Wx) ta tNil) := by
  obtain ⟨f, fd, ps, hc, hm, F, b⟩ := c.ex
  exact pe_methX0 (pl := pl) he hc hm F hr b (fun σ => L2N.passAt tk σ) ht
theorem pe_mkX (c : MakX X.prog X.w X.K X.mg X.base k C x sp) (hr : Room (k + 1) X.A) (hg : Gl X x) (tk : L2N.Takes X Wx) (ha : PA X (e :: es) t)
    (hdb : (x == ("__debug__" : Str)) = false := by decide) (he : starEach (e :: es) X.env = (false, eval e X.env) :: starEach es X.env := by rfl) (hpl : (backTo pos (starEach es X.env)).any (·.1) = false := by rfl) :
    PE X (.Call (.Name x p) (e :: es) [] pos) (tMakeX C sp (L2.WE Wx) t) := by
  obtain ⟨f, fd, ps, M, F, hm, b⟩ := c.ex
  exact pe_makeX M F hr hg hm b (fun σ => L2N.passAt tk σ) ha hdb he hpl
end
end Ft

/-! part: FtHt -/
set_option Elab.async false
set_option linter.all false
set_option maxRecDepth 100000
set_option maxHeartbeats 2000000
/-! try with any number of clauses that have names and return written texts; a def called with a lambda. -/
namespace L2N
open PySem PySem.Spec PyProof.Rows L2
/-- a clause: the class's name and address, the text -/
structure Cl where
  x : Str
  r : Str
  c : Value
  np : Pos
  j : Nat
  p : Pos
  q : Pos
  pc : Pos
abbrev Cl.h (n : Str) (k : Cl) : ExceptHandler := clause k.x n k.r k.np k.j k.p k.q k.pc
def clOut (K : PySem.W.Frag) : List Cl → VK → Value → Hp → Prop
  | [], _, _, _ => False
  | k :: r, Q, c, H => (PySem.W.exmOne K c k.c = some true ∧ Q (.str k.r) H) ∨ (PySem.W.exmOne K c k.c = some false ∧ clOut K r Q c H)
def wCl (K : PySem.W.Frag) (ks : List Cl) (D : Ends) : WX := fun c _ _ H => clOut K ks D.rt c H
section
variable {X : Cx} {n : Str} {i : Nat} {body : List Stmt} {ks : List Cl} {pos : Pos} {tb : WX → TS}
theorem ps_try_cl (hs : X.stack = X.env :: X.outer) (hf : X.env.frame = some X.env.locals) (hN : X.N.Nodup) (hi : X.N[i]? = some n) (hln : X.env.kindOf n = some .local) (hc : ∀ k ∈ ks, Names X k.x k.c)
    (hb : ∀ (W : WX) (pn : List (Addr × Obj)) (xe : Value → Shared → Prop), Takes (X.tr pn xe) W → PassesOwn (model X.prog X.w) X.A X.env xe → PSs (X.tr pn xe) body (tb W)) (h1 : ks ≠ []) :
    PS X (.Try body (ks.map (Cl.h n)) [] [] pos) (fun D σ H => tb (wCl X.K ks D) D σ H) := by
  obtain ⟨k1, kr, rfl⟩ : ∃ k r, ks = k :: r := by
    cases ks with
    | nil => exact absurd rfl h1
    | cons k r => exact ⟨k, r, rfl⟩
  refine ⟨fun pins s σ H D I h => wpAny_Try_except ?_⟩
  have ok := I.ok
  have hfr : X.A.frames = some (X.env :: X.outer) := by rw [ok.frames, hs]
  refine wpAny_mono ((hb (wCl X.K (k1 :: kr) D) (X.pn ++ pins) (fun e z => wpAny (model X.prog X.w) X.A (noteFrame e X.env) (fun _ z2 => wpAny (model X.prog X.w) X.A (setFlight e none) (fun _ z3 =>
    wpAny (model X.prog X.w) X.A (handleBy e X.env ((k1 :: kr).map (Cl.h n))) (SP X pins D) X.xe z3) X.xe z2) X.xe z) (fun u z xx => ?_) PassesOwn.looking).run [] s σ H D (I.toTry _) h) (fun f s1 hsp => ?_) (fun e s1 he => he)
  · obtain ⟨a, B, sI, pins', σ', H', cls, d, rfl, J', nb, up, sky, na, os, ag, w⟩ := xx
    have J : Inv X pins σ' H' sI := J'.ofTry ok
    have sky' : Sky B (X.env :: X.outer) a (Zn cls d) X.env.locals z.heap := by rw [← hs]; exact sky
    show wpAny (model X.prog X.w) X.A (noteFrame (.ref a) X.env) _ _ _
    refine Sky.land Zn.steady hfr hf sky' fun h3 fl3 up3 => ?_
    have J3 : Inv X pins σ' H' { z with heap := h3 } := J.landed nb fl3.1 (up.trans up3) os ag
    obtain ⟨oe3, vs3, he3, hz3, hd3⟩ := fl3.there
    have nfr : a ∉ frs (X.env :: X.outer) := fun hm => by
      obtain ⟨_, o', e', hnf⟩ := fl3.2.2.1.mem hm
      rw [he3] at e'
      cases e'
      exact hnf _ hd3
    have nL : a ≠ X.env.locals := fun y => nfr (List.mem_filterMap.mpr ⟨X.env, List.mem_cons_self, by rw [hf, y]⟩)
    have nF : a ∉ X.fs := fun hm => by
      obtain ⟨e, he, q⟩ := List.mem_filterMap.mp hm
      exact nfr (List.mem_filterMap.mpr ⟨e, List.mem_cons_of_mem _ he, q⟩)
    have S3 := J3.suite he3 hd3 na nL nF
    have LT : PySem.W.Looks (model X.prog X.w) h3 (typeOf (.ref a)) cls := fun A Q E s k q => wpAny_typeOf_ref (k _ _ he3) (by rw [hz3.1]; exact q)
    have test : ∀ {x : Str} {c : Value} {np : Pos} {Q : Value → Shared → Prop} {E : Value → Shared → Prop}, Names X x c → Q c { z with heap := h3 } → wpAny (model X.prog X.w) (X.A.mark (some (.ref a))) (eval (.Name x np) X.env) Q E { z with heap := h3 } := fun {x c np Q E} hc q => by
      obtain ⟨hg, hdbg, hm | ⟨hm, hv, hnn⟩⟩ := hc
      · exact ld_glob (X := X.suite a ((a, oe3) :: (X.pn ++ pins))) S3 hg hm q hdbg
      · exact ld_blt (X := X.suite a ((a, oe3) :: (X.pn ++ pins))) S3 hg hm hv q hnn hdbg
    -- a clause that is taken
    have take : ∀ {x r : Str} {np p q pc : Pos} {j : Nat} {rest : List ExceptHandler} {c : Value}, Names X x c → PySem.W.exmOne X.K cls c = some true → D.rt (.str r) H' → wpAny (model X.prog X.w) X.A (handleBy (.ref a) X.env (clause x n r np j p q pc :: rest)) (SP X pins D) X.xe { z with heap := h3 } := fun {x r np p q pc j rest c} hc hb1 hq => by
      refine wpAny_handleBy_cons (codeAny_handlers_test ?_) (by intro y; cases y)
      refine test hc ((PySem.W.exm_one (M := model X.prog X.w) (J3.kIn) LT hb1).here ?_)
      refine codeAny_handlers_suite_as ?_
      refine HandSPX.lands_againZ fl3 fun h4 fl4 up4 => ?_
      have J4 : Inv X pins σ' H' { z with heap := h4 } := J.landed nb fl4.1 ((up.trans up3).trans up4) os ag
      obtain ⟨oe4, vs4, he4, hz4, hd4⟩ := fl4.there
      have S4 := J4.suite he4 hd4 na nL nF
      refine store_ok (X := X.suite a ((a, oe4) :: (X.pn ++ pins))) (v := .ref a) S4 hN hi (.inl hln) rfl (fun s5 S5 => ?_) (.inr hln)
      have su : PSs (X.suite a ((a, oe4) :: (X.pn ++ pins))) [retStr r j p q] (tRet (tC (.str r))) := pss_one (ps_ret pe_str)
      refine wpAny_mono (su.run [] s5 _ H' { nx := fun _ _ => False, rt := fun v G => v = .str r ∧ G = H', bk := fun _ _ => False, ct := fun _ _ => False } S5 ⟨rfl, rfl⟩) (fun f s6 hsp => ?_) (fun _ _ y => False.elim y)
      cases f with
      | ret u =>
        obtain ⟨v6, σ6, H6, S6, r6, e6, e7⟩ := hsp
        subst e6 e7
        exact gone_ok (S6.unsuite ok) hN hi hln fun s7 J7 => ⟨_, _, _, J7, r6, hq⟩
      | next => obtain ⟨_, _, _, q6⟩ := hsp; exact q6.elim
      | brk => obtain ⟨_, _, _, q6⟩ := hsp; exact q6.elim
      | cont => obtain ⟨_, _, _, q6⟩ := hsp; exact q6.elim
    -- from the left
    have go : ∀ l : List Cl, (∀ k ∈ l, Names X k.x k.c) → clOut X.K l D.rt cls H' → wpAny (model X.prog X.w) X.A (handleBy (.ref a) X.env (l.map (Cl.h n))) (SP X pins D) X.xe { z with heap := h3 } := by
      intro l
      induction l with
      | nil => exact fun _ w => False.elim w
      | cons k l ih =>
        intro hc w
        rcases w with ⟨w1, w2⟩ | ⟨w1, w2⟩
        · exact take (hc k List.mem_cons_self) w1 w2
        · refine wpAny_handleBy_cons (codeAny_handlers_test ?_) (by intro y; cases y)
          refine test (hc k List.mem_cons_self) ((PySem.W.exm_one (M := model X.prog X.w) (J3.kIn) LT w1).here ?_)
          exact ih (fun k' hk' => hc k' (List.mem_cons_of_mem _ hk')) w2
    exact go _ hc w
  · cases f with
    | next =>
      obtain ⟨σ', H', J', q⟩ := hsp
      exact wpAny_execs_nil ⟨σ', H', J'.ofTry ok, q⟩
    | brk =>
      obtain ⟨σ', H', J', q⟩ := hsp
      exact ⟨σ', H', J'.ofTry ok, q⟩
    | cont =>
      obtain ⟨σ', H', J', q⟩ := hsp
      exact ⟨σ', H', J'.ofTry ok, q⟩
    | ret u =>
      obtain ⟨v, σ', H', J', r, q⟩ := hsp
      exact ⟨v, σ', H', J'.ofTry ok, r, q⟩
end
end L2N
namespace Ft
open PySem L2 PyProof.Rows
/-- told(lambda: ..): what the lambda gives, or the text of the clause that takes its error -/
def tTold (K : Frg) (P : Addr) (q : Str) (cs : List (Str × Addr)) (l : Lam) (ks : List L2N.Cl) (tl : XK → TE) : TE := fun σ G Q =>
  LamX.TabS G P q ∧ ∀ f G1, LamX.ExtN G G1 → ExtP P G G1 → LamX.TabS G1 P q → LamAt G1 q cs l f → tl (fun c _ F => L2N.clOut K ks Q c F) σ G1 Q
theorem pe_told {X : Cx} {k : Nat} {gn a n : Str} {ks : List L2N.Cl} {ga c P : Addr} {l : Lam} {tl : XK → TE} {p1 p3 p4 p5 p6 p7 lpos : Pos} {pg : Arguments} {sg : Scope} {dV kV doc pm cdv ct oc : Value} {an od : Option Addr} {osl : Array (Option Value)}
    (hg : Gl X gn) (hm : X.mg gn = some (.ref ga)) (hk : PySem.W.keepIn X.K (.ref ga) = true)
    (lk : X.K.lookup ga = some ⟨oc, od, .func (PySem.W.fnOf gn gn pg [.Try [.Return (some (.Call (.Name a p4) [] [] p5)) p6] (ks.map (L2N.Cl.h n)) [] [] p7] sg dV kV doc pm an cdv ct), osl⟩)
    (hcg : PySem.W.codeIn X.K cdv gn = true) (hb : L2.Binds X.K (PySem.W.fnOf gn gn pg [.Try [.Return (some (.Call (.Name a p4) [] [] p5)) p6] (ks.map (L2N.Cl.h n)) [] [] p7] sg dV kV doc pm an cdv ct) [a] [])
    (Sg : FnScope [a, n] [a] sg) (ha : Vis sg a) (hn : sg.names.lookup n = some .local) (hks : ∀ k ∈ ks, sg.names.lookup k.x = some .globalImplicit ∧ (k.x == ("__debug__" : Str)) = false ∧ X.mg k.x = some k.c) (h1 : ks ≠ [])
    (hr : Room (k + 2) X.A) (TB : LamX.TabB X.base X.mg c P) (hcode : X.env.code = .ref c) (hdef : defaultsOf l.params X.env = ([], [])) (hdv : l.dv = none) (good : LamGood X k l tl)
    (hd : (a == ("__debug__" : Str)) = false) (hcd : (a == ("__classdict__" : Str)) = false) (hdb : (gn == ("__debug__" : Str)) = false) :
    PE X (.Call (.Name gn p1) [.Lambda l.params l.body l.scope lpos] [] p3) (tTold X.K P (X.env.qual ++ "<lambda>") X.env.cells l ks tl) := by
  have nd : ([a, n] : List Str).Nodup := Sg.nd
  obtain ⟨L, B, hbody⟩ := good
  refine ⟨fun pins s σ H Q I h => ?_⟩
  refine wpAny_Call_Name_kw (ld_glob I hg hm ?_ hdb)
  refine PySem.W.callWith_K (h₀ := X.base) I.ok.mod.kin hk ?_ (by rfl) (by rfl)
  show wpAny _ _ (spliced ((false, eval (.Lambda l.params l.body l.scope lpos) X.env) :: backTo p3 (starEach [] X.env))) _ _ s
  refine Calls.spliced_cons (thn ((pe_lam0 (pos := lpos) TB hcode L.free hdef hdv).run pins s σ H (fun v G1 => ∃ f, v = .ref f ∧ LamAt G1 (X.env.qual ++ "<lambda>") X.env.cells l f ∧ tl (fun c _ F => L2N.clOut X.K ks Q c F) σ G1 Q) I ⟨h.1, fun f H1 e ep t at_ => ⟨f, rfl, at_, h.2 f H1 e ep t at_⟩⟩) fun u y1 ⟨v, F1, K10, rv, f, e1, hL, hrd⟩ => ?_)
  subst e1
  obtain rfl : u = Value.ref f := rv
  refine Calls.spliced_nil ⟨K10.kIn, ?_⟩
  have rc : codeAny (model X.prog X.w) X.A (.call (.ref ga) ⟨[.ref f], []⟩) (CR C8.CX0 X.stack X.prog X.w F1 y1 Q C8.E0) y1 := by
    refine LamX.run_ofS (N := [a, n]) (ps := [a]) (us := [.ref f]) (vs := [.ref f]) lk hcg Sg hr K10.env0 (hb y1 [.ref f] K10.kIn rfl) (.cons rfl .nil) rfl fun hr' => ?_
    let Z : Cx := cxOf C8.CX0 X.prog X.w X.K X.mg X.base [a, n] gn sg ga cdv X.A X.stack y1 F1 C8.E0
    refine ⟨_, pss_one (L2N.ps_try_cl (X := Z) (tb := fun W D τ' G' => ∃ E : XK, (∀ cls d σ' H', E cls d H' → W cls d σ' H') ∧ tRet (fun τ2 G2 Q2 => ∃ f, τ2[0]? = some (some (.ref f)) ∧ LamAt G2 (X.env.qual ++ "<lambda>") X.env.cells l f ∧ tl E σ G2 Q2) D τ' G') (i := 1) rfl rfl nd rfl hn (fun k' hk' => ⟨(hks k' hk').1, (hks k' hk').2.1, .inl (hks k' hk').2.2⟩) (fun W pn xe tk _ => ?_) h1), ?_⟩
    · refine ⟨fun pz z' σ' H' D I' h' => ?_⟩
      obtain ⟨E, hW, h3⟩ := h'
      exact (pss_one (ps_ret (pe_act (i := 0) (E := E) K10 L B tk hW hr' (fun A outer s H f c' hr2 => hbody E A outer s H f c' hr2) rfl ha hd hcd))).run pz z' σ' H' D I' h3
    · exact ⟨_, fun cls d σ' H' x => x, f, rfl, hL, hrd⟩
  refine wpAny_call (codeAny_mono rc fun r s2 hq => ?_)
  cases r with
  | error e => exact (show False from hq).elim
  | ok fl =>
    cases fl with
    | ret u => exact K10.after hq
    | next => exact False.elim hq
    | brk => exact False.elim hq
    | cont => exact False.elim hq
end Ft

/-! part: FtHo -/
set_option Elab.async false
set_option linter.all false
set_option maxRecDepth 100000
/-! Lambdas handed over at once by a body that has an object: its calls, what is left. -/
namespace Ft
open PySem L2 PyProof.Rows
section
variable {K : Frg} {Pt r : Addr} {q : Str} {cs : List (Str × Addr)} {ρ : Rho} {σ : L2.St} {ps : List (Addr × Lam)} {ls : List (Addr × List V)} {G G2 : Hp}
/-- an object that is no list, no dict's owner, no table's: another's attributes change, or a new object is given up -/
theorem has_write {H H1 : Hp} {l : Addr} {o o' : HO} (s : Has K H H1 σ ρ) (n : H l = none) (hl : H1 l = some o) (no : ∀ a, o ≠ .own a) (oth : ∀ (j : Nat) (c : Cell) (l' : Addr), ρ[j]? = some c → c.mut → σ[j]? = some (some (V.ref l')) → l' ≠ l) : Has K H (upd H1 l o') σ ρ where
  len := s.len
  dat := s.dat
  own := fun j es e => by
    obtain ⟨l', zs, q2, n3, h3, x3⟩ := s.own j es e
    exact ⟨l', zs, q2, n3, by rw [upd_ne (oth j _ l' e True.intro q2)]; exact h3, x3⟩
  row := fun j e => by
    obtain ⟨b, q2, x2⟩ := s.row j e
    refine ⟨b, q2, x2.keep (Evl.Ex.refl H) x2.1 fun u w => ?_⟩
    rw [upd_ne (oth j _ b e True.intro q2)]
    exact w
  dis := s.dis
  hal := fun j m C fs e => by
    obtain ⟨l', q2, el3, n3, dx3, zs, m3, h3, h4, x3⟩ := s.hal j m C fs e
    refine ⟨l', q2, el3, n3, dx3, zs, m3, by rw [upd_ne (oth j _ l' e True.intro q2)]; exact h3, ?_, x3⟩
    rw [upd_ne fun w => by rw [w, hl] at h4; exact no _ (Option.some.inj h4)]
    exact h4
theorem has_hwrote {H H1 : Hp} {i : Nat} {m : Bool} {C : Addr × Addr} {fs fs' : List (Str × Da)} {l dx dx' : Addr} {xs xs' : List (Str × V)} (s : Has K H H1 σ ρ) (e : ρ[i]? = some (.hal m C fs)) (q : σ[i]? = some (some (V.ref l))) (hl : H1 l = some (.ins C.2 dx xs)) (nd : H dx' = none) (hd : H1 dx' = some (.own l)) (hy : FsAt K H xs' fs') : Has K H (upd H1 l (.ins C.2 dx' xs')) σ (ρ.set i (.hal m C fs')) := by
  obtain ⟨l', q', el, n, dx0, xs0, n2, h1, h2, hx⟩ := s.hal i m C fs e
  rw [q] at q'
  cases q'
  have dn : dx' ≠ l := fun z => by
    subst z
    rw [hl] at hd
    cases hd
  have other : ∀ (j : Nat) (c : Cell) (l' : Addr), j ≠ i → ρ[j]? = some c → c.mut → σ[j]? = some (some (V.ref l')) → l' ≠ l := fun j c l' nj ej mj qj z => by
    subst z
    exact s.dis j i c _ l' nj ej e mj True.intro qj q
  have back : ∀ {j : Nat} {c : Cell}, (ρ.set i (.hal m C fs'))[j]? = some c → c.mut → ∃ c0, ρ[j]? = some c0 ∧ c0.mut := fun {j c} ea ma => by
    rcases set_get ea with ⟨za, _, _⟩ | ⟨_, ya⟩
    · exact ⟨.hal m C fs, by rw [za]; exact e, True.intro⟩
    · exact ⟨c, ya, ma⟩
  refine ⟨?_, fun j d e' => ?_, fun j es' e' => ?_, fun j e' => ?_, fun a b c c' l' nab ea eb ma mb sa sb => ?_, fun j m' C' gs e' => ?_⟩
  · rw [List.length_set, s.len]
  · rcases set_get e' with ⟨_, y, _⟩ | ⟨z, y⟩
    · cases y
    · exact s.dat j d y
  · rcases set_get e' with ⟨_, y, _⟩ | ⟨z, y⟩
    · cases y
    · obtain ⟨l', ys, q2, n3, h3, x3⟩ := s.own j es' y
      exact ⟨l', ys, q2, n3, by rw [upd_ne (other j _ l' z y True.intro q2)]; exact h3, x3⟩
  · rcases set_get e' with ⟨_, y, _⟩ | ⟨z, y⟩
    · cases y
    · obtain ⟨b, q2, x2⟩ := s.row j y
      refine ⟨b, q2, x2.keep (Evl.Ex.refl H) x2.1 fun o w => ?_⟩
      rw [upd_ne (other j _ b z y True.intro q2)]
      exact w
  · obtain ⟨c1, e1, m1⟩ := back ea ma
    obtain ⟨c2, e2, m2⟩ := back eb mb
    exact s.dis a b c1 c2 l' nab e1 e2 m1 m2 sa sb
  · rcases set_get e' with ⟨ej, y, _⟩ | ⟨z, y⟩
    · subst ej
      cases y
      exact ⟨l, q, el, n, dx', xs', nd, upd_same, by rw [upd_ne dn]; exact hd, hy⟩
    · obtain ⟨l', q2, el3, n3, dx3, ys, m3, h3, h4, x3⟩ := s.hal j m' C' gs y
      have nl' := other j _ l' z y True.intro q2
      refine ⟨l', q2, el3, n3, dx3, ys, m3, by rw [upd_ne nl']; exact h3, ?_, x3⟩
      rw [upd_ne fun w => by rw [w, hl] at h4; cases h4]
      exact h4
/-- the table and the lambdas where all stays that is neither a list nor an object -/
theorem tabS_keep2 (t : LamX.TabS G Pt q) (k : ∀ b o, (∀ xs, o ≠ .lst xs) → (∀ C dx fs, o ≠ .ins C dx fs) → G b = some o → G2 b = some o) : LamX.TabS G2 Pt q := by
  obtain ⟨xs, h1, h2, h3⟩ := t
  refine ⟨xs, k _ _ (fun _ z => by cases z) (fun _ _ _ z => by cases z) h1, h2, fun pos cv hc => ?_⟩
  obtain ⟨c, e1, e2⟩ := h3 pos cv hc
  exact ⟨c, e1, k _ _ (fun ys z => by unfold LamX.CodeO at z; cases z) (fun _ _ _ z => by unfold LamX.CodeO at z; cases z) e2⟩
theorem lamAt_keep2 {l : Lam} {f : Addr} (x : LamAt G q cs l f) (k : ∀ b o, (∀ xs, o ≠ .lst xs) → (∀ C dx fs, o ≠ .ins C dx fs) → G b = some o → G2 b = some o) : LamAt G2 q cs l f := by
  obtain ⟨dt, pm, c', ct, a, b, d⟩ := x
  refine ⟨dt, pm, c', ct, k _ _ (fun ys z => by unfold LamO at z; cases z) (fun _ _ _ z => by unfold LamO at z; cases z) a, k _ _ (fun ys z => by unfold LamX.CodeO at z; cases z) (fun _ _ _ z => by unfold LamX.CodeO at z; cases z) b, ?_⟩
  unfold DvAt at d ⊢
  cases z : l.dv with
  | none =>
    rw [z] at d
    exact d
  | some i =>
    rw [z] at d
    obtain ⟨t, e1, e2⟩ := d
    exact ⟨t, e1, k _ _ (fun ys z => by cases z) (fun _ _ _ z => by cases z) e2⟩
/-- told(lambda: ..) -/
theorem TL.told {l : Lam} {ks : List L2N.Cl} {tl : XK → TE} {Q : VK} (T : TL K Pt q cs r ρ σ ps ls G) (h : ∀ f G2, TL K Pt q cs r ρ σ ((f, l) :: ps) ls G2 → tl (fun c _ F => L2N.clOut K ks Q c F) σ G2 Q) : tTold K Pt q cs l ks tl σ G Q := by
  have z : tLamM Pt q cs l σ G (fun _ G2 => tl (fun c _ F => L2N.clOut K ks Q c F) σ G2 Q) := T.made fun f G2 T2 => h f G2 T2
  exact z
/-- an expression over data -/
theorem TL.ae {te : TE} {P : Da → Prop} {Q : VK} (T : TL K Pt q cs r ρ σ ps ls G) (h : AE K te ρ P) (k : ∀ d, P d → ∀ v H' G2, Dq K H' v d → Ex H' G2 → TL K Pt q cs r ρ σ ps ls G2 → Q v G2) : te σ G Q := by
  obtain ⟨Hk, hs, ex, nP, nl⟩ := T.has
  exact h σ Hk G hs ex Q fun d p v H' G2 g dv => k d p v H' G2 dv g.b (T.gr hs nP nl g)
/-- .. beside a datum that stands in no heap -/
theorem TL.rel {te : TE} {R : R2} {P : Da → Prop} {Q : VK} {x : V} {dx : Da} (T : TL K Pt q cs r ρ σ ps ls G) (hx : ∀ H, Dq K H x dx) (h : AE K te ρ fun dy => RR K R dx dy P) (k : ∀ d, P d → ∀ v H' G2, Dq K H' v d → TL K Pt q cs r ρ σ ps ls G2 → Q v G2) : te σ G fun y H2 => R x y H2 Q :=
  T.ae h fun d p v H' G2 dv ex T2 => p _ _ _ _ ex (hx _) dv _ fun d2 p2 z H3 G3 g dz => k d2 p2 z H3 G3 dz (T2.grow fun b o e => g.c b o (fun z => z) e)
/-- a method that changes the object, or raises -/
theorem TL.hmut {W : WMX} {ta : TA} {m : Str} {P : List (Str × Da) → Prop} {R : Value → Prop} {C : Addr × Addr} {fs : List (Str × Da)} {i : Nat} {E : XK} {Q : VK} (T : TL K Pt q cs r ρ σ ps ls G) (hi : ρ[i]? = some (.hal false C fs)) (nm : fs.lookup m = none) (h : AA K ta ρ fun ds => W fs ds P R)
    (hP : ∀ fs', P fs' → ∀ G2, TL K Pt q cs r (ρ.set i (.hal false C fs')) σ ps ls G2 → Q .non G2) (hR : ∀ c, R c → ∀ G2, TL K Pt q cs r (ρ.set i (.hal false C fs)) σ ps ls G2 → E c none G2) :
    tMethX C.2 m (spMX K C.2 W) (L2.WE fun cls d _ H => E cls d H) (tVar i) ta σ G Q := by
  obtain ⟨Hk, hs, ex, nP, nl⟩ := T.has
  obtain ⟨l, sl, el, n1, dx, xs, nd, h1, h2, hx⟩ := hs.hal i false C fs hi
  refine ⟨V.ref l, sl, l, dx, xs, rfl, h1, fs_none hx nm, ?_⟩
  refine h σ Hk G hs ex _ fun ds w vs H' G1 g dq => ?_
  have T1 := T.gr hs nP nl g
  have hs1 := hs.gr g
  obtain ⟨l2, sl2, x2⟩ := hs1.hal i false C fs hi
  rw [sl] at sl2
  cases sl2
  obtain ⟨tx0, ht0⟩ := TabS.tbl T.tab
  obtain ⟨tx, ht⟩ := TabS.tbl T1.tab
  obtain ⟨rx, er⟩ := T1.at_r
  obtain ⟨el', n1', dx1, xs1, nd1, h11, h21, hx1⟩ := id x2
  have nP' : H' Pt = none := g.d _ _ ht0 nP
  have nl' : ∀ p ∈ ls, H' p.1 = none := fun p hp => g.d _ _ (T.lst p hp).1 (nl p hp)
  have lr : l ≠ r := fun z => by
    rw [z, er] at h11
    cases h11
  have lP : l ≠ Pt := fun z => by
    rw [z, ht] at h11
    cases h11
  -- behind the call
  have key : ∀ fs' G3, Left K C.2 l H' G1 fs' G3 → TL K Pt q cs r (ρ.set i (.hal false C fs')) σ ps ls G3 := fun fs' G3 ⟨H3, G', dy, dy', ys, ys', gn, hl', nd', hd', hf', eG⟩ => by
    subst eG
    have gr2 : Gr K (Rows σ ρ) H' G1 H3 G' := GrN.up gn fun b rb => hs1.rowAt rb
    have hs2 := hs1.gr gr2
    have T2 := T1.gr hs1 nP' nl' gr2
    obtain ⟨l3, sl3, y1, y2, dx3, xs3, y3, y4, y5, y6⟩ := hs2.hal i false C fs hi
    rw [sl] at sl3
    cases sl3
    rw [hl'] at y4
    cases y4
    have hw := has_hwrote hs2 hi sl hl' nd' hd' hf'
    have keep : ∀ b o, (∀ zs, o ≠ .lst zs) → (∀ C dx fs, o ≠ .ins C dx fs) → G' b = some o → (upd G' l (.ins C.2 dy' ys')) b = some o := fun b o _ n e => by
      rw [upd_ne fun z => by rw [z, hl'] at e; exact n _ _ _ (Option.some.inj e).symm]
      exact e
    have kl : ∀ b zs, G' b = some (.lst zs) → (upd G' l (.ins C.2 dy' ys')) b = some (.lst zs) := fun b zs e => by
      rw [upd_ne fun z => by rw [z, hl'] at e; cases e]
      exact e
    have ri : ∀ {j : Nat}, (ρ.set i (.hal false C fs'))[j]? = some .row ↔ ρ[j]? = some .row := fun {j} => by
      constructor
      · intro z
        rcases set_get z with ⟨_, y, _⟩ | ⟨_, y⟩
        · cases y
        · exact y
      · intro z
        have ne : i ≠ j := fun w => by
          rw [w, z] at hi
          cases hi
        rw [List.getElem?_set_ne ne]
        exact z
    obtain ⟨rx2, er2⟩ := T2.at_r
    refine ⟨⟨H3, hw, fun b o e => ?_, gn.d _ _ ht nP', fun p hp => gn.d _ _ (T1.lst p hp).1 (nl' p hp)⟩, tabS_keep2 T2.tab keep, fun p hp => lamAt_keep2 (T2.lam p hp) keep, fun p hp => ⟨kl _ _ (T2.lst p hp).1, (T2.lst p hp).2⟩, fun x ⟨j, e1, e2⟩ => T.row x ⟨j, ri.mp e1, e2⟩, ?_, fun j ds e => ?_, fun j C' gs e => ?_, ⟨rx2, kl _ _ er2⟩⟩
    · rw [upd_ne (ne_of_none e y2)]
      exact gn.b b o e
    · obtain ⟨j, e1, e2⟩ := T.rIs
      exact ⟨j, ri.mpr e1, e2⟩
    · rcases set_get e with ⟨_, y, _⟩ | ⟨_, y⟩
      · cases y
      · exact T.own j ds y
    · rcases set_get e with ⟨_, y, _⟩ | ⟨_, y⟩
      · cases y
      · exact T.hno j C' gs y
  exact ⟨l, vs, ds, fs, P, R, H', rfl, g.b, x2.self, dq, w, fun fs' pf G3 lf => hP fs' pf G3 (key fs' G3 lf), fun c rc G3 lf => hR c rc G3 (key fs G3 lf)⟩
/-- the making of an object that raises -/
theorem TL.noMake {W : WMX} {ta : TA} {C : Addr} {R : Value → Prop} {E : XK} {Q : VK} (T : TL K Pt q cs r ρ σ ps ls G) (h : AA K ta ρ fun ds => W [] ds (fun _ => False) R) (hR : ∀ c, R c → ∀ G2, TL K Pt q cs r ρ σ ps ls G2 → E c none G2) :
    tMakeX C (spMX K C W) (L2.WE fun cls d _ H => E cls d H) ta σ G Q := by
  obtain ⟨Hk, hs, ex, nP, nl⟩ := T.has
  refine h σ Hk G hs ex _ fun ds w vs H' G1 g dq x dx nx ndx ne => ?_
  have T1 := T.gr hs nP nl g
  have hs1 := hs.gr g
  obtain ⟨tx0, ht0⟩ := TabS.tbl T.tab
  obtain ⟨tx, ht⟩ := TabS.tbl T1.tab
  obtain ⟨rx, er⟩ := T1.at_r
  have nP' : H' Pt = none := g.d _ _ ht0 nP
  have nl' : ∀ p ∈ ls, H' p.1 = none := fun p hp => g.d _ _ (T.lst p hp).1 (nl p hp)
  have nd2 : (upd G1 dx (.own x)) x = none := by rw [upd_ne fun z => ne z.symm]; exact nx
  have e1 : Ex G1 (upd G1 dx (.own x)) := Evl.Ex.new ndx
  have e2 : Ex (upd G1 dx (.own x)) (upd (upd G1 dx (.own x)) x (.ins C dx [])) := Evl.Ex.new nd2
  have g1 : GrN K H' G1 H' (upd (upd G1 dx (.own x)) x (.ins C dx [])) := GrN.mk' g.b (e1.trans e2)
  have gr1 : Gr K (Rows σ ρ) H' G1 H' (upd (upd G1 dx (.own x)) x (.ins C dx [])) := GrN.up g1 fun b rb => hs1.rowAt rb
  have T2 := T1.gr hs1 nP' nl' gr1
  have hs2 := hs1.gr gr1
  refine ⟨x, vs, ds, [], _, R, H', rfl, g1.b, ⟨rfl, Evl.fresh_back g.b nx, dx, [], Evl.fresh_back g.b ndx, upd_same, by rw [upd_ne ne, upd_same], rfl, .nil⟩, dq, w, fun fs' z => z.elim, fun c rc G3 ⟨H3, G', dy, dy', ys, ys', gn, hl', nd', hd', hf', eG⟩ => hR c rc G3 ?_⟩
  subst eG
  have gr2 : Gr K (Rows σ ρ) H' (upd (upd G1 dx (.own x)) x (.ins C dx [])) H3 G' := GrN.up gn fun b rb => hs2.rowAt rb
  have hs3 := hs2.gr gr2
  have T3 := T2.gr hs2 nP' nl' gr2
  obtain ⟨tx2, ht2⟩ := TabS.tbl T2.tab
  have nx3 : H3 x = none := gn.d x _ upd_same (Evl.fresh_back g.b nx)
  have oth : ∀ (j : Nat) (c : Cell) (l' : Addr), ρ[j]? = some c → c.mut → σ[j]? = some (some (V.ref l')) → l' ≠ x := fun j c l' e m q z => by
    subst z
    obtain ⟨o, w⟩ := hs1.there e m q
    rw [nx] at w
    cases w
  have keep : ∀ b o, (∀ zs, o ≠ .lst zs) → (∀ C dx fs, o ≠ .ins C dx fs) → G' b = some o → (upd G' x (.ins C dy' ys')) b = some o := fun b o _ n e => by
    rw [upd_ne fun z => by rw [z, hl'] at e; exact n _ _ _ (Option.some.inj e).symm]
    exact e
  have kl : ∀ b zs, G' b = some (.lst zs) → (upd G' x (.ins C dy' ys')) b = some (.lst zs) := fun b zs e => by
    rw [upd_ne fun z => by rw [z, hl'] at e; cases e]
    exact e
  obtain ⟨rx2, er2⟩ := T3.at_r
  refine ⟨⟨H3, has_write hs3 nx3 hl' (fun a z => by cases z) oth, fun b o e => ?_, gn.d _ _ ht2 nP', fun p hp => gn.d _ _ (T2.lst p hp).1 (nl' p hp)⟩, tabS_keep2 T3.tab keep, fun p hp => lamAt_keep2 (T3.lam p hp) keep, fun p hp => ⟨kl _ _ (T3.lst p hp).1, (T3.lst p hp).2⟩, T.row, T.rIs, T.own, T.hno, ⟨rx2, kl _ _ er2⟩⟩
  rw [upd_ne (ne_of_none e nx3)]
  exact gn.b b o e
/-- for x in range(n), over the very heap -/
theorem TL.range {ta : TA} {i : Nat} {tb : TS} {D : Ends} (T : TL K Pt q cs r ρ σ ps ls G) (h : AA K ta ρ fun ds => ∃ j : Int, ds = [.int j] ∧ -(2 ^ 62) ≤ j ∧ j < 2 ^ 62) (I : L2.St → Hp → Prop) (h0 : ∀ G1, TL K Pt q cs r ρ σ ps ls G1 → I σ G1)
    (hs : ∀ τ F (x : Int), I τ F → tb { D with nx := I, ct := I, bk := D.nx } (τ.set i (some (.int x))) F) (he : ∀ τ F, I τ F → D.nx τ F) : tFor (iRng1 ta) (gName i) tb D σ G := by
  obtain ⟨Hk, hk, ex, nP, nl⟩ := T.has
  refine h σ Hk G hk ex _ fun ds w vs H' G1 g dq => ?_
  obtain ⟨j, rfl, j0, j1⟩ := w
  cases dq with
  | cons a b =>
    cases a
    cases b
    refine ⟨j, rfl, j0, j1, fun k m τ F => m = j.toNat - k ∧ k ≤ j.toNat ∧ I τ F, ⟨_, rfl, Nat.zero_le _, h0 G1 (T.gr hk nP nl g)⟩, fun k m τ F ⟨em, hk, hI⟩ => ?_⟩
    by_cases c : k < j.toNat
    · refine .inr ⟨c, I, fun τ' F' z => ⟨j.toNat - (k + 1), by omega, rfl, by omega, z⟩, fun x F' ⟨e1, e2⟩ => ?_⟩
      subst e1 e2
      exact hs τ F' _ hI
    · exact .inl ⟨by show j.toNat ≤ k; omega, he τ F hI⟩
end
end Ft

/-! part: FtHp -/
set_option Elab.async false
set_option linter.all false
set_option maxRecDepth 100000
/-! x, y, z = (C(..), [], f(..)) -/
namespace Ft
open PySem L2 PyProof.Rows
section
variable {K : Frg} {Pt r : Addr} {q : Str} {cs : List (Str × Addr)} {ρ : Rho} {σ : L2.St} {ps : List (Addr × Lam)} {ls : List (Addr × List V)} {G G2 : Hp}
/-- an object comes to a slot -/
theorem has_hmade {H H1 : Hp} {i : Nat} {m : Bool} {C : Addr × Addr} {fs : List (Str × Da)} {p : Addr} (s : Has K H H1 σ ρ) (ne : ∀ (j : Nat) (c : Cell) (l : Addr), ρ[j]? = some c → c.mut → σ[j]? = some (some (V.ref l)) → l ≠ p) (hp : HalAt K H H1 C p fs) :
    Has K H H1 (σ.set i (some (V.ref p))) (ρ.set i (.hal m C fs)) := by
  have hi : ∀ {c : Cell}, (ρ.set i (.hal m C fs))[i]? = some c → (σ.set i (some (V.ref p)))[i]? = some (some (V.ref p)) := fun {c} e => by
    rcases set_get e with ⟨_, _, w⟩ | ⟨z, _⟩
    · exact List.getElem?_set_self (by rw [s.len]; exact w)
    · exact absurd rfl z
  refine ⟨?_, fun j d e => ?_, fun j es e => ?_, fun j e => ?_, fun a b c c' l nab ea eb ma mb sa sb => ?_, fun j m' C' fs' e => ?_⟩
  · rw [List.length_set, List.length_set, s.len]
  · rcases set_get e with ⟨_, y, _⟩ | ⟨z, y⟩
    · cases y
    · rw [List.getElem?_set_ne fun w => z w.symm]
      exact s.dat j d y
  · rcases set_get e with ⟨_, y, _⟩ | ⟨z, y⟩
    · cases y
    · rw [List.getElem?_set_ne fun w => z w.symm]
      exact s.own j es y
  · rcases set_get e with ⟨_, y, _⟩ | ⟨z, y⟩
    · cases y
    · rw [List.getElem?_set_ne fun w => z w.symm]
      exact s.row j y
  · rcases set_get ea with ⟨za, ya, _⟩ | ⟨za, ya⟩
    · rcases set_get eb with ⟨zb, yb, _⟩ | ⟨zb, yb⟩
      · exact nab (za.trans zb.symm)
      · subst za
        rw [hi ea] at sa
        rw [List.getElem?_set_ne fun w => zb w.symm] at sb
        cases sa
        exact ne b c' _ yb mb sb rfl
    · rcases set_get eb with ⟨zb, yb, _⟩ | ⟨zb, yb⟩
      · subst zb
        rw [hi eb] at sb
        rw [List.getElem?_set_ne fun w => za w.symm] at sa
        cases sb
        exact ne a c _ ya ma sa rfl
      · rw [List.getElem?_set_ne fun w => za w.symm] at sa
        rw [List.getElem?_set_ne fun w => zb w.symm] at sb
        exact s.dis a b c c' l nab ya yb ma mb sa sb
  · rcases set_get e with ⟨ej, y, _⟩ | ⟨z, y⟩
    · subst ej
      cases y
      exact ⟨p, hi e, hp⟩
    · rw [List.getElem?_set_ne fun w => z w.symm]
      exact s.hal j m' C' fs' y
theorem TL.make3 {W : WM} {Wf : WP} {ta tb : TA} {C : Addr} {P : List (Str × Da) → Prop} {Pf : Da → Prop} {E E2 : XK} {i j k : Nat} {D : Ends} (T : TL K Pt q cs r ρ σ [] [] G) (hi : ρ[i]? = some .un) (hj : ρ[j]? = some .un) (hk : ρ[k]? = some .un) (ij : i ≠ j) (ik : i ≠ k) (jk : j ≠ k)
    (ha : AA K ta ρ fun ds => W [] ds P) (hb : AA K tb ρ fun ds => Wf ds Pf)
    (h : ∀ fs', P fs' → ∀ d, Pf d → ∀ l σ2 G2, TL K Pt q cs r (((ρ.set i (.hal false (l, C) fs')).set j (.dat (.list []))).set k (.dat d)) σ2 [] [] G2 → D.nx σ2 G2) :
    tAsg (tTup (tCons (tMake C (spM K C W) [] E ta) (tCons (tLst tNil) (tCons (tCall (spW K Wf) [] E2 tb) tNil)))) (gTup K 3 (gCons (gName i) (gCons (gName j) (gCons (gName k) gNil)))) D σ G := by
  obtain ⟨Hk, hs, ex, nP, nl⟩ := T.has
  refine ha σ Hk G hs ex _ fun ds w vs H' G1 g dq x dx nx ndx ne => ?_
  have T1 := T.gr hs nP nl g
  have hs1 := hs.gr g
  obtain ⟨tx0, ht0⟩ := TabS.tbl T.tab
  obtain ⟨tx, ht⟩ := TabS.tbl T1.tab
  have nP' : H' Pt = none := g.d _ _ ht0 nP
  have nl' : ∀ p ∈ ([] : List (Addr × List V)), H' p.1 = none := (fun p hp => nomatch hp)
  have nd2 : (upd G1 dx (.own x)) x = none := by rw [upd_ne fun z => ne z.symm]; exact nx
  have e1 : Ex G1 (upd G1 dx (.own x)) := Evl.Ex.new ndx
  have e2 : Ex (upd G1 dx (.own x)) (upd (upd G1 dx (.own x)) x (.ins C dx [])) := Evl.Ex.new nd2
  have g1 : GrN K H' G1 H' (upd (upd G1 dx (.own x)) x (.ins C dx [])) := GrN.mk' g.b (e1.trans e2)
  have gr1 : Gr K (Rows σ ρ) H' G1 H' (upd (upd G1 dx (.own x)) x (.ins C dx [])) := GrN.up g1 fun b rb => hs1.rowAt rb
  have T2 := T1.gr hs1 nP' nl' gr1
  have hs2 := hs1.gr gr1
  obtain ⟨tx2, ht2⟩ := TabS.tbl T2.tab
  refine ⟨x, vs, ds, [], _, H', by rw [List.append_nil], g1.b, ⟨rfl, Evl.fresh_back g.b nx, dx, [], Evl.fresh_back g.b ndx, upd_same, by rw [upd_ne ne, upd_same], rfl, .nil⟩, dq, w, fun fs' pf H3 G3 dx1 dx' ys ys' g2 hl n' hd hf => ⟨rfl, ?_⟩⟩
  have gr2 : Gr K (Rows σ ρ) H' (upd (upd G1 dx (.own x)) x (.ins C dx [])) H3 G3 := GrN.up g2 fun b rb => hs2.rowAt rb
  have hs3 := hs2.gr gr2
  have T3 := T2.gr hs2 nP' nl' gr2
  have nx3 : H3 x = none := g2.d x _ upd_same (Evl.fresh_back g.b nx)
  have nP3 : H3 Pt = none := g2.d _ _ ht2 nP'
  have dn : dx' ≠ x := fun z => by
    rw [z, hl] at hd
    cases hd
  have oth : ∀ (j : Nat) (c : Cell) (l' : Addr), ρ[j]? = some c → c.mut → σ[j]? = some (some (V.ref l')) → l' ≠ x := fun j c l' e m q z => by
    subst z
    obtain ⟨o, w⟩ := hs1.there e m q
    rw [nx] at w
    cases w
  -- behind the making
  have hs4 : Has K H3 (upd G3 x (.ins C dx' ys')) σ ρ := has_write hs3 nx3 hl (fun a z => by cases z) oth
  have ex4 : Ex H3 (upd G3 x (.ins C dx' ys')) := fun b o e => by
    rw [upd_ne (ne_of_none e nx3)]
    exact g2.b b o e
  have hal4 : HalAt K H3 (upd G3 x (.ins C dx' ys')) (x, C) x fs' := ⟨rfl, nx3, dx', ys', n', upd_same, by rw [upd_ne dn]; exact hd, hf⟩
  have keep : ∀ b o, (∀ zs, o ≠ .lst zs) → (∀ C dx fs, o ≠ .ins C dx fs) → G3 b = some o → (upd G3 x (.ins C dx' ys')) b = some o := fun b o _ n e => by
    rw [upd_ne fun z => by rw [z, hl] at e; exact n _ _ _ (Option.some.inj e).symm]
    exact e
  have kl : ∀ b zs, G3 b = some (.lst zs) → (upd G3 x (.ins C dx' ys')) b = some (.lst zs) := fun b zs e => by
    rw [upd_ne fun z => by rw [z, hl] at e; cases e]
    exact e
  obtain ⟨rx3, er3⟩ := T3.at_r
  have T4 : TL K Pt q cs r ρ σ [] [] (upd G3 x (.ins C dx' ys')) := ⟨⟨H3, hs4, ex4, nP3, (fun p hp => nomatch hp)⟩, tabS_keep2 T3.tab keep, (fun p hp => nomatch hp), (fun p hp => nomatch hp), T.row, T.rIs, T.own, T.hno, ⟨rx3, kl _ _ er3⟩⟩
  generalize upd G3 x (.ins C dx' ys') = G4 at hs4 ex4 hal4 T4 ⊢
  refine ⟨by show 0 ≤ sizeLine; decide, fun p np => ?_⟩
  have g5 : GrN K H3 G4 (upd H3 p (.lst [])) (upd G4 p (.lst [])) := GrN.new ex4 np
  have gr5 : Gr K (Rows σ ρ) H3 G4 (upd H3 p (.lst [])) (upd G4 p (.lst [])) := GrN.up g5 fun b rb => hs4.rowAt rb
  have hs5 := hs4.gr gr5
  have T5 := T4.gr hs4 nP3 (fun p hp => nomatch hp) gr5
  obtain ⟨tx4, ht4⟩ := TabS.tbl T4.tab
  have nP5 := g5.d _ _ ht4 nP3
  have hal5 : HalAt K (upd H3 p (.lst [])) (upd G4 p (.lst [])) (x, C) x fs' := hal4.keep g5.a (fun a o h1 n _ => g5.d a o h1 n) fun a o _ _ h1 => g5.c a o (fun z => z) h1
  have dl5 : Dq K (upd H3 p (.lst [])) (.ref p) (.list []) := .lst upd_same .nil
  refine hb σ _ _ hs5 g5.b _ fun ds2 w2 vs2 H6 G6 g6 dq2 => ?_
  have hs6 := hs5.gr g6
  have T6 := T5.gr hs5 nP5 (fun p hp => nomatch hp) g6
  obtain ⟨tx5, ht5⟩ := TabS.tbl T5.tab
  have nP6 := g6.d _ _ ht5 nP5
  obtain ⟨rx5, er5⟩ := T5.at_r
  have hal6 : HalAt K H6 G6 (x, C) x fs' := hal5.keep g6.a (fun a o h1 n _ => g6.d a o h1 n) fun a o nl _ h1 => g6.c a o (fun z => nl rx5 (by
    have y := T.row a z
    rw [y, er5] at h1
    exact (Option.some.inj h1).symm)) h1
  refine ⟨ds2, Pf, H6, g6.b, by rw [List.append_nil]; exact dq2, w2, fun d pd v H7 G7 g7 dv => ?_⟩
  have gr7 : Gr K (Rows σ ρ) H6 G6 H7 G7 := GrN.up g7 fun b rb => hs6.rowAt rb
  have hs7 := hs6.gr gr7
  have T7 := T6.gr hs6 nP6 (fun p hp => nomatch hp) gr7
  obtain ⟨tx6, ht6⟩ := TabS.tbl T6.tab
  have nP7 := g7.d _ _ ht6 nP6
  have hal7 : HalAt K H7 G7 (x, C) x fs' := hal6.keep g7.a (fun a o h1 n _ => g7.d a o h1 n) fun a o _ _ h1 => g7.c a o (fun z => z) h1
  refine ⟨by show 3 ≤ sizeLine; decide, fun t nt => ?_⟩
  have g8 : GrN K H7 G7 (upd H7 t (.tup [.ref x, .ref p, v])) (upd G7 t (.tup [.ref x, .ref p, v])) := GrN.new g7.b nt
  have gr8 : Gr K (Rows σ ρ) H7 G7 (upd H7 t (.tup [.ref x, .ref p, v])) (upd G7 t (.tup [.ref x, .ref p, v])) := GrN.up g8 fun b rb => hs7.rowAt rb
  have hs8 := hs7.gr gr8
  have T8 := T7.gr hs7 nP7 (fun p hp => nomatch hp) gr8
  obtain ⟨tx7, ht7⟩ := TabS.tbl T7.tab
  have nP8 := g8.d _ _ ht7 nP7
  have hal8 : HalAt K (upd H7 t (.tup [.ref x, .ref p, v])) (upd G7 t (.tup [.ref x, .ref p, v])) (x, C) x fs' := hal7.keep g8.a (fun a o h1 n _ => g8.d a o h1 n) fun a o _ _ h1 => g8.c a o (fun z => z) h1
  have dl8 := dp_ex g8.a _ (dp_ex g7.a _ (dp_ex g6.a _ dl5))
  have dv8 := dp_ex g8.a _ dv
  have ex8 := g8.b
  have tup : SqT K (upd G7 t (.tup [.ref x, .ref p, v])) t [.ref x, .ref p, v] := SqT.of upd_same
  generalize upd G7 t (.tup [.ref x, .ref p, v]) = G8 at hs8 T8 hal8 ex8 tup ⊢
  generalize upd H7 t (.tup [.ref x, .ref p, v]) = H8 at hs8 nP8 hal8 ex8 dl8 dv8
  refine ⟨t, _, rfl, tup, rfl, _, _, rfl, ?_⟩
  have h9 := has_hmade (i := i) (m := false) hs8 oth hal8
  have nj : (ρ.set i (.hal false (x, C) fs'))[j]? ≠ some .row := fun z => by
    rcases set_get z with ⟨_, w, _⟩ | ⟨_, w⟩
    · cases w
    · rw [hj] at w
      cases w
  refine ⟨_, _, rfl, ?_⟩
  refine (at_name (K := K) (d := .list []) nj).run _ H8 G8 _ _ h9 ex8 dl8 fun σ1 h10 k1 => ?_
  have nk : ((ρ.set i (.hal false (x, C) fs')).set j (.dat (.list [])))[k]? ≠ some .row := fun z => by
    rcases set_get z with ⟨_, w, _⟩ | ⟨_, w⟩
    · cases w
    · rcases set_get w with ⟨_, w2, _⟩ | ⟨_, w2⟩
      · cases w2
      · rw [hk] at w2
        cases w2
  refine ⟨_, _, rfl, ?_⟩
  refine (at_name (K := K) (d := d) nk).run _ H8 G8 _ _ h10 ex8 dv8 fun σ2 h11 k2 => ?_
  refine ⟨rfl, ?_⟩
  -- the slots but those three stand as they did
  have same : ∀ n, n ≠ i → n ≠ j → n ≠ k → σ2[n]? = σ[n]? := fun n a b c => by
    rw [k2 n (by simp [c]), k1 n (by simp [b]), List.getElem?_set_ne fun z => a z.symm]
  have back : ∀ {n : Nat} {c : Cell}, (((ρ.set i (.hal false (x, C) fs')).set j (.dat (.list []))).set k (.dat d))[n]? = some c → (n ≠ i ∧ n ≠ j ∧ n ≠ k ∧ ρ[n]? = some c) ∨ (c = .hal false (x, C) fs') ∨ (c = .dat (.list [])) ∨ c = .dat d := fun {n c} e => by
    rcases set_get e with ⟨_, w, _⟩ | ⟨a, w⟩
    · exact .inr (.inr (.inr w))
    · rcases set_get w with ⟨_, w2, _⟩ | ⟨b, w2⟩
      · exact .inr (.inr (.inl w2))
      · rcases set_get w2 with ⟨_, w3, _⟩ | ⟨c, w3⟩
        · exact .inr (.inl w3)
        · exact .inl ⟨c, b, a, w3⟩
  refine h fs' pf d pd x σ2 G8 ⟨⟨H8, h11, ex8, nP8, (fun p hp => nomatch hp)⟩, T8.tab, (fun p hp => nomatch hp), (fun p hp => nomatch hp), fun y ⟨n, e1, e2⟩ => ?_, ?_, fun n ds e => ?_, fun n C' fs2 e => ?_, T8.at_r⟩
  · rcases back e1 with ⟨a, b, c, w⟩ | w | w | w
    · exact T.row y ⟨n, w, by rw [← same n a b c]; exact e2⟩
    · cases w
    · cases w
    · cases w
  · obtain ⟨n, e1, e2⟩ := T.rIs
    have a : n ≠ i := fun z => by rw [z, hi] at e1; cases e1
    have b : n ≠ j := fun z => by rw [z, hj] at e1; cases e1
    have c : n ≠ k := fun z => by rw [z, hk] at e1; cases e1
    exact ⟨n, by rw [List.getElem?_set_ne fun z => c z.symm, List.getElem?_set_ne fun z => b z.symm, List.getElem?_set_ne fun z => a z.symm]; exact e1, by rw [same n a b c]; exact e2⟩
  · rcases back e with ⟨_, _, _, w⟩ | w | w | w
    · exact T.own n ds w
    · cases w
    · cases w
    · cases w
  · rcases back e with ⟨_, _, _, w⟩ | w | w | w
    · exact T.hno n C' fs2 w
    · cases w
    · cases w
    · cases w
end
end Ft

/-! part: FtKa -/
set_option Elab.async false
set_option linter.all false
set_option maxRecDepth 100000
/-! Errors with a field; defs that always raise. -/
namespace Ft
open PySem L2 PyProof.Rows
/-! ### an error's class with its own __init__ -/
/-- the errors' class at C: made with the field part by the def at fI -/
structure ErrC (P : Program) (w : World) (K : Frg) (mg : Str → Option Value) (base : Heap) (C : Addr) : Prop where
  T : OexC K C
  no : PySem.W.findIn K (.ref C) "part" = some none
  g : mg "BadTown" = some (.ref C)
  ini : ∃ (fI : Addr) (fd : FuncData), PySem.W.findIn K (.ref C) "__init__" = some (some (.ref fI)) ∧ PySem.W.typeIn K (.ref fI) = some (.type "function") ∧
    FnOk P w K mg base CX0 1 fI fd ["self", "part"] (fun vs H Q _ => ∃ (a : Addr) (y : V), vs = [.ref a, y] ∧ H a = some (exo a C none) ∧ ∀ dx, H dx = none → dx ≠ a → Q .non (upd (upd H dx (exd dx [("part", y)])) a (exo a C (some dx)))) ∧ Binds K fd ["self", "part"] []
/-- C(y): the error's making, its field told -/
def tMkP (C : Addr) (ta : TA) : L2.St → Hp → XK → Prop := fun σ H Q => ta σ H fun vs H1 => ∃ y, vs = [y] ∧ ∀ (d : Addr) (H2 : Hp), Ex H1 H2 → H2 d = some (.xd [("part", y)]) → Q (.ref C) (some d) H2
theorem pmk_err {X : Cx} {C : Addr} {e : Expr} {ta : TA} {p pos : Pos} (Z : ErrC X.prog X.w X.K X.mg X.base C) (hr : Room 2 X.A) (hg : Gl X "BadTown") (ha : PA X [e] ta)
    (he : starEach [e] X.env = (false, eval e X.env) :: starEach [] X.env := by rfl) (hpl : (backTo pos (starEach [] X.env)).any (·.1) = false := by rfl) :
    L2N.PMk X (.Call (.Name "BadTown" p) [e] [] pos) (tMkP C ta) := by
  obtain ⟨T, no, gm, fI, fd, iC, tI, F1, hb⟩ := Z
  intro pins s σ H Q I h
  obtain ⟨nm, q, N, bs, bm, sn, sub, ab, col, dd, k0, k1, k2, k3, k5, hC, hbm⟩ := T.cls
  have over := fun Y => PySem.HandSPX.refsVE_contains Y bm hbm
  refine wpAny_Call_Name_kw (ld_glob I hg gm ?_ (by decide))
  refine PySem.W.callWith_K (h₀ := X.base) I.ok.mod.kin T.kC
    (thn (ha.run pos pins s σ H _ I h) fun us s1 hus => ?_) he hpl
  obtain ⟨vs, H1, I1, r1, y, ev, q1⟩ := hus
  subst ev
  refine ⟨I1.kIn, ?_⟩
  show wpAny _ _ (call (.ref C) us) _ _ _
  cases r1 with
  | cons ry rr =>
  cases rr
  rename_i uy
  obtain ⟨hp, g, dr, tk, os⟩ := s1
  generalize hA : hp.objs.size + 1 = aE
  have hsz : hp.objs.size ≤ aE := by omega
  have hn : H1 aE = none := I1.hok.fresh hsz
  have kk : ∀ b o, hp.get? b = some o → ((hp.push (PySem.W.kdv_tup [uy])).push (PySem.HandSPX.excO C hp.objs.size)).get? b = some o :=
    fun b o e => Heap.get?_push_of_some _ (Heap.get?_push_of_some _ e)
  have hget : ((hp.push (PySem.W.kdv_tup [uy])).push (PySem.HandSPX.excO C hp.objs.size)).get? aE = some (PySem.HandSPX.excO C hp.objs.size) := by
    subst hA
    heap_get
  have I2 : Inv X pins σ (upd H1 aE (exo aE C none)) ⟨(hp.push (PySem.W.kdv_tup [uy])).push (PySem.HandSPX.excO C hp.objs.size), g, dr, tk, os⟩ :=
    I1.laid (t' := tk) kk hsz (exo_ok hget)
  have hl : [Value.ref aE, uy].length = ["self", "part"].length := rfl
  have e0 := I2.env0
  refine wpAny_call (PySem.HandSPX.call_own F.excBase_ValueError over (I1.kIn _ _ hC) (PySem.W.looks_findIn I1.kIn iC)
    (fun self => PySem.W.bind_fn I1.kIn self tI) (by show 1 ≤ sizeLine; decide)
    (codeAny_mono (R := CR CX0 X.stack X.prog X.w (upd H1 aE (exo aE C none)) ⟨(hp.push (PySem.W.kdv_tup [uy])).push (PySem.HandSPX.excO C hp.objs.size), g, dr, tk, os⟩
      (fun v H2 => v = .non ∧ ∃ d : Addr, H2 aE = some (exo aE C (some d)) ∧ H2 d = some (exd d [("part", y)]) ∧ H1 d = none ∧ ∀ b o, H1 b = some o → H2 b = some o) E0) ?_ fun r s' hq' => ?_))
  · subst hA
    refine F1.run _ X.stack _ _ ⟨[.ref (hp.objs.size + 1), uy], []⟩ [.ref (hp.objs.size + 1), uy] [.ref (hp.objs.size + 1), y] _ _
      (hr.make C [uy] []) (e0.make C [uy] []) ?_ (.cons rfl (.cons ry .nil)) ?_
    · have bb := hb ⟨(hp.push (PySem.W.kdv_tup [uy])).push (PySem.HandSPX.excO C hp.objs.size), g, dr, tk, os⟩ [Value.ref (hp.objs.size + 1), uy] I2.kIn hl
      rw [List.append_nil] at bb
      exact bb
    · refine ⟨_, y, rfl, upd_same, fun dx n ne => ⟨rfl, dx, upd_same, ?_, ?_, fun b o z => ?_⟩⟩
      · rw [upd_ne ne, upd_same]
      · rwa [upd_ne ne] at n
      · rw [upd_ne (ne_of_none z hn), upd_ne fun w => ?_, upd_ne (ne_of_none z hn)]
        · exact z
        · rw [upd_ne ne] at n
          rw [w, n] at z
          cases z
  · cases r with
    | error er => exact hq'.elim
    | ok fl =>
      cases fl with
      | ret u =>
        obtain ⟨v, H2, os2, bare2, un2, hok2, rv, ev, d, ea, ed, hd1, kp⟩ := hq'
        subst ev
        obtain ⟨h2, g2, d2, t2, os'⟩ := s'
        obtain ⟨t0, G, J, kG, ge, hoe, na⟩ := mk_end0 (d2 := d2) (t2 := t2) I1 hsz kk un2 hok2 os2 bare2 ea ed hd1
        have hq := q1 d (upd (del H2 aE) d (.xd [("part", y)])) (fun b o z => by
          rw [upd_ne (ne_of_none z hd1), del_ne (ne_of_none z hn)]
          exact kp b o z) upd_same
        subst hA
        refine ⟨rv, _, _, _, ⟨G, g2, d2, t2, os'⟩, _, .ref C, some d, rfl, J, kG, ge, hoe, ⟨rfl, rfl, ?_⟩, rfl, rfl, na, rfl, bare2, raises_own T.exC T.tyC, hq⟩
        intro vs e
        cases e
        rfl
      | next => exact hq'.elim
      | brk => exact hq'.elim
      | cont => exact hq'.elim
def tRaiseP (Wx : WX) (C : Addr) (ta : TA) : TS := fun _ σ H => tMkP C ta σ H fun cls d H' => Wx cls d σ H'
theorem ps_raiseP {X : Cx} {Wx : WX} {C : Addr} {e : Expr} {ta : TA} {p p3 pos : Pos} (hc : X.calm = true) (tk : L2N.Takes X Wx) (Z : ErrC X.prog X.w X.K X.mg X.base C) (hr : Room 2 X.A) (hg : Gl X "BadTown") (ha : PA X [e] ta)
    (he : starEach [e] X.env = (false, eval e X.env) :: starEach [] X.env := by rfl) (hpl : (backTo p3 (starEach [] X.env)).any (·.1) = false := by rfl) :
    PS X (.Raise (some (.Call (.Name "BadTown" p) [e] [] p3)) none pos) (tRaiseP Wx C ta) :=
  L2N.ps_raise hc tk (pmk_err Z hr hg ha he hpl)
/-! ### defs that always raise -/
abbrev EOut := Value → Option Addr → Hp → Prop
abbrev WA := List Da → EOut → Prop
def spA (K : Frg) (W : WA) : Sp := fun vs H Q E => ∃ ds O H0, Ex H0 H ∧ DqAll K H0 vs ds ∧ W ds O ∧ ∀ c d H2, Ex H H2 → O c d H2 → E c d H2
structure DefA (P : Program) (w : World) (K : Frg) (mg : Str → Option Value) (base : Heap) (k : Nat) (x : Str) (ps : List Str) (W : WA) : Prop where
  ex : ∃ f fd, FnOk P w K mg base (L2N.CX P w) k f fd ps (spA K W) ∧ Binds K fd ps [] ∧ PySem.W.keepIn K (.ref f) = true ∧ mg x = some (.ref f)
section
variable {P : Program} {w : World} {K : Frg} {mg : Str → Option Value} {base : Heap}
theorem pe_defA {X : Cx} {Wx : WX} {k : Nat} {x : Str} {ps : List Str} {W : WA} {e : Expr} {es : List Expr} {t : TA} {p pos : Pos} (hX : X.prog = P ∧ X.w = w ∧ X.K = K ∧ X.mg = mg ∧ X.base = base) (d : DefA P w K mg base k x ps W) (hr : Room k X.A) (hg : Gl X x) (tk : L2N.Takes X Wx) (ha : PA X (e :: es) t)
    (hdb : (x == ("__debug__" : Str)) = false := by decide) (he : starEach (e :: es) X.env = (false, eval e X.env) :: starEach es X.env := by rfl) (hpl : (backTo pos (starEach es X.env)).any (·.1) = false := by rfl) :
    PE X (.Call (.Name x p) (e :: es) [] pos) (tCallS (spA K W) (L2.WE Wx) t) := by
  obtain ⟨e1, e2, e3, e4, e5⟩ := hX
  subst e1 e2 e3 e4 e5
  obtain ⟨f, fd, G, b, kp, m⟩ := d.ex
  exact pe_callS G hr hg m kp b (fun σ => L2N.passAt tk σ) ha hdb he hpl
/-- a body that raises as O says -/
def ZS (K : Frg) (E : XK) (O : EOut) (t : TS) (ρ : Rho) : Prop := ∀ Hs H1s H H1 σ (D : Ends), Stt K (fun _ => False) Hs H1s H H1 σ ρ → (∀ c d H2, Ex H1s H2 → O c d H2 → E c d H2) → t D σ H1
def ZE (K : Frg) (E : XK) (O : EOut) (te : TE) (ρ : Rho) : Prop := ∀ σ H H1 (Q : VK), Has K H H1 σ ρ → Ex H H1 → (∀ x, ¬ Rows σ ρ x) → (∀ c d H2, Ex H1 H2 → O c d H2 → E c d H2) → te σ H1 Q
def zO (K : Frg) (E : XK) (O : EOut) (u : TS) : Out → Prop
  | .nx ρ => ZS K E O u ρ
  | _ => False
theorem zO_nx {E : XK} {O : EOut} {u : TS} {ρ : Rho} (h : ZS K E O u ρ) : zO K E O u (.nx ρ) := h
section
variable {E : XK} {O : EOut} {ρ : Rho} {t u : TS} {te tb : TE} {ta : TA} {W : WA} {R : R2}
theorem zs_seq (h : SO K t ρ (zO K E O u)) : ZS K E O (tSeq t u) ρ := fun Hs H1s H H1 σ D s q =>
  h _ Hs H1s H H1 σ _ s ⟨fun ρ' p σ' H' H2 s' => p Hs H1s H' H2 σ' D s' q, fun d p => p.elim, fun _ p => p.elim, fun _ p => p.elim⟩
theorem Stt.exN {Hs H1s H H1 : Hp} {σ : L2.St} (s : Stt K (fun _ => False) Hs H1s H H1 σ ρ) : Ex H1s H1 := fun b o e => s.c b o (fun z => z) e
theorem zs_of {t : TS} (hn : ∀ c ∈ ρ, c ≠ .row) (f : ∀ (D : Ends) σ H1, ∃ Q, te σ H1 Q → t D σ H1) (h : ZE K E O te ρ) : ZS K E O t ρ := fun Hs H1s H H1 σ D s q => by
  obtain ⟨Q, k⟩ := f D σ H1
  exact k (h σ H H1 Q s.has s.ex (fun x ⟨i, e, _⟩ => hn _ (List.mem_of_getElem? e) rfl) fun c d H2 e o => q c d H2 (s.exN.trans e) o)
theorem zs_drop1 (hn : ∀ c ∈ ρ, c ≠ .row) (h : ZE K E O te ρ) : ZS K E O (tSeq (tDrop te) u) ρ := zs_of hn (fun D σ H1 => ⟨fun _ H2 => u D σ H2, fun z => z⟩) h
theorem zs_drop (hn : ∀ c ∈ ρ, c ≠ .row) (h : ZE K E O te ρ) : ZS K E O (tDrop te) ρ := zs_of hn (fun D σ H1 => ⟨fun _ H2 => D.nx σ H2, fun z => z⟩) h
theorem zs_ret (hn : ∀ c ∈ ρ, c ≠ .row) (h : ZE K E O te ρ) : ZS K E O (tRet te) ρ := zs_of hn (fun D σ H1 => ⟨D.rt, fun z => z⟩) h
theorem zs_if1 {c : TT} {a b : TS} (hn : ∀ c ∈ ρ, c ≠ .row) (hc : ∀ (Q : Bool → Hp → Prop) σ H, ∃ Q', te σ H Q' → c σ H Q) (h : ZE K E O te ρ) : ZS K E O (tSeq (tIfS c a b) u) ρ := zs_of hn (fun D σ H1 => by
  obtain ⟨Q', k⟩ := hc (fun b' H2 => if b' = true then a { D with nx := u D } σ H2 else b { D with nx := u D } σ H2) σ H1
  exact ⟨Q', fun z => k z⟩) h
theorem zs_raise {Wx : WX} {C : Addr} (hE : Wx = fun cls d _ H => E cls d H) (h : ∀ H, O (.ref C) none H) : ZS K E O (tRaise Wx C) ρ := fun Hs H1s H H1 σ D s q => by
  subst hE
  exact q _ _ _ s.exN (h _)
theorem zs_raiseP {C : Addr} {i : Nat} {w : Str} (hi : ρ[i]? = some (.dat (.str w))) (h : ∀ d H, H d = some (.xd [("part", .str w)]) → O (.ref C) (some d) H) : ZS K E O (tRaiseP (fun cls d _ H => E cls d H) C (tCons (tVar i) tNil)) ρ := fun Hs H1s H H1 σ D s q => by
  obtain ⟨v, ev, dv⟩ := s.has.dat i _ hi
  cases dv
  exact ⟨_, ev, _, rfl, fun d H2 e z => q _ _ _ (s.exN.trans e) (h d H2 z)⟩
theorem zs_if {c : TT} {b : TS} (h : AB K c ρ fun b => b = true) (k : ZS K E O t ρ) : ZS K E O (tIfS c t b) ρ := fun Hs H1s H H1 σ D s q =>
  h σ H H1 s.has s.ex _ fun b' e H' H2 g => by
    subst e
    exact k Hs H1s H' H2 σ D (s.gr g) q
theorem zs_ifS {c : TT} {b : TS} (h : AB K c ρ fun b => b = true) (k : ZS K E O t ρ) : ZS K E O (tSeq (tIfS c t b) u) ρ := fun Hs H1s H H1 σ D s q =>
  h σ H H1 s.has s.ex _ fun b' e H' H2 g => by
    subst e
    exact k Hs H1s H' H2 σ _ (s.gr g) q
/-- the call that raises -/
theorem ze_call (h : AA K ta ρ fun ds => W ds O) : ZE K E O (tCallS (spA K W) (L2.WE fun cls d _ H => E cls d H) ta) ρ := fun σ H H1 Q s e nr q =>
  h σ H H1 s e _ fun ds wd vs H' H2 g dx => ⟨ds, O, H', g.b, dx, wd, fun c d H3 ex o => q c d H3 (fun b o' z => ex b o' (g.c b o' (nr b) z)) o⟩
theorem ze_op1 (h : ZE K E O te ρ) : ZE K E O (tOp R te tb) ρ := fun σ H H1 Q s e nr q => h σ H H1 _ s e nr q
end
theorem mk_defA {k : Nat} {x : Str} {st : Stmt} {N ps : List Str} {W : WA} (F : FunAt K mg x ps st) (S : FnScope N ps (defScope st)) (hl : ∀ ds O, W ds O → ds.length = ps.length)
    (body : ∀ (f : Addr) (cdv : Value) (A : Around) (outer : List Env) (s : Shared) (H : Hp) (E : XK), Room k (A.deeper (PyProof.Rows.envOfC x (defScope st) s.heap.objs.size f cdv)) →
      ∃ t, PSs (cxOf (L2N.CX P w) P w K mg base N x (defScope st) f cdv A outer s H E) (defBody st) t ∧ ∀ ds O, W ds O → ZS K E O t (rho0 N.length ds)) : DefA P w K mg base (k + 1) x ps W := by
  obtain ⟨f, fd, F, b, m⟩ := F.ex
  refine ⟨f, fd, fn_okX F S (fun vs H Q E ⟨ds, O, H0, e, dx, wp, q⟩ => (dps_len dx).trans (hl ds O wp)) (fun cdv A outer s H vs Q E hr ⟨ds, O, H0, e, dx, wp, q⟩ => ?_), b, F.kp, m⟩
  obtain ⟨t, pt, so⟩ := body f cdv A outer s H E hr
  refine ⟨t, pt, so ds O wp H0 H H0 H (start N vs) _ ⟨has0 dx, e, Evl.Ex.refl _, fun x o _ z => z, fun x o _ z => z, fun i es l z => ?_, fun i l z => ?_, fun x z => z.elim, fun i C fs l z => ?_⟩ q⟩
  · rcases dats_get z with ⟨d', e1, e2⟩ | e1 <;> cases e1
  · rcases dats_get z with ⟨d', e1, e2⟩ | e1 <;> cases e1
  · rcases dats_get z with ⟨d', e1, e2⟩ | e1 <;> cases e1
theorem no_row {ds : List Da} {n : Nat} : ∀ c ∈ rho0 n ds, c ≠ Cell.row := fun c h => by
  rcases List.mem_append.mp h with z | z
  · obtain ⟨d, _, rfl⟩ := List.mem_map.mp z
    exact fun y => by cases y
  · rw [(List.mem_replicate.mp z).2]
    exact fun y => by cases y
end
end Ft

/-! part: FtKb -/
set_option Elab.async false
set_option linter.all false
set_option maxRecDepth 100000
/-! Lambdas whose maker has gone: what they hold is told; lambdas called with their error's place known. -/
namespace Ft
open PySem L2 PyProof.Rows
/-- a cell and what it holds -/
def CellO (c : Addr) (v : V) : HO := .ext fun h => ∃ u, RelV v u ∧ h.IsCell c (some u)
theorem cellO_own {c : Addr} {v : V} {x : Addr} : CellO c v ≠ .own x := fun z => by
  unfold CellO at z
  cases z
theorem cellO_tup {c : Addr} {v : V} {xs : List V} : CellO c v ≠ .tup xs := fun z => by
  unfold CellO at z
  cases z
theorem cellO_frz {c : Addr} {v : V} {o : Obj} {u : HO} : CellO c v ≠ .frz o u := fun z => by
  unfold CellO at z
  cases z
theorem cellO_tbl {c : Addr} {v : V} {ps : Array Value} : CellO c v ≠ .tbl ps := fun z => by
  unfold CellO at z
  cases z
theorem cellO_lst {c : Addr} {v : V} {ps : List V} : CellO c v ≠ .lst ps := fun z => by
  unfold CellO at z
  cases z
section
variable {P : Program} {w : World} {H H' G : Hp} {h h' : Heap} {c : Addr} {v : V} {u : Value}
theorem cell_ok (hc : h.IsCell c (some u)) (r : RelV v u) : ObjOk P w H h c (CellO c v) := by
  obtain ⟨o, ho, hd⟩ := hc
  refine ⟨⟨u, r, o, ho, hd⟩, ⟨o, ho⟩, fun h1 h2 z k => ?_⟩
  obtain ⟨u', r', o', ho', hd'⟩ := z
  exact ⟨u', r', o', k _ ho', hd'⟩
theorem cell_at (x : HOk P w G h) (e : G c = some (CellO c v)) : ∃ u, RelV v u ∧ h.IsCell c (some u) := by
  have y : ObjOk P w G h c (.ext fun h => ∃ u, RelV v u ∧ h.IsCell c (some u)) := x c _ e
  exact y.1
/-- what a cell holds is told -/
theorem hok_tell (x : HOk P w H h) (n : H c = none) (hc : h.IsCell c (some u)) (r : RelV v u) : HOk P w (upd H c (CellO c v)) h := fun b o e => by
  by_cases z : b = c
  · subst z
    rw [upd_same] at e
    cases e
    exact cell_ok hc r
  · rw [upd_ne z] at e
    exact (x b o e).stay (fun _ _ _ q => q) (fun d q => by rw [upd_ne (ne_of_none q n)]; exact q) fun d xs q => by rw [upd_ne (ne_of_none q n)]; exact q
theorem hok_hide (x : HOk P w G h) (e : G c = some (CellO c v)) : HOk P w (del G c) h := fun b o q => by
  have z : b ≠ c := fun z => by
    rw [z, del_same] at q
    cases q
  rw [del_ne z] at q
  exact (x b o q).stay (fun _ _ _ q => q) (fun d q => by rw [del_ne (at_ne e q cellO_own)]; exact q) fun d xs q => by rw [del_ne (at_ne e q cellO_tup)]; exact q
theorem del_none {a b : Addr} (n : H b = none) : del H a b = none := by
  unfold del
  split
  · rfl
  · exact n
theorem un_tell {fs : List Addr} (e : G c = some (CellO c v)) (un : Un fs [] (del G c) H' h h') : Un fs [] G (upd H' c (CellO c v)) h h' where
  keep := fun b o q n hf hx => un.keep b o q (del_none n) hf hx
  slot := fun b o q n hf hx => un.slot b o q (del_none n) hf hx
  free := fun b o q n hx => by
    rw [upd_ne fun z => by rw [z, e] at n; cases n]
    exact un.free b o q (del_none n) hx
  there := un.there
  tups := fun b xs q => by
    have ne := at_ne e q cellO_tup
    rw [upd_ne ne]
    exact un.tups b xs (by rw [del_ne ne]; exact q)
  frzs := fun b o y q => by
    have ne := at_ne e q cellO_frz
    rw [upd_ne ne]
    exact un.frzs b o y (by rw [del_ne ne]; exact q)
  tbls := fun b ps q => by
    have ne := at_ne e q cellO_tbl
    rw [upd_ne ne]
    exact un.tbls b ps (by rw [del_ne ne]; exact q)
theorem ub_tell {fs : List Addr} {B : Heap} (e : G c = some (CellO c v)) (un : UB fs (del G c) H' h B h') : UB fs G (upd H' c (CellO c v)) h B h' where
  keep := fun b o q n hf => un.keep b o q (del_none n) hf
  slot := fun b o q hf => un.slot b o q hf
  free := fun b o q n => by
    rw [upd_ne fun z => by rw [z, e] at n; cases n]
    exact un.free b o q (del_none n)
  there := un.there
  tups := fun b xs q => by
    have ne := at_ne e q cellO_tup
    rw [upd_ne ne]
    exact un.tups b xs (by rw [del_ne ne]; exact q)
  frzs := fun b o y q => by
    have ne := at_ne e q cellO_frz
    rw [upd_ne ne]
    exact un.frzs b o y (by rw [del_ne ne]; exact q)
  tbls := fun b ps q => by
    have ne := at_ne e q cellO_tbl
    rw [upd_ne ne]
    exact un.tbls b ps (by rw [del_ne ne]; exact q)
/-- behind a call at whose start the cell was not told -/
theorem cr_tell {outer : List Env} {s s' : Shared} {Q : VK} {E : XK} {r : Result} (hok : HOk P w G s.heap) (e : G c = some (CellO c v)) (nf : c ∉ frs outer)
    (q : CR (L2N.CX P w) outer P w (del G c) s (fun y F => F c = none → Q y (upd F c (CellO c v))) (fun cls d F => F c = none → E cls d (upd F c (CellO c v))) r s') : CR (L2N.CX P w) outer P w G s Q E r s' := by
  obtain ⟨u, ru, hc⟩ := cell_at hok e
  obtain ⟨o, ho, hd⟩ := id hc
  cases r with
  | error er =>
    obtain ⟨a, B, H', cls, d, rfl, fl, hB, ub, na, os, ag, hE⟩ := q
    have cB : B.get? c = some o := ub.keep c o ho del_same nf
    have nC : H' c = none := ub.free c o ho del_same
    refine ⟨a, B, _, cls, d, rfl, fl, hok_tell hB nC ⟨o, cB, hd⟩ ru, ub_tell e ub, ?_, os, ag, hE nC⟩
    rw [upd_ne fun z => by have := fl.2.1; rw [z, cB] at this; cases this]
    exact na
  | ok fl =>
    cases fl with
    | ret y =>
      obtain ⟨v', H', os, bare, un, hok', rv, q⟩ := q
      have nC : H' c = none := un.free c o ho del_same (by simp)
      exact ⟨v', _, os, bare, un_tell e un, hok_tell hok' nC ⟨o, un.keep c o ho del_same nf (by simp), hd⟩ ru, rv, q nC⟩
    | next => exact q
    | brk => exact q
    | cont => exact q
end
/-! ### a lambda whose only captured name is x -/
structure LamS2 (x : Str) (scope : Scope) : Prop where
  kind : scope.kind = .function
  co : scope.isCoroutine = false
  gen : scope.isGenerator = false
  own : ∀ y ∈ scope.names, y.2 ≠ .cell ∧ (y.2 = .local → y.1 ≠ x)
  free : ∀ y ∈ scope.names, y.2 = .free → y.1 = x
  has : (x, .free) ∈ scope.names
  uq : scope.names.lookup x = some .free
def lamS2B (x : Str) (scope : Scope) : Bool :=
  decide (scope.kind = .function) && !scope.isCoroutine && !scope.isGenerator && (scope.names.all fun y => !decide (y.2 = .cell) && (!decide (y.2 = .local) || !decide (y.1 = x)) && (!decide (y.2 = .free) || decide (y.1 = x))) && decide ((x, NameKind.free) ∈ scope.names) && decide (scope.names.lookup x = some .free)
theorem lamS2_by {x : Str} {scope : Scope} (h : lamS2B x scope = true) : LamS2 x scope := by
  unfold lamS2B at h
  simp only [Bool.and_eq_true, Bool.or_eq_true, Bool.not_eq_true', decide_eq_true_eq, decide_eq_false_iff_not, List.all_eq_true] at h
  obtain ⟨⟨⟨⟨⟨a, b⟩, d⟩, k⟩, m⟩, n⟩ := h
  exact ⟨a, b, d, fun y hy => ⟨(k y hy).1.1, fun e => (k y hy).1.2.elim (fun z => absurd e z) fun z => z⟩, fun y hy e => (k y hy).2.elim (fun z => absurd e z) fun z => z, m, n⟩
/-- the lambda at f, made by one who has gone: its cell at c holds v -/
def LamC (G : Hp) (q x : Str) (l : Lam) (f : Addr) (v : V) (c : Addr) : Prop := ∃ cl dt pm c' ct, G f = some (LamO q l cl f dt pm c' ct) ∧ G c' = some (LamX.CodeO c' q) ∧ DvAt G l dt ∧ (∀ y d, cl.lookup y = some d → y = x ∧ d = c) ∧ cl.lookup x = some c ∧ G c = some (CellO c v)
theorem LamC.ext {G G2 : Hp} {q x : Str} {l : Lam} {f : Addr} {v : V} {c : Addr} (h : LamC G q x l f v c) (e : Ex G G2) : LamC G2 q x l f v c := by
  obtain ⟨cl, dt, pm, c', ct, a, b, d, e1, e2, e3⟩ := h
  exact ⟨cl, dt, pm, c', ct, e _ _ a, e _ _ b, d.ext (LamX.ExtN.of e), e1, e2, e _ _ e3⟩
abbrev lamEnv2 (q : Str) (scope : Scope) (cl : List (Str × Addr)) (L f c' : Addr) : Env := PySem.W.envX q scope L f (.ref c') cl
def lamCx2 (P : Program) (w : World) (K : Frg) (mg : Str → Option Value) (base : Heap) (q x : Str) (A : Around) (outer : List Env) (s : Shared) (H : Hp) (E : XK) (scope : Scope) (cl : List (Str × Addr)) (f c' : Addr) : Cx where
  prog := P
  w := w
  K := K
  mg := mg
  base := base
  N := [x]
  A := A.deeper (lamEnv2 q scope cl s.heap.objs.size f c')
  H_0 := H
  s_0 := s
  env := lamEnv2 q scope cl s.heap.objs.size f c'
  stack := lamEnv2 q scope cl s.heap.objs.size f c' :: outer
  outer := outer
  fn := fun _ => false
  ex := []
  pn := []
  calm := true
  xe := fun e z => wpAny (model P w) (A.deeper (lamEnv2 q scope cl s.heap.objs.size f c')) (leaving (lamEnv2 q scope cl s.heap.objs.size f c') e) (fun _ y => L2N.CX P w outer H s E e y) (fun e' y => L2N.CX P w outer H s E e' y) z
theorem lam_in2 {P : Program} {w : World} {K : Frg} {mg : Str → Option Value} {base : Heap} {q x : Str} {HZ : Hp} {s1 : Shared} {A : Around} {outer : List Env} {E : XK} {scope : Scope} {cl : List (Str × Addr)} {f c' c : Addr} {v : V} {u : Value} {h₁ : Heap} {tk : Nat} {bs : List (Str × Value)}
    (L : LamS2 x scope) (e0 : Env0 P w K mg base A outer s1 HZ) (hd : A.handled = none) (hcl : ∀ y d, cl.lookup y = some d → y = x ∧ d = c) (hx : cl.lookup x = some c) (hc : s1.heap.IsCell c (some u)) (rv : RelV v u) (nc : HZ c = none)
    (hns : h₁.Ns s1.heap.objs.size fun y => bs.reverse.lookup y) (kp : ∀ b o, s1.heap.get? b = some o → h₁.get? b = some o) :
    Inv (lamCx2 P w K mg base q x A outer s1 HZ E scope cl f c') [] [some v] HZ { s1 with heap := h₁, toks := tk } := by
  obtain ⟨oc, ho, hdc⟩ := hc
  have cK : h₁.IsCell c (some u) := ⟨oc, kp _ _ ho, hdc⟩
  have noA : ∀ b : Addr, b ∉ (lamCx2 P w K mg base q x A outer s1 HZ E scope cl f c').ex := fun b z => absurd (show b ∈ ([] : List Addr) from z) (by simp)
  refine ⟨⟨e0.mod, L.kind, rfl, rfl, Nat.le_refl _, fun y z d e1 e2 => ?_, fun y e => ?_, fun y d z _ => ?_, fun _ => hd, Around.frames_deeper e0.frames, .inr ⟨rfl, rfl⟩, fun b z => absurd z (noA b), e0.bs, e0.bsz, fun b _ _ => noA b,
      fun b z => absurd z (noA b), e0.funs, e0.frf⟩, rfl, e0.bare, Un.kept kp, ⟨_, hns, fun i y v' e1 e2 e3 => ?_⟩, fun y d e => ?_, e0.hok.fresh (Nat.le_refl _), fun y d e => ?_, fun q hq => absurd (show q ∈ ([] : List (Addr × Obj)) ++ [] from hq) (by simp), e0.hok.kept kp, rfl⟩
  · exact ((hcl y d e1).1).trans ((hcl z d e2).1).symm
  · rcases e with e | e
    · exact absurd rfl (L.own _ (PySem.mem_of_lookup (show scope.names.lookup y = some .cell from e))).1
    · have : y = x := L.free _ (PySem.mem_of_lookup (show scope.names.lookup y = some .free from e)) rfl
      rw [this]
      exact ⟨c, hx⟩
  · have z : false = true := z
    cases z
  · cases i with
    | zero =>
      cases e1
      cases e2
      exact ⟨u, rv, .inr ⟨.inr L.uq, c, hx, cK⟩⟩
    | succ j => cases e1
  · obtain ⟨e1, e2⟩ := hcl y d e
    subst e2
    exact ⟨_, cK⟩
  · obtain ⟨e1, e2⟩ := hcl y d e
    subst e2
    exact nc
/-- such a lambda's reading, its slot holding what it captured -/
def LamGood2 (P : Program) (w : World) (K : Frg) (mg : Str → Option Value) (base : Heap) (q x : Str) (k : Nat) (l : Lam) (tl : XK → TE) : Prop := LamS2 x l.scope ∧ LamB l ∧
  ∀ (E : XK) (A : Around) (outer : List Env) (s : Shared) (H : Hp) (cl : List (Str × Addr)) (f c' : Addr), Room k (A.deeper (lamEnv2 q l.scope cl s.heap.objs.size f c')) → PE (lamCx2 P w K mg base q x A outer s H E l.scope cl f c') l.body (tl E)
section
variable {Z : Cx} {W : WX} {k i : Nat} {a : Str} {p1 p2 : Pos}
/-- x(), x a lambda whose maker has gone -/
theorem pe_act2 {q x : Str} {l : Lam} {tl : XK → TE} (tk : L2N.Takes Z W) (good : LamGood2 Z.prog Z.w Z.K Z.mg Z.base q x k l tl) (hr : Room (k + 1) Z.A)
    (hN : Z.N[i]? = some a) (hv : Vis Z.env.scope a) (hd : (a == ("__debug__" : Str)) = false := by decide) (hcd : (a == ("__classdict__" : Str)) = false := by decide) :
    PE Z (.Call (.Name a p1) [] [] p2) (fun τ G Q => ∃ f v c, τ[i]? = some (some (.ref f)) ∧ LamC G q x l f v c ∧ tl (fun cls d F => F c = none → W cls d τ (upd F c (CellO c v))) [some v] (del G c) fun y F => F c = none → Q y (upd F c (CellO c v))) := by
  obtain ⟨L, B, hbody⟩ := good
  refine ⟨fun pz z τ G Q J h => ?_⟩
  obtain ⟨f, v, c, hs, ⟨cl, dt, pm, c', ct, hF, hC, hD, h1, h2, h3⟩, ht⟩ := h
  refine wpAny_Call_Name_kw (thn ((pe_var (pos := p1) (i := i) hN hv hd hcd).run pz z τ G (fun v H1 => v = .ref f ∧ H1 = G) J ⟨.ref f, hs, rfl, rfl⟩) fun u z1 hu => ?_)
  obtain ⟨v1, H1, J1, r1, ev, eH⟩ := hu
  subst ev
  rw [eH] at J1
  obtain rfl : u = Value.ref f := r1
  have of1 : z1.heap.get? f = some (lamObj q l cl dt pm c' ct) := (J1.hok f _ hF).1
  refine PySem.W.callWith_F0 ⟨_, _, _, _, of1⟩ ?_
  obtain ⟨⟨oc, vs, t, hoc, hdc, hvc⟩, _, _⟩ := J1.hok c' _ hC
  obtain ⟨bs, hb, hl⟩ := B z1 q cl dt pm (.ref c') ct (fun e => by unfold DvAt at hD; rw [e] at hD; exact hD) (fun i e => by
    unfold DvAt at hD
    rw [e] at hD
    obtain ⟨t, et, hT⟩ := hD
    obtain ⟨_, its, rv, o, ho, _, n, hd⟩ := J1.hok t _ hT
    cases rv with
    | cons a b =>
      cases b
      obtain ⟨tk, rfl⟩ := a
      exact ⟨t, o, tk, n, et, ho, hd⟩)
  obtain ⟨uc, ruc, hcell⟩ := cell_at J1.hok h3
  have e0 := J1.env0
  have nf : c ∉ frs Z.stack := fun hm => by
    have := e0.frf c hm
    rw [h3] at this
    cases this
  have e1 : Env0 Z.prog Z.w Z.K Z.mg Z.base Z.A Z.stack z1 (del G c) := ⟨e0.frames, e0.mod, fun b o e => ⟨(e0.bs b o e).1, del_none (e0.bs b o e).2⟩, e0.bsz, e0.funs, fun b hb => del_none (e0.frf b hb), hok_hide e0.hok h3, e0.bare⟩
  have rc : codeAny (model Z.prog Z.w) Z.A (.call (.ref f) ⟨[], []⟩) (CR (L2N.CX Z.prog Z.w) Z.stack Z.prog Z.w (del G c) z1 (fun y F => F c = none → Q y (upd F c (CellO c v))) (fun cls d F => F c = none → W cls d τ (upd F c (CellO c v)))) z1 := by
    refine PySem.W.kla_callFunE hr.depth of1 rfl L.co L.gen rfl ⟨c', oc, vs, t, rfl, hoc, hdc, hvc⟩ (hb _ _ _ _ ?_)
    refine wpAny_newFunctionEnv (fun y hy => (L.own y hy).1) hl (fun h₁ hns hsb => ⟨J1.nolimit.fresh _ hsb, ?_⟩) L.kind
    have kp : ∀ b o, z1.heap.get? b = some o → h₁.get? b = some o := fun b o e => hsb.extBut b o (Nat.ne_of_lt (Heap.lt_size e)) (Heap.get?_push_of_some _ e)
    have J2 := lam_in2 (q := q) (E := fun cls d F => F c = none → W cls d τ (upd F c (CellO c v))) (f := f) (c' := c') (tk := z1.toks + bs.length) L e1 hr.hd h1 h2 hcell ruc del_same hns kp
    refine PySem.W.kla_codeExpr (wpAny_mono ((hbody _ _ _ z1 (del G c) cl f c' (hr.deeper _)).run [] _ _ (del G c) _ J2 ht) (fun v y hq => ?_) fun e y hq => hq)
    obtain ⟨w', H', J', rv, q⟩ := hq
    exact ⟨w', H', J'.os, J'.bare, J'.base, J'.hok, rv, q⟩
  refine wpAny_call (codeAny_mono rc fun r y hq => ?_)
  have hq := cr_tell (Q := Q) (E := fun cls d F => W cls d τ F) e0.hok h3 nf hq
  cases r with
  | error e => exact L2N.passAt tk τ pz G z1 e y J1 hq
  | ok fl =>
    cases fl with
    | ret u => exact J1.after hq
    | next => exact False.elim hq
    | brk => exact False.elim hq
    | cont => exact False.elim hq
end
section
variable {X : Cx} {pins : List (Addr × Obj)} {σ : L2.St} {H : Hp} {s : Shared}
/-- x(), in the def that got it, its maker alive; the wish may speak of the slots -/
theorem pe_actA {CXg : CXT} {Eg : XK} {Ng : List Str} {qg : Str} {sg : Scope} {g : Addr} {cdg : Value} {k i : Nat} {a : Str} {pn : List (Addr × Obj)} {xe : Value → Shared → Prop} {W : WX} {l : Lam} {tl : XK → TE} {p1 p2 : Pos}
    (I : Inv X pins σ H s) (good : LamGood X k l tl) (tk : L2N.Takes ((cxOf CXg X.prog X.w X.K X.mg X.base Ng qg sg g cdg X.A X.stack s H Eg).tr pn xe) W) (hr : Room (k + 1) (X.A.deeper (envOfC qg sg s.heap.objs.size g cdg)))
    (hN : Ng[i]? = some a) (hv : Vis sg a) (hd : (a == ("__debug__" : Str)) = false := by decide) (hcd : (a == ("__classdict__" : Str)) = false := by decide) :
    PE ((cxOf CXg X.prog X.w X.K X.mg X.base Ng qg sg g cdg X.A X.stack s H Eg).tr pn xe) (.Call (.Name a p1) [] [] p2)
      (fun τ G Q => ∃ f, τ[i]? = some (some (.ref f)) ∧ LamAt G (X.env.qual ++ "<lambda>") X.env.cells l f ∧ tl (fun cls d F => W cls d τ F) σ G Q) := by
  obtain ⟨L, B, hbody⟩ := good
  refine ⟨fun pz z τ G Q J h => ?_⟩
  obtain ⟨f, hs, ⟨dt, pm, c', ct, hF, hC, hD⟩, ht⟩ := h
  refine wpAny_Call_Name_kw (thn ((pe_var (pos := p1) (i := i) hN hv hd hcd).run pz z τ G (fun v H1 => v = .ref f ∧ H1 = G) J ⟨.ref f, hs, rfl, rfl⟩) fun u z1 hu => ?_)
  obtain ⟨v, H1, J1, r1, ev, eH⟩ := hu
  subst ev
  rw [eH] at J1
  obtain rfl : u = Value.ref f := r1
  have of1 : z1.heap.get? f = some (lamObj (X.env.qual ++ "<lambda>") l (cloFrom X.env.cells l.scope.names []) dt pm c' ct) := (J1.hok f _ hF).1
  refine PySem.W.callWith_F0 ⟨_, _, _, _, of1⟩ ?_
  obtain ⟨⟨oc, vs, t, hoc, hdc, hvc⟩, _, _⟩ := J1.hok c' _ hC
  obtain ⟨bs, hb, hl⟩ := B z1 (X.env.qual ++ "<lambda>") (cloFrom X.env.cells l.scope.names []) dt pm (.ref c') ct (fun e => by unfold DvAt at hD; rw [e] at hD; exact hD) (fun i e => by
    unfold DvAt at hD
    rw [e] at hD
    obtain ⟨t, et, hT⟩ := hD
    obtain ⟨_, its, rv, o, ho, _, n, hd⟩ := J1.hok t _ hT
    cases rv with
    | cons a b =>
      cases b
      obtain ⟨tk, rfl⟩ := a
      exact ⟨t, o, tk, n, et, ho, hd⟩)
  have rc : codeAny (model X.prog X.w) (X.A.deeper (envOfC qg sg s.heap.objs.size g cdg)) (.call (.ref f) ⟨[], []⟩) (CR (L2N.CX X.prog X.w) (envOfC qg sg s.heap.objs.size g cdg :: X.stack) X.prog X.w G z1 Q (fun cls d F => W cls d τ F)) z1 := by
    refine PySem.W.kla_callFunE hr.depth of1 rfl L.co L.gen rfl ⟨c', oc, vs, t, rfl, hoc, hdc, hvc⟩ (hb _ _ _ _ ?_)
    refine wpAny_newFunctionEnv (fun y hy => (L.own y hy).1) hl (fun h₁ hns hsb => ⟨J1.nolimit.fresh _ hsb, ?_⟩) L.kind
    have kp : ∀ b o, z1.heap.get? b = some o → h₁.get? b = some o := fun b o e => hsb.extBut b o (Nat.ne_of_lt (Heap.lt_size e)) (Heap.get?_push_of_some _ e)
    have J2 := lam_in (A := X.A.deeper (envOfC qg sg s.heap.objs.size g cdg)) (outer := envOfC qg sg s.heap.objs.size g cdg :: X.stack) (E := fun cls d F => W cls d τ F) (f := f) (c' := c') (tk := z1.toks + bs.length) I L J1.env0 hr.hd (show Un (frs X.stack) [] H G s.heap z1.heap from J1.base) hns kp
    refine PySem.W.kla_codeExpr (wpAny_mono ((hbody _ _ _ z1 G f c' (hr.deeper _)).run [] _ _ G Q J2 ht) (fun v y hq => ?_) fun e y hq => hq)
    obtain ⟨w', H', J', rv, q⟩ := hq
    exact ⟨w', H', J'.os, J'.bare, J'.base, J'.hok, rv, q⟩
  refine wpAny_call (codeAny_mono rc fun r y hq => ?_)
  cases r with
  | error e => exact L2N.passAt tk τ pz G z1 e y J1 hq
  | ok fl =>
    cases fl with
    | ret u => exact J1.after hq
    | next => exact False.elim hq
    | brk => exact False.elim hq
    | cont => exact False.elim hq
end
/-! ### a body's end, its slots known -/
def PSR (X : Cx) (st : List Stmt) (t : (L2.St → VK) → L2.St → Hp → Prop) : Prop := ∀ (pins : List (Addr × Obj)) (s : Shared) (σ : L2.St) (H : Hp) (Qs : L2.St → VK), Inv X pins σ H s → t Qs σ H →
  wpAny (model X.prog X.w) X.A (execs st X.env) (fun fl s' => ∃ u v σ' H', fl = .ret u ∧ Inv X pins σ' H' s' ∧ RelV v u ∧ Qs σ' v H') X.xe s
section
variable {X : Cx} {e : Expr} {te : TE} {pos : Pos} {st : Stmt} {rest : List Stmt} {t : TS} {tr : (L2.St → VK) → L2.St → Hp → Prop}
theorem psr_ret (he : PE X e te) : PSR X [.Return (some e) pos] (fun Qs σ H => te σ H (Qs σ)) := fun pins s σ H Qs I h =>
  wpAny_execs_cons (wpAny_Return_some (thn (he.run pins s σ H _ I h) fun u s1 ⟨x, H1, I1, r1, q1⟩ => ⟨_, x, σ, H1, rfl, I1, r1, q1⟩))
theorem psr_cons (h1 : PS X st t) (h2 : PSR X rest tr) : PSR X (st :: rest) (fun Qs σ H => t { nx := fun σ' H' => tr Qs σ' H', rt := fun _ _ => False } σ H) := fun pins s σ H Qs I h => by
  refine wpAny_execs_cons (thn (h1.run pins s σ H _ I h) fun f s1 q => ?_)
  cases f with
  | next =>
    obtain ⟨σ', H', I', q⟩ := q
    exact h2 pins s1 σ' H' Qs I' q
  | ret v =>
    obtain ⟨_, _, _, _, _, q⟩ := q
    exact q.elim
  | brk =>
    obtain ⟨_, _, _, q⟩ := q
    exact q.elim
  | cont =>
    obtain ⟨_, _, _, q⟩ := q
    exact q.elim
end
/-- a def that makes lambdas over its only parameter x and leaves: what they hold is told -/
theorem fn_tell {P : Program} {w : World} {K : Frg} {mg : Str → Option Value} {base : Heap} {k : Nat} {f : Addr} {name qual x : Str} {params : Arguments} {body : List Stmt} {scope : Scope} {dV kV doc pm cdv ct oc : Value} {an od : Option Addr} {osl : Array (Option Value)} {N : List Str} {sp : Sp}
    (lk : K.lookup f = some ⟨oc, od, .func (PySem.W.fnOf name qual params body scope dV kV doc pm an cdv ct), osl⟩) (hcd : PySem.W.codeIn K cdv qual = true) (S : FnScope N [x] scope) (hN : N[0]? = some x) (hxc : scope.names.lookup x = some .cell)
    (len : ∀ vs H Q E, sp vs H Q E → vs.length = 1)
    (hbody : ∀ (A : Around) (outer : List Env) (s : Shared) (H : Hp) (v : V) (Q : VK) (E : XK), Room k (A.deeper (envOfC qual scope s.heap.objs.size f cdv)) → sp [v] H Q E →
      ∃ t, PSR (cxOf CX0 P w K mg base N qual scope f cdv A outer s H E) body t ∧
        ∀ c, (cxOf CX0 P w K mg base N qual scope f cdv A outer s H E).env.cells.lookup x = some c → t (fun σ y H' => σ[0]? = some (some v) ∧ (H c = none → H' c = none → Q y (upd H' c (CellO c v)))) (start N [v]) H) :
    FnOk P w K mg base CX0 (k + 1) f (PySem.W.fnOf name qual params body scope dV kV doc pm an cdv ct) [x] sp := by
  refine ⟨len, fun A outer s H args us vs Q E hr e0 hb r hsp => ?_⟩
  have hl := len _ _ _ _ hsp
  obtain ⟨v, rfl⟩ : ∃ v, vs = [v] := by
    match vs, hl with
    | [v], _ => exact ⟨v, rfl⟩
  have KX : K.In s.heap := e0.mod.kin.keeps fun b o e => (e0.bs b o e).1
  have lim : s.heap.NoLimit := e0.mod.nolimit.keeps fun b o e => (e0.bs b o e).1
  have hkind : ∀ y ∈ [x].zip us, scope.names.lookup y.1 = some .local ∨ (scope.names.lookup y.1 = some .cell ∧ ((cellsFrom (s.heap.objs.size + 1) scope.names []).lookup y.1).isSome = true) := fun ⟨n, v⟩ hy => by
    rcases S.par n (List.of_mem_zip hy).1 with q | q
    · exact .inl q
    · exact .inr ⟨q, PySem.W.cellsFrom_some _ _ _ (.inl q)⟩
  refine codeAny_call_function hr.depth (KX _ _ lk) rfl S.co S.gen rfl (PySem.W.codeRec_of KX hcd) (hb _ _ _ _ ?_)
  refine wpAny_newFunctionEnv_cells S.kind hkind fun env he s1 xx => ?_
  subst he
  refine ⟨lim.keeps xx.toInCall.keep, codeAny_func ?_⟩
  obtain ⟨t, ht, hq⟩ := hbody A outer s H v Q E (hr.deeper _) hsp
  have I : Inv (cxOf CX0 P w K mg base N qual scope f cdv A outer s H E) [] (start N [v]) H s1 := inv_start S hr.hd e0 hl r xx
  obtain ⟨c, hc⟩ := I.ok.has x (.inl hxc)
  refine wpAny_mono (ht [] s1 _ H _ I (hq c hc)) (fun fl s' hs => ?_) fun e s' hs => hs
  obtain ⟨u, y, σ', H', rfl, J, rv, e0', q⟩ := hs
  obtain ⟨m, hn, hlk⟩ := J.loc
  obtain ⟨u0, r0, lk0⟩ := hlk 0 x v hN e0' (.inr (.inl hxc))
  have nc : H' c = none := J.freeC x c hc
  have hcell : s'.heap.IsCell c (some u0) := by
    rcases lk0 with ⟨k1, _⟩ | ⟨_, c2, k2, k3⟩
    · have k1 : scope.names.lookup x = some .local := k1
      rw [hxc] at k1
      cases k1
    · rw [hc] at k2
      cases k2
      exact k3
  have hcs : s.heap.objs.size ≤ c := J.ok.cab x c rfl hc
  have un : Un (frs outer) [] H H' s.heap s'.heap := J.base
  have nb : ∀ {b o}, s.heap.get? b = some o → b ≠ c := fun {b o} e => Nat.ne_of_lt (Nat.lt_of_lt_of_le (Heap.lt_size e) hcs)
  refine ⟨y, upd H' c (CellO c v), J.os, J.bare, ⟨un.keep, un.slot, fun b o e n hx => ?_, un.there, fun b xs e => ?_, fun b o z e => ?_, fun b ps e => ?_⟩, hok_tell J.hok nc hcell r0, rv, q (e0.hok.fresh hcs) nc⟩
  · rw [upd_ne (nb e)]
    exact un.free b o e n hx
  · rw [upd_ne (ne_of_none (un.tups b xs e) nc)]
    exact un.tups b xs e
  · rw [upd_ne (ne_of_none (un.frzs b o z e) nc)]
    exact un.frzs b o z e
  · obtain ⟨more, z⟩ := un.tbls b ps e
    exact ⟨more, by rw [upd_ne (ne_of_none z nc)]; exact z⟩
end Ft

/-! part: FtKc -/
set_option Elab.async false
set_option linter.all false
set_option maxRecDepth 100000
/-! A def that tells an error's name, called with lambdas. -/
namespace Ft
open PySem L2 PyProof.Rows
/-! ### isinstance of a caught error that may have fields -/
def rIsX (K : Frg) (cls : Value) (a : Addr) (d : Option Addr) : List V → Hp → VK → Prop := fun xs H Q => ∃ (D : Addr) (c : V) (cv : Value) (b : Bool), cls = .ref D ∧ ExcC K D ∧ xs = [.ref a, c] ∧ (∀ u, RelV c u → u = cv) ∧ PySem.W.kitOne K (.ref D) cv = some b ∧ (∀ dd, d = some dd → ∃ fs, H dd = some (.xd fs)) ∧ Q (.bl b) H
theorem call_isX {X : Cx} {a : Addr} {oe : Obj} {cls : Value} {d : Option Addr} {pn : List (Addr × Obj)} (hz : Zc cls d oe) (hf : ∃ vs, oe.data = .fields vs) : CallR (X.suite a ((a, oe) :: pn)) (.builtin "isinstance") (rIsX X.K cls a d) := by
  intro pins s σ H xs us Q I r h
  obtain ⟨D, c, cv, b, ec, Cx, rfl, hcv, e, hdd, q⟩ := h
  subst ec
  cases r with
  | cons rx rr =>
  cases rr with
  | cons rt rr =>
  cases rr
  cases rx
  have ec := hcv _ rt
  subst ec
  obtain ⟨hget, _⟩ := I.pin (a, oe) (List.mem_append.mpr (.inl List.mem_cons_self))
  obtain ⟨vs, hv⟩ := hf
  obtain ⟨od, J⟩ : ∃ od, PySem.W.InstAt s.heap a oe D od := by
    obtain ⟨oc, dd, oda, osl⟩ := oe
    obtain ⟨z1, z2⟩ := hz
    dsimp only at z1 z2 hv
    subst z1 z2 hv
    cases dd with
    | none => exact ⟨none, hget, rfl, rfl, trivial⟩
    | some dd =>
      obtain ⟨fs, hfs⟩ := hdd dd rfl
      have hx : ObjOk X.prog X.w H s.heap dd (.xd fs) := I.hok dd _ hfs
      obtain ⟨mA, ⟨o, es, ep, ho, _⟩, _⟩ := hx
      exact ⟨some o, hget, rfl, rfl, ho⟩
  have cl : (PySem.W.clsIn X.K D).isSome = true := by
    obtain ⟨cd, hc, _⟩ := PySem.W.any_some Cx.hd
    rw [hc]
    rfl
  exact PySem.W.kia_one (PySem.W.kitx_exc cl Cx.hg Cx.hk Cx.hs Cx.ha Cx.hn Cx.ht Cx.hm) I.kIn J e (fun z => nomatch z) fun tk => ⟨.bl b, H, I.kept (t' := tk) fun _ _ z => z, rfl, q⟩
/-! ### xs.count(y) of flat items -/
def rCntF (K : Frg) : V → List V → Hp → VK → Prop := fun x xs H Q => ∃ (p : Addr) (ys : List V) (y : V), x = .ref p ∧ xs = [y] ∧ SqL K H p ys ∧ flatV y = true ∧ ys.all flatV = true ∧ Q (.int (ys.countP (fun z => eqV z y) : Nat)) H
theorem count_flat {y : V} : ∀ {ys : List V} {us : List Value}, Vals ys us → ys.all flatV = true → us.countP (eqU y) = ys.countP fun z => eqV z y
  | _, _, .nil, _ => rfl
  | z :: ys, u :: us, .cons r t, f => by
    rw [List.all_cons, Bool.and_eq_true] at f
    rw [List.countP_cons, List.countP_cons, count_flat t f.2, eqU_of r f.1]
theorem mt_countF {X : Cx} : MtR X "list.count" (rCntF X.K) := by
  intro pins s σ H x xs v us Q I rx rxs h
  obtain ⟨p, ys, y, rfl, rfl, hs, fy, fys, q⟩ := h
  cases rx
  cases rxs with
  | cons ry rt =>
  rename_i uy ut
  cases rt
  obtain ⟨its, rv, ⟨⟨cls, dd, data, sl⟩, n, ho, hc, hdn, hd⟩, hlen⟩ := I.list hs
  simp only at hc hd
  subst hc hd
  refine call_meets PySem.F.slot_list_count ⟨_, ho, rfl⟩ PySem.F.entry_list_count (PySem.F.args_list_count_2 _ _)
    (SeqAt.list_countAt p its.toArray n dd sl uy (eqU y)) ⟨ho, fun u' hu' => mem_eqAt ry fy rv fys u' (by simpa using hu'), ?_⟩
  refine ⟨.int (ys.countP (fun z => eqV z y) : Nat), H, I.tok _, ⟨s.toks, ?_⟩, q⟩
  show Value.int ((its.toArray.toList.countP (eqU y) : Nat) : Int) s.toks = _
  rw [show its.toArray.toList.countP (eqU y) = ys.countP fun z => eqV z y from count_flat rv fys]
theorem mt_countK {X : Cx} {K : Frg} (hk : X.K = K) : MtR X "list.count" (rCntF K) := by
  subst hk
  exact mt_countF
theorem mt_indexK {X : Cx} {K : Frg} (hk : X.K = K) : MtR X "list.index" (rIndex K) := by
  subst hk
  exact mt_index
theorem call_isXK {X : Cx} {K : Frg} {a : Addr} {oe : Obj} {cls : Value} {d : Option Addr} {pn : List (Addr × Obj)} (hk : X.K = K) (hz : Zc cls d oe) (hf : ∃ vs, oe.data = .fields vs) : CallR (X.suite a ((a, oe) :: pn)) (.builtin "isinstance") (rIsX K cls a d) := by
  subst hk
  exact call_isX hz hf
/-! ### the def that calls what it got and tells its error -/
/-- what it gives for an error -/
def errOut (CT CU CC CB : Addr) (cls : Value) (d : Option Addr) (F : Hp) (Q : VK) : Prop :=
  (cls = .ref CT ∧ ∃ dd v, d = some dd ∧ F dd = some (.xd [("part", v)]) ∧ ∀ p F2, F p = none → F2 = upd F p (.tup [.str "town", v]) → Q (.ref p) F2) ∨
  (d = none ∧ ((cls = .ref CU ∧ ∀ F2, Ex F F2 → Q (.str "rule") F2) ∨ (cls = .ref CC ∧ ∀ F2, Ex F F2 → Q (.str "club") F2) ∨ (cls = .ref CB ∧ ∀ F2, Ex F F2 → Q (.str "breaks") F2)))
/-- its body, over any reading of the call -/
def ErrBody (P : Program) (w : World) (K : Frg) (mg : Str → Option Value) (base : Heap) (N : List Str) (gn : Str) (sg : Scope) (ga : Addr) (cd : Value) (body : List Stmt) (k : Nat) (CT CU CC CB : Addr) : Prop :=
  ∀ (A : Around) (outer : List Env) (s : Shared) (H : Hp) (R : WX → TE), Room k (A.deeper (envOfC gn sg s.heap.objs.size ga cd)) →
    (∀ (W : WX) (pn : List (Addr × Obj)) (xe : Value → Shared → Prop) (p4 p5 : Pos), L2N.Takes ((cxOf C8.CX0 P w K mg base N gn sg ga cd A outer s H C8.E0).tr pn xe) W → PE ((cxOf C8.CX0 P w K mg base N gn sg ga cd A outer s H C8.E0).tr pn xe) (.Call (.Name "work" p4) [] [] p5) (R W)) →
    ∃ t, PSs (cxOf C8.CX0 P w K mg base N gn sg ga cd A outer s H C8.E0) body t ∧
      ∀ (v : V) (Q : VK), (∀ (W : WX) (Q' : VK), (∀ cls d F, errOut CT CU CC CB cls d F Q → W cls d (start N [v]) F) → R W (start N [v]) H Q') → t { nx := fun _ H' => Q .non H', rt := Q } (start N [v]) H
/-- called with a lambda whose maker has gone -/
def spE2 (P : Program) (w : World) (K : Frg) (mg : Str → Option Value) (base : Heap) (q x : Str) (k : Nat) (CT CU CC CB : Addr) : Sp := fun vs H Q _ => ∃ f v c l tl, vs = [.ref f] ∧ LamC H q x l f v c ∧ LamGood2 P w K mg base q x k l tl ∧
  ∀ (E : XK) (Q' : VK), (∀ cls d F, (F c = none → errOut CT CU CC CB cls d (upd F c (CellO c v)) Q) → E cls d F) → tl E [some v] (del H c) Q'
theorem errOut_mono {CT CU CC CB : Addr} {cls : Value} {d : Option Addr} {F : Hp} {Q Q' : VK} (h : errOut CT CU CC CB cls d F Q) (m : ∀ v H, Q v H → Q' v H) : errOut CT CU CC CB cls d F Q' := by
  rcases h with ⟨e, dd, v, h1, h2, h3⟩ | ⟨hd, ⟨e, h⟩ | ⟨e, h⟩ | ⟨e, h⟩⟩
  · exact .inl ⟨e, dd, v, h1, h2, fun p F2 a b => m _ _ (h3 p F2 a b)⟩
  · exact .inr ⟨hd, .inl ⟨e, fun F2 x => m _ _ (h F2 x)⟩⟩
  · exact .inr ⟨hd, .inr (.inl ⟨e, fun F2 x => m _ _ (h F2 x)⟩)⟩
  · exact .inr ⟨hd, .inr (.inr ⟨e, fun F2 x => m _ _ (h F2 x)⟩)⟩
section
variable {P : Program} {w : World} {K : Frg} {mg : Str → Option Value} {base : Heap}
theorem fn_err2 {N : List Str} {k : Nat} {ga : Addr} {gn : Str} {params : Arguments} {body : List Stmt} {sg : Scope} {dV kV doc pm cd ct oc : Value} {an od : Option Addr} {osl : Array (Option Value)} {q x : Str} {CT CU CC CB : Addr}
    (lk : K.lookup ga = some ⟨oc, od, .func (PySem.W.fnOf gn gn params body sg dV kV doc pm an cd ct), osl⟩) (hcd : PySem.W.codeIn K cd gn = true) (S : FnScope N ["work"] sg) (hN : N[0]? = some ("work" : Str)) (hv : Vis sg "work") (hb : ErrBody P w K mg base N gn sg ga cd body (k + 1) CT CU CC CB) :
    FnOk P w K mg base C8.CX0 (k + 2) ga (PySem.W.fnOf gn gn params body sg dV kV doc pm an cd ct) ["work"] (spE2 P w K mg base q x k CT CU CC CB) := by
  refine fn_of lk hcd S (fun vs H Q E ⟨f, v, c, l, tl, ev, _⟩ => by rw [ev]; rfl) fun A outer s H vs Q E hr ⟨f, v, c, l, tl, ev, hL, good, hq⟩ => ?_
  subst ev
  obtain ⟨t, pt, ht⟩ := hb A outer s H (fun W τ G Q => ∃ f v c, τ[0]? = some (some (.ref f)) ∧ LamC G q x l f v c ∧ tl (fun cls d F => F c = none → W cls d τ (upd F c (CellO c v))) [some v] (del G c) fun y F => F c = none → Q y (upd F c (CellO c v))) hr
    (fun W pn xe p4 p5 tk => pe_act2 (Z := (cxOf C8.CX0 P w K mg base N gn sg ga cd A outer s H C8.E0).tr pn xe) (l := l) tk good hr hN hv)
  exact ⟨t, pt, ht _ _ fun W Q' hW => ⟨f, v, c, rfl, hL, hq _ _ fun cls d F z n => hW cls d _ (z n)⟩⟩
end
/-! ### called in a comprehension with lambdas of one's own -/
def tErr (X : Cx) (k : Nat) (CT CU CC CB : Addr) (iw : Nat) : TE := fun τ G Q => ∃ f l tl, τ[iw]? = some (some (.ref f)) ∧ LamAt G (X.env.qual ++ "<lambda>") X.env.cells l f ∧ LamGood X k l tl ∧
  ∀ (E : XK) (Q' : VK), (∀ cls d F, errOut CT CU CC CB cls d F Q → E cls d F) → tl E τ G Q'
section
variable {X : Cx} {N : List Str}
theorem pe_lcErr {iter : Expr} {scope : Scope} {iw k : Nat} {w gn : Str} {wi : TI} {ga CT CU CC CB : Addr} {p1 p2 p3 tp pos : Pos} {pg : Arguments} {body : List Stmt} {sg : Scope} {dV kV doc pm cd ct oc : Value} {an od : Option Addr} {osl : Array (Option Value)}
    (hc : X.calm = true) (hN : X.N.Nodup) (hi : PI X (.Name w tp) iter wi) (ok : BlkOk X.N X.env.scope scope [(w, iw)]) (hw : X.N[iw]? = some w) (nv : ¬ Vis X.env.scope w)
    (hl : (relS scope X.env.scope).names.lookup w = some .local) (hg : (relS scope X.env.scope).names.lookup gn = some .globalImplicit) (hm : X.mg gn = some (.ref ga)) (hk : PySem.W.keepIn X.K (.ref ga) = true)
    (lk : X.K.lookup ga = some ⟨oc, od, .func (PySem.W.fnOf gn gn pg body sg dV kV doc pm an cd ct), osl⟩) (hcg : PySem.W.codeIn X.K cd gn = true) (hb : L2.Binds X.K (PySem.W.fnOf gn gn pg body sg dV kV doc pm an cd ct) ["work"] [])
    (Sg : FnScope N ["work"] sg) (hNw : N[0]? = some ("work" : Str)) (ha : Vis sg "work") (eb : ErrBody X.prog X.w X.K X.mg X.base N gn sg ga cd body (k + 1) CT CU CC CB)
    (hr : Room (k + 2) X.A) (hdw : (w == ("__debug__" : Str)) = false) (hcw : (w == ("__classdict__" : Str)) = false) (hdb : (gn == ("__debug__" : Str)) = false) (hs : ∀ x, foldedSetIterable iter X.env x = pure x := by intro _; rfl) :
    PE X (.ListComp (.Call (.Name gn p1) [.Name w p2] [] p3) [⟨.Name w tp, iter, [], 0⟩] scope pos) (tLc wi (gName iw) tYes (tErr X k CT CU CC CB iw) [iw]) := by
  refine ⟨fun pins s σ H Q I h => ?_⟩
  rw [eval_ListComp]
  refine lc_by (own := [(w, iw)]) hc hN I hi ok (fun _ _ _ _ _ => pg_name (i := iw) hN hw (.inl hl) (.inr hl)) (fun _ _ _ _ _ => pts_nil) (fun z G C cl fp I3 f3 py y τ F R K9 hwp hq => ?_) hs h fun D C z m G J q hn f => ⟨m, hn, fun h2 sb => ?_⟩
  · obtain ⟨f, l, tl, hτ, hL, good, hrd⟩ := hq
    show wpAny (model X.prog X.w) X.A (eval (.Call (.Name gn p1) [.Name w p2] [] p3) (compEnvC scope cl C X.env)) (EP (X.blk z G scope (compEnvC scope cl C X.env) fp) py τ R) (X.blk z G scope (compEnvC scope cl C X.env) fp).xe y
    refine wpAny_Call_Name_kw (ld_glob K9 (show Gl (X.blk z G scope (compEnvC scope cl C X.env) fp) gn from hg) hm ?_ hdb)
    refine PySem.W.callWith_K (h₀ := X.base) K9.ok.mod.kin hk ?_ (by rfl) (by rfl)
    show wpAny _ _ (spliced ((false, eval (.Name w p2) (compEnvC scope cl C X.env)) :: backTo p3 (starEach [] (compEnvC scope cl C X.env)))) _ _ y
    have hv : Vis (X.blk z G scope (compEnvC scope cl C X.env) fp).env.scope w := .inl hl
    refine Calls.spliced_cons (thn ((pe_var (X := X.blk z G scope (compEnvC scope cl C X.env) fp) (pos := p2) (i := iw) hw hv hdw hcw).run py y τ F (fun v F1 => v = .ref f ∧ F1 = F) K9 ⟨.ref f, hτ, rfl, rfl⟩) fun u y1 hu => ?_)
    obtain ⟨v, F1, K10, rv, e1, e2⟩ := hu
    subst e1
    rw [e2] at K10
    obtain rfl : u = Value.ref f := rv
    refine Calls.spliced_nil ⟨K10.kIn, ?_⟩
    have IX : Inv X pins τ F y1 := inv_slot (I3.call' (ch := fp) K10.os K10.base K10.hok K10.bare fun b hb => ⟨(f3 b hb).1.2.2.2.1, (f3 b hb).1.2.1, (f3 b hb).1.2.2.2.2.1, (f3 b hb).1.2.2.2.2.2⟩) hw nv hwp
    have rc : codeAny (model X.prog X.w) X.A (.call (.ref ga) ⟨[.ref f], []⟩) (CR C8.CX0 X.stack X.prog X.w F y1 R C8.E0) y1 := by
      refine LamX.run_ofS (N := N) (ps := ["work"]) (us := [.ref f]) (vs := [.ref f]) lk hcg Sg hr K10.env0 (hb y1 [.ref f] K10.kIn rfl) (.cons rfl .nil) rfl fun hr' => ?_
      obtain ⟨t, pt, ht⟩ := eb X.A X.stack y1 F (fun W τ2 G2 Q2 => ∃ f, τ2[0]? = some (some (.ref f)) ∧ LamAt G2 (X.env.qual ++ "<lambda>") X.env.cells l f ∧ tl (fun cls d F => W cls d τ2 F) τ G2 Q2) hr'
        (fun W pn xe p4 p5 tk => pe_actA (i := 0) IX good tk hr' hNw ha)
      exact ⟨t, pt, ht _ _ fun W Q' hW => ⟨f, rfl, hL, hrd _ _ fun cls d F2 e => hW cls d F2 e⟩⟩
    refine wpAny_call (codeAny_mono rc fun r s2 hq => ?_)
    cases r with
    | error e => exact (show False from hq).elim
    | ok fl =>
      cases fl with
      | ret u => exact K10.after hq
      | next => exact False.elim hq
      | brk => exact False.elim hq
      | cont => exact False.elim hq
  · obtain ⟨g0, g1, g2, g3, g4, g5⟩ := f
    exact ⟨.ref D, G, J.turned (t' := z.toks) (fun b o nb e => (sb.2 b nb).trans e) g0 g1 g3 g4 g5, rfl, q⟩
end
end Ft

/-! part: FtTc -/
set_option Elab.async false
set_option linter.all false
set_option maxRecDepth 100000
/-! >= of data. -/
namespace Ft
open PySem L2 PySem.W
def rGeD (K : Frg) : R2 := fun x y H Q => ∃ d e, Dp K H x d ∧ Dp K H y e ∧ alike d e = true ∧ d ≠ .none ∧ d.depth ≤ 60 ∧ Q (.bl (!dataLt d e)) H
theorem op_geD {X : Cx} {K : Frg} (hk : X.K = K) (hu : X.A.units + 64 < cLine) : OpR X (compareOp .GtE) (rGeD K) := by
  subst hk
  intro pins s σ H x y v u Q I rx ry h
  obtain ⟨d, e, hd, he, al, nn, dep, q⟩ := h
  obtain ⟨a1, r1⟩ := Dp.reads I d x v hd rx
  obtain ⟨a2, r2⟩ := Dp.reads I e y u he ry
  have room : X.A.units + min d.depth e.depth < cLine := Nat.lt_of_le_of_lt (Nat.add_le_add_left (Nat.le_trans (Nat.min_le_left _ _) dep) _) (by omega)
  exact PySem.W.ge_data r1 r2 al nn room ⟨.bl _, H, I, rfl, q⟩
theorem rr_geD {K : Frg} {x y : Da} {P : Da → Prop} (hx : SeqAt.shaped x = true) (hy : SeqAt.shaped y = true) (al : alike x y = true) (nn : x ≠ .none) (dep : x.depth ≤ 60) (p : P (.bool (!dataLt x y))) : RR K (rGeD K) x y P := fun H H1 v u e dv du Q q =>
  ⟨x, y, (dp_ex e x dv).dp _ (sh_lay hx), (dp_ex e y du).dp _ (sh_lay hy), al, nn, dep, q _ p _ H H1 (GrN.rf e) (.bl _)⟩
end Ft

/-! part: FtTe -/
set_option Elab.async false
set_option linter.all false
set_option maxRecDepth 100000
set_option maxHeartbeats 2000000
/-! enumerate(a list, start=k). -/
namespace Ft
open PySem PySem.Spec L2 PyProof.Rows
/-- the list at a as it stands at each turn, its places counted from c -/
def IteK (K : Frg) (a : Addr) (c : Int) : It where
  go := fun i H => ∃ (xs : List V) (x : V), SqL K H a xs ∧ xs[i]? = some x
  yld := fun i H v H' => ∃ T x, v = .ref T ∧ H T = none ∧ H' = upd H T (.tup [.int (c + (i : Nat)), x]) ∧ ∀ xs, SqL K H a xs → xs[i]? = some x
  stop := fun i H => ∃ xs : List V, SqL K H a xs ∧ xs.length ≤ i
theorem turn_enumK {P : Program} {w : World} {K : Frg} {elts : List Expr} {kk : Nat} {tpos : Pos} (a e it : Addr) (c : Int) :
    Turn P w K (.Tuple elts kk tpos) (IteK K a c) [e, it] e (fun i h => (∃ old, IsEnum h e it (c + ((i : Nat) : Int)) old) ∧ h.IsListIter it a i ∧ e ≠ it) where
  mem := List.mem_cons_self
  obj := fun i h ⟨⟨old, he⟩, ⟨o, ho, _, hd⟩, _⟩ b hb => by
    rcases (by simpa using hb : b = e ∨ b = it) with z | z
    · subst z
      exact ⟨_, he, fun v q => nomatch q⟩
    · subst z
      exact ⟨o, ho, fun v q => by rw [hd] at q; cases q⟩
  keep := fun i h h' ⟨⟨old, he⟩, hi, hne⟩ k => ⟨⟨old, k e List.mem_cons_self _ he⟩, hi.at fun o q => k it (List.mem_cons_of_mem _ List.mem_cons_self) o q, hne⟩
  item := by
    intro X hP hw hK hc i pins s σ H E I hf ⟨⟨old, he⟩, hit, hne⟩ ⟨xs, x, hq, hx⟩
    subst hP hw hK
    obtain ⟨its, rv, p, _⟩ := I.list hq
    obtain ⟨u, hu, ru⟩ := rv.get hx
    have le : e < s.heap.objs.size := Heap.lt_size he
    have li : it < s.heap.objs.size := let ⟨_, q, _⟩ := hit; Heap.lt_size q
    have nt : a ≠ it := fun z => by
      subst z
      obtain ⟨o, ho, hcl, _⟩ := hit
      obtain ⟨o', n', ho', hcl', _⟩ := p
      rw [ho] at ho'
      cases ho'
      rw [hcl] at hcl'
      exact absurd (Value.type.inj hcl') (by decide)
    have na : e ≠ a := fun z => by
      subst z
      obtain ⟨o', n', ho', hcl', _⟩ := p
      rw [he] at ho'
      cases ho'
      exact absurd (Value.type.inj hcl') (by decide)
    have D := Draws.list (prog := X.prog) (w := X.w) (A := X.A.in1) (I.ok.hd hc) it a nt its.toArray
    have hlt : i < its.toArray.size := by
      have := (List.getElem?_eq_some_iff.mp hu).1
      simpa using this
    refine wpAny_pyNext_enum_itemC D he ⟨hit, p.isList⟩ hlt hne (by simp [hne, na]) fun y h' tk ey ho st' hT hsz hk => ?_
    have eu : y = u := by
      have e1 : its.toArray[i]? = some u := by simpa using hu
      exact Option.some.inj (ey.symm.trans e1)
    subst eu
    refine ⟨_, rfl, wpAny_letOwnedTupleGo_enum (s := { s with heap := h', toks := tk + 1 }) ho fun h'' he' sb => ?_⟩
    have hT2 := (sb.2 _ (Nat.ne_of_gt le)).trans hT
    have new : ObjOk X.prog X.w (upd H s.heap.objs.size (.tup [.int (c + (i : Nat)), x])) h'' s.heap.objs.size (.tup [.int (c + (i : Nat)), x]) :=
      ⟨by show 2 ≤ sizeLine; decide, _, .cons ⟨_, rfl⟩ (.cons ru .nil), ⟨_, hT2, rfl, _, rfl⟩⟩
    have I1 : Inv X pins σ (upd H s.heap.objs.size (.tup [.int (c + (i : Nat)), x])) { s with heap := h'', toks := tk + 1 } :=
      I.turnedNew (ch := [e, it]) (fun b ob hb q => (sb.2 b fun z => hb (by simp [z])).trans (hk b ob (fun z => hb (by simp [z])) (fun z => hb (by simp [z])) q)) hf (Nat.le_refl _) new
    refine ⟨.ref s.heap.objs.size, _, I1, rfl, ⟨_, x, rfl, I.hok.fresh (Nat.le_refl _), rfl, fun ys hy => by rw [I.list_inj hy hq]; exact hx⟩, ⟨⟨y, ?_⟩, st'.1.at fun o q => (sb.2 it (Ne.symm hne)).trans q, hne⟩, fun b hb => ?_⟩
    · have e1 : c + ((i + 1 : Nat) : Int) = c + (i : Int) + 1 := by omega
      rw [e1]
      exact he'
    · have lb : b < s.heap.objs.size := by
        rcases (by simpa using hb : b = e ∨ b = it) with z | z <;> (rw [z]; assumption)
      rw [upd_ne (Nat.ne_of_lt lb)]
      exact (hf b hb).1
  done := by
    intro X hP hw hK hc i pins s σ H E I hf ⟨⟨old, he⟩, hit, hne⟩ ⟨xs, hq, hx⟩
    subst hP hw hK
    obtain ⟨its, rv, p, _⟩ := I.list hq
    obtain ⟨f0, f1, f2, f3, f4, f5⟩ := hf it (List.mem_cons_of_mem _ List.mem_cons_self)
    have ll := rv.length
    refine enum_endL (I.ok.hd hc) he hit p.isList (by simp; omega) fun h' eb => ⟨rfl, I.turned (t' := s.toks) (fun b o hb q => eb b o hb q) f0 f1 f3 f4 f5⟩
  self := fun A i s Q E ⟨⟨_, he⟩, _⟩ h => wpAny_pyIter_enum he h
where
  enum_endL {prog : Program} {w : World} {A : Around} {E : Value → Shared → Prop} {s : Shared} {e it a : Addr} {i : Nat} {items : Array Value} {old : Value} {c : Int} {Q : Option Value → Shared → Prop} (hh : A.handled = none)
      (he : IsEnum s.heap e it c old) (hit : s.heap.IsListIter it a i) (p : s.heap.IsList a items) (hle : items.size ≤ i) (hQ : ∀ h', Heap.ExtBut it s.heap h' → Q none { s with heap := h' }) : wpAny (model prog w) A (pyNext (.ref e)) Q E s := by
    have D : Draws prog w A.in1 it [it, a] i (fun _ _ => True) (fun j h => j = i ∧ h.IsListIter it a i ∧ h.IsList a items) :=
      { live := fun _ _ st => let ⟨o, ho, _⟩ := st.2.1; ⟨o, ho⟩
        frame := fun _ _ _ st k => ⟨st.1, st.2.1.at fun o q => k it (by simp) o q, st.2.2.at fun o q => k a (by simp) o q⟩
        item := fun j z Q E hj st _ => absurd st.1 (Nat.ne_of_lt hj)
        done := fun z Q E st hE => wpAny_nextOf_list_end (A := A.in1) hh st.2.1 st.2.2 (by simp; omega) hE }
    exact wpAny_pyNext_enum_endD D he ⟨rfl, hit, p⟩ hQ
/-- a built-in class called with one argument and one number by name -/
theorem callTy_kw1 {prog : Program} {w : World} {A : Around} {E : Value → Shared → Prop} {s : Shared} {env : Env} {pos kp cp : Pos} {T : String} {e : Expr} {n : Str} {c : Int} {j : Nat} {Q : Value → Shared → Prop}
    (h : wpAny (model prog w) A (spliced (backTo pos (starEach [e] env))) (fun us s1 => ∀ t, wpAny (model prog w) A (call (.type T) us [(n, .int c t)]) Q E { s1 with toks := s1.toks + 1 }) E s)
    (he : starEach [e] env = [(false, eval e env)] := by rfl) :
    wpAny (model prog w) A (callWith pos (.type T) [] (backTo pos (starEach [e] env)) (backToKw pos (keywordEach [⟨some n, .Constant (.int c) j cp, kp⟩] env))) Q E s := by
  rw [he] at h ⊢
  unfold callWith
  refine wpAny_bind (wpAny_holding (wpAny_mono (Q := fun a s1 => wpAny (model prog w) A (call (.type T) ([] ++ a.pos) a.kw) Q E s1) (evalArgs_kwB (by rfl) (wpAny_mono h (fun us s1 hu => ?_) fun _ _ x => x)) (fun a s1 h1 => wpAny_bind (wpAny_standAt ?_)) fun _ _ x => x))
  · refine wpAny_evalAll_cons (wpAny_bind (wpAny_Constant_int (wpAny_bind (wpAny_standAt (wpAny_pure (wpAny_evalAll_nil ?_))))))
    exact hu _
  · refine wpAny_bind (wpAny_pure ?_)
    exact wpAny_bind (wpAny_mono h1 (fun r s2 hr => wpAny_bind (wpAny_holding (wpAny_point (wpAny_pure hr)))) fun _ _ x => x)
def iEnumK (K : Frg) (ta : TA) (c : Int) : TI := fun σ H R => ta σ H fun vs H1 => ∃ a xs, vs = [V.ref a] ∧ SqL K H1 a xs ∧ R (IteK K a c) H1
theorem pi_enumS {X : Cx} {e : Expr} {ta : TA} {p pos tpos kp cp : Pos} {elts : List Expr} {kk j : Nat} {c : Int} (hg : Gl X "enumerate") (hm : X.mg "enumerate" = none) (ha : PA X [e] ta) (hc0 : -(2 ^ 63) ≤ c) (hc1 : c < 2 ^ 63) (hs : starEach [e] X.env = [(false, eval e X.env)] := by rfl) :
    PI X (.Tuple elts kk tpos) (.Call (.Name "enumerate" p) [e] [⟨some "start", .Constant (.int c) j cp, kp⟩] pos) (iEnumK X.K ta c) := by
  refine ⟨fun pins s σ H R I h => wpAny_Call_Name_kw (ld_blt I hg hm PyProof.Rows.boot_enumerate (callTy_kw1 (thn (ha.run pos pins s σ H _ I h) fun us s1 hu => ?_) hs))⟩
  obtain ⟨vs, H1, I1, r1, a, xs, ex, hq, q⟩ := hu
  subst ex
  cases r1 with
  | cons r rr =>
    cases rr
    cases r
    intro t
    have I2 := I1.tok (s1.toks + 1)
    obtain ⟨its, rv, tp, _⟩ := I2.list hq
    refine enum_begins_start (begins_list a its.toArray) tp.isList hc0 hc1 fun h' he hit _ hk => wpAny_pyIter_enum he ?_
    have z : c + ((0 : Nat) : Int) = c := by omega
    refine ⟨s1.heap.objs.size + 1, [s1.heap.objs.size + 1, s1.heap.objs.size], _, _, H1, rfl, I2.kept (t' := s1.toks + 1) hk, turn_enumK a (s1.heap.objs.size + 1) s1.heap.objs.size c, ⟨⟨.none, by rw [z]; exact he⟩, ⟨_, hit, rfl, rfl⟩, Nat.succ_ne_self _⟩, fun b hb => ?_, q⟩
    have hle : s1.heap.objs.size ≤ b := by
      rcases (by simpa using hb : b = s1.heap.objs.size + 1 ∨ b = s1.heap.objs.size) with z | z
      · rw [z]
        exact Nat.le_add_right _ _
      · rw [z]
        exact Nat.le_refl _
    exact I2.fpOk hle (I2.hok.fresh hle)
theorem ai_enumK {K : Frg} {ρ : Rho} {ta : TA} {c : Int} {P : List Da → Prop} (h : AA K ta ρ fun vs => ∃ ds, vs = [.list ds] ∧ P (List.zipWith (fun (i : Nat) x => .tuple [.int (c + (i : Int)), x]) (List.range ds.length) ds)) : AI K (iEnumK K ta c) ρ P := fun σ H H1 s e R q => h σ H H1 s e _ fun vs ⟨ds, ed, p⟩ us H' H2 g dx => by
  subst ed
  cases dx with
  | cons a r =>
    cases r
    cases a with
    | @lst a xs _ t x =>
      refine ⟨a, xs, rfl, Evl.ex_l g.b (SqL.of t), q _ p _ H' H2 g fun i Hk H3 e1 e2 => ?_⟩
      have hl := dps_len x
      have t3 : SqL K H3 a xs := Evl.ex_l (e1.trans e2) (SqL.of t)
      refine ⟨fun d ed => ?_, fun ed => ?_⟩
      · have hi := (List.getElem?_eq_some_iff.mp ed).1
        rw [List.length_zipWith, List.length_range] at hi
        have h1 : i < ds.length := by omega
        refine ⟨⟨xs, xs[i], t3, by simp [hl, h1]⟩, fun v H4 ⟨T, y, ev, hT, eh, ey⟩ => ?_⟩
        subst ev eh
        rw [List.getElem?_zipWith, List.getElem?_range h1, List.getElem?_eq_getElem h1] at ed
        cases ed
        obtain ⟨v1, ev1, dv1⟩ := dps_get x (List.getElem?_eq_getElem h1)
        have ey' := ey xs t3
        rw [ev1] at ey'
        cases ey'
        have g2 : GrN K Hk H3 (upd Hk T (.tup [.int (c + (i : Nat)), y])) (upd H3 T (.tup [.int (c + (i : Nat)), y])) := GrN.new e2 hT
        exact ⟨_, g2, .tup (SqT.of upd_same) (.cons (.int _) (.cons (dp_ex (e1.trans g2.a) _ dv1) .nil))⟩
      · rw [List.length_zipWith, List.length_range] at ed
        exact ⟨xs, t3, by omega⟩
end Ft

/-! part: FtTa -/
set_option Elab.async false
set_option linter.all false
set_option maxRecDepth 100000
/-! Strings as data: +, str, join, f-strings, split, index of a tuple. -/
namespace Ft
open PySem L2
section
variable {K : Frg} {ρ : Rho} {P : Da → Prop} {to te tf : TE} {X : Cx}
/-! ### a + b -/
def rCatS : R2 := fun x y H Q => ∃ i j, x = .str i ∧ y = .str j ∧ i.length + j.length ≤ sizeLine ∧ Q (.str (i ++ j)) H
def rAddS (K : Frg) : R2 := fun x y H Q => rAddA K x y H Q ∨ rCatS x y H Q
theorem op_addS (hk : X.K = K) : OpR X (binaryOp .Add) (rAddS K) := by
  subst hk
  exact op_addA.or op_add_str
theorem rr_addS {a b : Str} (z : a.length + b.length ≤ sizeLine) (p : P (.str (a ++ b))) : RR K (rAddS K) (.str a) (.str b) P := rr_r fun H H1 v u e dv du Q q => by
  cases dv; cases du
  exact ⟨a, b, rfl, rfl, z, q _ p _ H H1 (GrN.rf e) (.str _)⟩
/-! ### str(a number) -/
def rStrI : List V → Hp → VK → Prop := fun xs H Q => ∃ i, xs = [.int i] ∧ i.natAbs.log2 < 1920 ∧ Q (.str (toString i)) H
theorem call_strI {X : Cx} : CallR X (.type "str") rStrI := call_str_int
theorem rc_strI {i : Int} (z : i.natAbs.log2 < 1920) (p : P (.str (toString i))) : RC K rStrI [.int i] P := fun H H1 vs e dv Q q => by
  cases dv with
  | cons a r =>
    cases r
    cases a
    exact ⟨i, rfl, z, q _ p _ H H1 (GrN.rf e) (.str _)⟩
/-! ### sep.join(xs) -/
def rJoin (K : Frg) : V → List V → Hp → VK → Prop := fun x xs H Q => ∃ a p, ∃ ys : List Str, x = .str a ∧ xs = [.ref p] ∧ (SqL K H p (ys.map V.str) ∨ SqT K H p (ys.map V.str)) ∧
    (ys.map (·.length)).sum + ys.length * a.length ≤ 16777216 ∧ Q (.str (Txt.join a ys)) H
theorem pe_joinK {o e : Expr} {apos pos : Pos} (hk : X.K = K) (ho : PE X o to) (he : PE X e te) (hs : starEach [e] X.env = [(false, eval e X.env)] := by rfl) (hbase : attributeBase o "join" X.env (eval o X.env) = eval o X.env := by rfl) (hline : (apos.endLine == pos.line) = true := by rfl) :
    PE X (.Call (.Attribute o "join" apos) [e] [] pos) (tM1 (rJoin K) to te) := by
  subst hk
  exact pe_join ho he hs hbase hline
theorem dqs_strs : ∀ {xs : List V} {ys : List Str} {H : Hp}, DqAll K H xs (ys.map .str) → xs = ys.map V.str
  | _, [], _, h => by cases h; rfl
  | _, y :: ys, _, h => by
    cases h with
    | cons a b =>
      cases a
      rw [dqs_strs b]
      rfl
theorem strs_dqs {H : Hp} : ∀ ys : List Str, DqAll K H (ys.map V.str) (ys.map .str)
  | [] => .nil
  | y :: ys => .cons (.str y) (strs_dqs ys)
theorem ae_join (h : AE K to ρ fun x => ∃ a, x = .str a ∧ AE K te ρ fun y => ∃ ys : List Str, y = .list (ys.map .str) ∧ (ys.map (·.length)).sum + ys.length * a.length ≤ 16777216 ∧ P (.str (Txt.join a ys))) : AE K (tM1 (rJoin K) to te) ρ P := fun σ H H1 s e Q q =>
  h σ H H1 s e _ fun x ⟨a, ex, k⟩ v H' H2 g dx => by
    subst ex
    cases dx
    refine ⟨⟨a, rfl⟩, k σ H' H2 (s.gr g) g.b _ fun y ⟨ys, ey, z, p⟩ u H'' H3 g2 dy => ?_⟩
    subst ey
    cases dy with
    | lst l d =>
      rw [dqs_strs d] at l
      exact ⟨a, _, ys, rfl, rfl, .inl (Evl.ex_l g2.b (SqL.of l)), z, q _ p _ _ _ (g.trans g2) (.str _)⟩
/-! ### f"..{i}.." -/
theorem ae_fmtI (h : AE K te ρ fun d => ∃ i : Int, d = .int i ∧ i.natAbs.log2 < 1920 ∧ P (.str (toString i))) : AE K (tFmt te) ρ P := fun σ H H1 s e Q q =>
  h σ H H1 s e _ fun x ⟨i, ex, z, p⟩ v H' H2 g dx => by
    subst ex
    cases dx
    exact .inr ⟨i, rfl, z, q _ p _ _ _ g (.str _)⟩
theorem ae_two (h : AE K te ρ fun x => ∃ a, x = .str a ∧ a.length ≤ sizeLine ∧ AE K tf ρ fun y => ∃ b, y = .str b ∧ (a ++ b).length ≤ sizeLine ∧ P (.str (a ++ b))) : AE K (fun σ H Q => tJs [te, tf] Str.empty σ H fun out H1 => Q (.str out) H1) ρ P := fun σ H H1 s e Q q =>
  h σ H H1 s e _ fun x ⟨a, ex, z, k⟩ v H' H2 g dx => by
    subst ex
    cases dx
    refine ⟨a, rfl, by rw [Str.empty_append]; exact z, k σ H' H2 (s.gr g) g.b _ fun y ⟨b, ey, z2, p⟩ u H'' H3 g2 dy => ?_⟩
    subst ey
    cases dy
    refine ⟨b, rfl, by rw [Str.empty_append]; exact z2, ?_⟩
    show Q (.str (Str.empty ++ a ++ b)) H3
    rw [Str.empty_append]
    exact q _ p _ _ _ (g.trans g2) (.str _)
/-! ### text.split(sep) -/
def rSplit : V → List V → Hp → VK → Prop := fun x xs H Q => ∃ a b, x = .str a ∧ xs = [.str b] ∧ (b.length == 0) = false ∧ a.length + 2 ≤ sizeLine ∧ rNewStrs (Txt.split a b) H Q
theorem pe_splitS {o e : Expr} {apos pos : Pos} (ho : PE X o to) (he : PE X e te) (hs : starEach [e] X.env = [(false, eval e X.env)] := by rfl) (hbase : attributeBase o "split" X.env (eval o X.env) = eval o X.env := by rfl) (hline : (apos.endLine == pos.line) = true := by rfl) :
    PE X (.Call (.Attribute o "split" apos) [e] [] pos) (tM1 rSplit to te) := pe_split ho he hs hbase hline
theorem af_split {P : List Da → Prop} (h : AE K to ρ fun x => ∃ a, x = .str a ∧ AE K te ρ fun y => ∃ b, y = .str b ∧ (b.length == 0) = false ∧ a.length + 2 ≤ sizeLine ∧ P ((Txt.split a b).map .str)) : AF K (tM1 rSplit to te) ρ P := fun σ H H1 s e Q q =>
  h σ H H1 s e _ fun x ⟨a, ex, k⟩ v H' H2 g dx => by
    subst ex
    cases dx
    refine ⟨⟨a, rfl⟩, k σ H' H2 (s.gr g) g.b _ fun y ⟨b, ey, z1, z2, p⟩ u H'' H3 g2 dy => ?_⟩
    subst ey
    cases dy
    refine ⟨a, b, rfl, rfl, z1, z2, fun l n => ?_⟩
    have n' : H'' l = none := Evl.fresh_back g2.b n
    exact q _ p l _ H'' _ ((g.trans g2).trans (GrN.up (GrN.mk' g2.b (Evl.Ex.new n)) fun b rb => ((s.gr g).gr g2).rowAt rb)) ((g.trans g2).old n) n' upd_same (strs_dqs _)
/-! ### t.index(x) of a tuple of strings -/
def rTix (K : Frg) : V → List V → Hp → VK → Prop := fun x xs H Q => ∃ p, ∃ ys : List Str, ∃ z j, x = .ref p ∧ xs = [.str z] ∧ SqT K H p (ys.map V.str) ∧ ys[j]? = some z ∧ (∀ m, m < j → ys[m]? ≠ some z) ∧ Q (.int (j : Nat)) H
theorem mt_tix (hk : X.K = K) : MtR X "tuple.index" (rTix K) := by
  subst hk
  exact mt_tup_index
end
end Ft

/-! part: FtTb -/
set_option Elab.async false
set_option linter.all false
set_option maxRecDepth 100000
set_option maxHeartbeats 2000000
/-! Errors with two numbers; defs that may raise them; a tuple of strings of the module. -/
namespace Ft
open PySem L2 PyProof.Rows
/-! ### an error's class whose own __init__ sets line and word -/
structure ErrL (P : Program) (w : World) (K : Frg) (mg : Str → Option Value) (base : Heap) (C : Addr) : Prop where
  T : OexC K C
  no1 : PySem.W.findIn K (.ref C) "line" = some none
  no2 : PySem.W.findIn K (.ref C) "word" = some none
  g : mg "BadLine" = some (.ref C)
  ini : ∃ (fI : Addr) (fd : FuncData), PySem.W.findIn K (.ref C) "__init__" = some (some (.ref fI)) ∧ PySem.W.typeIn K (.ref fI) = some (.type "function") ∧
    FnOk P w K mg base CX0 1 fI fd ["self", "line", "word"] (fun vs H Q _ => ∃ (a : Addr) (y z : V), vs = [.ref a, y, z] ∧ H a = some (exo a C none) ∧ ∀ (dx : Addr) (H2 : Hp), H dx = none → dx ≠ a → H2 a = some (exo a C (some dx)) → H2 dx = some (exd dx [("word", z), ("line", y)]) → (∀ b o, b ≠ a → H b = some o → H2 b = some o) → Q .non H2) ∧ Binds K fd ["self", "line", "word"] []
/-- C(y, z): the error's making, its fields told -/
def tMkL (C : Addr) (ta : TA) : L2.St → Hp → XK → Prop := fun σ H Q => ta σ H fun vs H1 => ∃ y z, vs = [y, z] ∧ ∀ (d : Addr) (H2 : Hp), Ex H1 H2 → H2 d = some (.xd [("word", z), ("line", y)]) → Q (.ref C) (some d) H2
theorem pmk_errL {X : Cx} {C : Addr} {e e' : Expr} {ta : TA} {p pos : Pos} (Z : ErrL X.prog X.w X.K X.mg X.base C) (hr : Room 2 X.A) (hg : Gl X "BadLine") (ha : PA X [e, e'] ta)
    (he : starEach [e, e'] X.env = (false, eval e X.env) :: starEach [e'] X.env := by rfl) (hpl : (backTo pos (starEach [e'] X.env)).any (·.1) = false := by rfl) :
    L2N.PMk X (.Call (.Name "BadLine" p) [e, e'] [] pos) (tMkL C ta) := by
  obtain ⟨T, no1, no2, gm, fI, fd, iC, tI, F1, hb⟩ := Z
  intro pins s σ H Q I h
  obtain ⟨nm, q, N, bs, bm, sn, sub, ab, col, dd, k0, k1, k2, k3, k5, hC, hbm⟩ := T.cls
  have over := fun Y => PySem.HandSPX.refsVE_contains Y bm hbm
  refine wpAny_Call_Name_kw (ld_glob I hg gm ?_ (by decide))
  refine PySem.W.callWith_K (h₀ := X.base) I.ok.mod.kin T.kC
    (thn (ha.run pos pins s σ H _ I h) fun us s1 hus => ?_) he hpl
  obtain ⟨vs, H1, I1, r1, y, z, ev, q1⟩ := hus
  subst ev
  refine ⟨I1.kIn, ?_⟩
  show wpAny _ _ (call (.ref C) us) _ _ _
  cases r1 with
  | cons ry rr =>
  cases rr with
  | cons rz rr =>
  cases rr
  rename_i uy uz
  obtain ⟨hp, g, dr, tk, os⟩ := s1
  generalize hA : hp.objs.size + 1 = aE
  have hsz : hp.objs.size ≤ aE := by omega
  have hn : H1 aE = none := I1.hok.fresh hsz
  have kk : ∀ b o, hp.get? b = some o → ((hp.push (PySem.W.kdv_tup [uy, uz])).push (PySem.HandSPX.excO C hp.objs.size)).get? b = some o :=
    fun b o e => Heap.get?_push_of_some _ (Heap.get?_push_of_some _ e)
  have hget : ((hp.push (PySem.W.kdv_tup [uy, uz])).push (PySem.HandSPX.excO C hp.objs.size)).get? aE = some (PySem.HandSPX.excO C hp.objs.size) := by
    subst hA
    heap_get
  have I2 : Inv X pins σ (upd H1 aE (exo aE C none)) ⟨(hp.push (PySem.W.kdv_tup [uy, uz])).push (PySem.HandSPX.excO C hp.objs.size), g, dr, tk, os⟩ :=
    I1.laid (t' := tk) kk hsz (exo_ok hget)
  have hl : [Value.ref aE, uy, uz].length = ["self", "line", "word"].length := rfl
  have e0 := I2.env0
  refine wpAny_call (PySem.HandSPX.call_own F.excBase_ValueError over (I1.kIn _ _ hC) (PySem.W.looks_findIn I1.kIn iC)
    (fun self => PySem.W.bind_fn I1.kIn self tI) (by show 2 ≤ sizeLine; decide)
    (codeAny_mono (R := CR CX0 X.stack X.prog X.w (upd H1 aE (exo aE C none)) ⟨(hp.push (PySem.W.kdv_tup [uy, uz])).push (PySem.HandSPX.excO C hp.objs.size), g, dr, tk, os⟩
      (fun v H2 => v = .non ∧ ∃ d : Addr, H2 aE = some (exo aE C (some d)) ∧ H2 d = some (exd d [("word", z), ("line", y)]) ∧ H1 d = none ∧ ∀ b o, H1 b = some o → H2 b = some o) E0) ?_ fun r s' hq' => ?_))
  · subst hA
    refine F1.run _ X.stack _ _ ⟨[.ref (hp.objs.size + 1), uy, uz], []⟩ [.ref (hp.objs.size + 1), uy, uz] [.ref (hp.objs.size + 1), y, z] _ _
      (hr.make C [uy, uz] []) (e0.make C [uy, uz] []) ?_ (.cons rfl (.cons ry (.cons rz .nil))) ?_
    · have bb := hb ⟨(hp.push (PySem.W.kdv_tup [uy, uz])).push (PySem.HandSPX.excO C hp.objs.size), g, dr, tk, os⟩ [Value.ref (hp.objs.size + 1), uy, uz] I2.kIn hl
      rw [List.append_nil] at bb
      exact bb
    · refine ⟨_, y, z, rfl, upd_same, fun dx H2 n ne ea ed kp => ⟨rfl, dx, ea, ed, ?_, fun b o w => ?_⟩⟩
      · rwa [upd_ne ne] at n
      · refine kp b o (ne_of_none w hn) ?_
        rw [upd_ne (ne_of_none w hn)]
        exact w
  · cases r with
    | error er => exact hq'.elim
    | ok fl =>
      cases fl with
      | ret u =>
        obtain ⟨v, H2, os2, bare2, un2, hok2, rv, ev, d, ea, ed, hd1, kp⟩ := hq'
        subst ev
        obtain ⟨h2, g2, d2, t2, os'⟩ := s'
        obtain ⟨t0, G, J, kG, ge, hoe, na⟩ := mk_end0 (d2 := d2) (t2 := t2) I1 hsz kk un2 hok2 os2 bare2 ea ed hd1
        have hq := q1 d (upd (del H2 aE) d (.xd [("word", z), ("line", y)])) (fun b o z => by
          rw [upd_ne (ne_of_none z hd1), del_ne (ne_of_none z hn)]
          exact kp b o z) upd_same
        subst hA
        refine ⟨rv, _, _, _, ⟨G, g2, d2, t2, os'⟩, _, .ref C, some d, rfl, J, kG, ge, hoe, ⟨rfl, rfl, ?_⟩, rfl, rfl, na, rfl, bare2, raises_own T.exC T.tyC, hq⟩
        intro vs e
        cases e
        rfl
      | next => exact hq'.elim
      | brk => exact hq'.elim
      | cont => exact hq'.elim
def tRaiseL (Wx : WX) (C : Addr) (ta : TA) : TS := fun _ σ H => tMkL C ta σ H fun cls d H' => Wx cls d σ H'
theorem ps_raiseL {X : Cx} {Wx : WX} {C : Addr} {e e' : Expr} {ta : TA} {p p3 pos : Pos} (hc : X.calm = true) (tk : L2N.Takes X Wx) (Z : ErrL X.prog X.w X.K X.mg X.base C) (hr : Room 2 X.A) (hg : Gl X "BadLine") (ha : PA X [e, e'] ta)
    (he : starEach [e, e'] X.env = (false, eval e X.env) :: starEach [e'] X.env := by rfl) (hpl : (backTo p3 (starEach [e'] X.env)).any (·.1) = false := by rfl) :
    PS X (.Raise (some (.Call (.Name "BadLine" p) [e, e'] [] p3)) none pos) (tRaiseL Wx C ta) :=
  L2N.ps_raise hc tk (pmk_errL Z hr hg ha he hpl)
/-! ### defs that may raise them -/
abbrev RL := Value → Option (Int × Int) → Prop
abbrev WPY := List Da → (Da → Prop) → RL → Prop
/-- what is seen of the error -/
def EAt (H : Hp) (d : Option Addr) : Option (Int × Int) → Prop
  | none => d = none
  | some p => ∃ a, d = some a ∧ H a = some (.xd [("word", .int p.2), ("line", .int p.1)])
def spY (K : Frg) (W : WPY) : Sp := fun vs H1 Q E => ∃ ds P R H, Ex H H1 ∧ DqAll K H vs ds ∧ W ds P R ∧ (∀ d, P d → ∀ v H' H2, GrN K H H1 H' H2 → Dq K H' v d → Q v H2) ∧ ∀ c o, R c o → ∀ d H' H2, GrN K H H1 H' H2 → EAt H2 d o → E c d H2
section
variable {P : Program} {w : World} {K : Frg} {mg : Str → Option Value} {base : Heap}
structure DefY (P : Program) (w : World) (K : Frg) (mg : Str → Option Value) (base : Heap) (k : Nat) (x : Str) (ps : List Str) (W : WPY) : Prop where
  ex : ∃ f fd, FnOk P w K mg base (L2N.CX P w) k f fd ps (spY K W) ∧ Binds K fd ps [] ∧ PySem.W.keepIn K (.ref f) = true ∧ mg x = some (.ref f)
theorem pe_defY {X : Cx} {Wx : WX} {k : Nat} {x : Str} {ps : List Str} {W : WPY} {e : Expr} {es : List Expr} {t : TA} {p pos : Pos} (hX : X.prog = P ∧ X.w = w ∧ X.K = K ∧ X.mg = mg ∧ X.base = base) (d : DefY P w K mg base k x ps W) (hr : Room k X.A) (hg : Gl X x) (tk : L2N.Takes X Wx) (ha : PA X (e :: es) t)
    (hdb : (x == ("__debug__" : Str)) = false := by decide) (he : starEach (e :: es) X.env = (false, eval e X.env) :: starEach es X.env := by rfl) (hpl : (backTo pos (starEach es X.env)).any (·.1) = false := by rfl) :
    PE X (.Call (.Name x p) (e :: es) [] pos) (tCallS (spY K W) (L2.WE Wx) t) := by
  obtain ⟨e1, e2, e3, e4, e5⟩ := hX
  subst e1 e2 e3 e4 e5
  obtain ⟨f, fd, G, b, kp, m⟩ := d.ex
  exact pe_callS G hr hg m kp b (fun σ => L2N.passAt tk σ) ha hdb he hpl
/-- called where nothing is raised -/
theorem DefY.calm {k : Nat} {x : Str} {ps : List Str} {WY : WPY} {W : WP} (d : DefY P w K mg base k x ps WY) (h : ∀ ds Q, W ds Q → WY ds Q fun _ _ => False) : DefAt P w K mg base k x ps (spW K W) := by
  obtain ⟨f, fd, G, b, kp, m⟩ := d.ex
  have im : ∀ vs H Q E, spW K W vs H Q E → spY K WY vs H Q fun _ _ _ => False := fun vs H1 Q E ⟨ds, Pp, H, e, dx, wd, q⟩ => ⟨ds, Pp, _, H, e, dx, h _ _ wd, q, fun c o z => z.elim⟩
  refine ⟨f, fd, ⟨fun vs H Q E z => G.len _ _ _ _ (im _ _ _ _ z), fun A outer s H args us vs Q E hr he hb hv hs => ?_⟩, b, kp, m⟩
  refine codeAny_mono (G.run A outer s H args us vs Q _ hr he hb hv (im _ _ _ _ hs)) fun r s' q => ?_
  cases r with
  | error e =>
    obtain ⟨_, _, _, _, _, _, _, _, _, _, _, _, z⟩ := q
    exact z.elim
  | ok fl =>
    cases fl with
    | ret u => exact q
    | next => exact q
    | brk => exact q
    | cont => exact q
end
/-! ### statements that may raise them -/
def SY (K : Frg) (Wx : WX) (t : TS) (ρ : Rho) (O : Out → Prop) (R : RL) : Prop := ∀ B Hs H1s H H1 σ (D : Ends), Stt K B Hs H1s H H1 σ ρ → Fin K B Hs H1s D O →
  (∀ c o, R c o → ∀ σ' d H' H2, Gr K B Hs H1s H' H2 → EAt H2 d o → Wx c d σ' H2) → t D σ H1
def AY (K : Frg) (Wx : WX) (te : TE) (ρ : Rho) (P : Da → Prop) (R : RL) : Prop := ∀ σ H H1, Has K H H1 σ ρ → Ex H H1 → ∀ Q : VK, (∀ d, P d → ∀ v H' H2, Gr K (Rows σ ρ) H H1 H' H2 → Dq K H' v d → Q v H2) →
  (∀ c o, R c o → ∀ d H' H2, Gr K (Rows σ ρ) H H1 H' H2 → EAt H2 d o → Wx c d σ H2) → te σ H1 Q
section
variable {K : Frg} {Wx : WX} {ρ : Rho} {O : Out → Prop} {R : RL} {t u : TS} {te : TE} {P : Da → Prop} {W : WPY} {ta : TA} {C : Addr} {g : TG} {is : List Nat} {wi : TI} {tb : TS}
theorem ay_call (h : AA K ta ρ fun ds => W ds P R) : AY K Wx (tCallS (spY K W) (L2.WE Wx) ta) ρ P R := fun σ H H1 s e Q q r =>
  h σ H H1 s e _ fun ds wd vs H' H2 g dx => ⟨ds, P, R, H', g.b, dx, wd, fun d p v H4 H5 g3 dz => q d p v H4 H5 (g.trans (GrN.up g3 fun a ra => (s.gr g).rowAt ra)) dz,
    fun c o rc d H4 H5 g3 ea => r c o rc d H4 H5 (g.trans (GrN.up g3 fun a ra => (s.gr g).rowAt ra)) ea⟩
theorem ay_pure (h : AE K te ρ P) : AY K Wx te ρ P R := fun σ H H1 s e Q q _ => h σ H H1 s e Q q
theorem sy_pure (h : SO K t ρ O) : SY K Wx t ρ O R := fun B Hs H1s H H1 σ D s f _ => h B Hs H1s H H1 σ D s f
theorem SY.imp {O' : Out → Prop} {R' : RL} (h : SY K Wx t ρ O R) (i : ∀ o, O o → O' o) (j : ∀ c o, R c o → R' c o) : SY K Wx t ρ O' R' := fun B Hs H1s H H1 σ D s f r =>
  h B Hs H1s H H1 σ D s ⟨fun ρ' p => f.nx ρ' (i _ p), fun d p => f.rt d (i _ p), fun ρ' p => f.bk ρ' (i _ p), fun ρ' p => f.ct ρ' (i _ p)⟩ fun c o rc => r c o (j c o rc)
/-- what stands behind -/
def thenY (K : Frg) (Wx : WX) (u : TS) (O : Out → Prop) (R : RL) : Out → Prop
  | .nx ρ => SY K Wx u ρ O R
  | .rt d => O (.rt d)
  | .bk ρ => O (.bk ρ)
  | .ct ρ => O (.ct ρ)
theorem thenY_nx (h : SY K Wx u ρ O R) : thenY K Wx u O R (.nx ρ) := h
theorem sy_seq (h : SY K Wx t ρ (thenY K Wx u O R) R) : SY K Wx (tSeq t u) ρ O R := fun B Hs H1s H H1 σ D s f r =>
  h B Hs H1s H H1 σ _ s ⟨fun ρ' p σ' H' H2 s' => p B Hs H1s H' H2 σ' D s' f r, f.rt, f.bk, f.ct⟩ r
theorem sy_seqP (h : SO K t ρ (thenY K Wx u O R)) : SY K Wx (tSeq t u) ρ O R := sy_seq (sy_pure h)
theorem sy_drop (h : AY K Wx te ρ (fun _ => O (.nx ρ)) R) : SY K Wx (tDrop te) ρ O R := fun B Hs H1s H H1 σ D s f r =>
  h σ H H1 s.has s.ex _ (fun d o v H' H2 gr dx => f.nx ρ o σ H' H2 (s.gr gr)) fun c o rc d H' H2 gr ea => r c o rc σ d H' H2 (s.gr gr).toGr ea
theorem sy_ret (h : AY K Wx te ρ (fun d => O (.rt d)) R) : SY K Wx (tRet te) ρ O R := fun B Hs H1s H H1 σ D s f r =>
  h σ H H1 s.has s.ex _ (fun d o v H' H2 gr dx => f.rt d o v H' H2 (s.gr gr).toGr dx) fun c o rc d H' H2 gr ea => r c o rc σ d H' H2 (s.gr gr).toGr ea
theorem sy_set {i : Nat} (nr : ρ[i]? ≠ some .row) (h : AY K Wx te ρ (fun d => O (.nx (ρ.set i (.dat d)))) R) : SY K Wx (tAsg te (gName i)) ρ O R := fun B Hs H1s H H1 σ D s f r =>
  h σ H H1 s.has s.ex _ (fun d o v H' H2 gr dx => (at_name (K := K) (d := d) nr).run σ H' H2 v _ (s.has.gr gr) gr.b dx fun σ' h' k => f.nx _ o σ' H' H2 ((s.gr gr).slots h' (at_name (K := K) (d := d) nr).out (at_name (K := K) (d := d) nr).imm (at_name (K := K) (d := d) nr).nrow k)) fun c o rc d H' H2 gr ea => r c o rc σ d H' H2 (s.gr gr).toGr ea
theorem sy_if {c : TT} (h : AB K c ρ fun b => (b = true → SY K Wx t ρ O R) ∧ (b = false → SY K Wx u ρ O R)) : SY K Wx (tIfS c t u) ρ O R := fun B Hs H1s H H1 σ D s f r =>
  h σ H H1 s.has s.ex _ fun b o H' H2 gr => by
    cases b with
    | true => exact (o.1 rfl) B Hs H1s H' H2 σ D (s.gr gr) f r
    | false => exact (o.2 rfl) B Hs H1s H' H2 σ D (s.gr gr) f r
theorem gr_same {B : Addr → Prop} {Hs H1s H H1 H2 : Hp} {σ : L2.St} (s : Stt K B Hs H1s H H1 σ ρ) (e : Ex H1 H2) : Gr K B Hs H1s H H2 := (s.gr (GrN.up (GrN.mk' s.ex e) fun a ra => s.has.rowAt ra)).toGr
theorem sy_raiseL (h : AA K ta ρ fun ds => ∃ l m : Int, ds = [.int l, .int m] ∧ R (.ref C) (some (l, m))) : SY K Wx (tRaiseL Wx C ta) ρ O R := fun B Hs H1s H H1 σ D s f r =>
  h σ H H1 s.has s.ex _ fun ds ⟨l, m, ed, rc⟩ vs H' H2 gr dx => by
    subst ed
    cases dx with
    | cons a rr =>
    cases rr with
    | cons b rr =>
    cases rr
    cases a
    cases b
    exact ⟨_, _, rfl, fun d H3 e z => r _ _ rc σ _ H' H3 (gr_same (s.gr gr) e) ⟨d, rfl, z⟩⟩
theorem sy_raiseC (h : R (.ref C) none) : SY K Wx (tRaise Wx C) ρ O R := fun B Hs H1s H H1 σ D s f r => r _ _ h σ none H H1 s.toGr rfl
/-! loops -/
def LoopY (K : Frg) (Wx : WX) (g : TG) (is : List Nat) (tb : TS) (O : Out → Prop) (R : RL) : List Da → Rho → Prop
  | [], ρ => O (.nx ρ)
  | d :: ds, ρ => ∃ ρ1, AT K g is ρ d ρ1 ∧ SY K Wx tb ρ1 (loopO (fun o => match o with | .nx ρ' => LoopY K Wx g is tb O R ds ρ' | _ => False) O) R
theorem sy_for (h : AI K wi ρ fun ds => LoopY K Wx g is tb O R ds ρ) : SY K Wx (tFor wi g tb) ρ O R := fun B Hs H1s H H1 σ D s f r =>
  h σ H H1 s.has s.ex _ fun ds p J H' H2 gr y => by
    refine ⟨fun i m σ' H3 => m = ds.length - i ∧ i ≤ ds.length ∧ ∃ ρ' Hk, Ex H' Hk ∧ Stt K B Hs H1s Hk H3 σ' ρ' ∧ LoopY K Wx g is tb O R (ds.drop i) ρ', ⟨ds.length, by simp, Nat.zero_le _, ρ, H', Evl.Ex.refl _, s.gr gr, p⟩, ?_⟩
    rintro i m σ' H3 ⟨rfl, hi, ρ', Hk, ek, s', l⟩
    obtain ⟨yg, ys⟩ := y i Hk H3 ek s'.ex
    by_cases hlt : i < ds.length
    · right
      have e : ds[i]? = some ds[i] := by simp [hlt]
      obtain ⟨go, yl⟩ := yg _ e
      rw [List.drop_eq_getElem_cons hlt] at l
      obtain ⟨ρ1, a, so⟩ := l
      refine ⟨go, fun σ'' H4 => ∃ ρ'' Hk', Ex H' Hk' ∧ Stt K B Hs H1s Hk' H4 σ'' ρ'' ∧ LoopY K Wx g is tb O R (ds.drop (i + 1)) ρ'', fun σ'' H4 z => ⟨ds.length - (i + 1), by omega, rfl, by omega, z⟩, fun x H4 yy => ?_⟩
      obtain ⟨Hk', gn, dx⟩ := yl x H4 yy
      have g2 : Gr K (Rows σ' ρ') Hk H3 Hk' H4 := GrN.up gn fun b rb => s'.has.rowAt rb
      refine a.run σ' Hk' H4 x _ (s'.has.gr g2) g2.b dx fun σ'' h'' k => ?_
      have s2 : Stt K B Hs H1s Hk' H4 σ'' ρ1 := (s'.gr g2).slots h'' a.out a.imm a.nrow k
      -- known things behind the body are at least those ahead of it: carried by the entry heap's second copy
      have s3 : Stt K B Hk' H1s Hk' H4 σ'' ρ1 := ⟨s2.has, s2.ex, Evl.Ex.refl _, s2.c, fun x o z m => m, s2.ownN, s2.rowB, s2.bIn, s2.halN⟩
      have back : ∀ {ρ0 : Rho} {σ0 : L2.St} {Ha Hb : Hp}, Stt K B Hk' H1s Ha Hb σ0 ρ0 → Stt K B Hs H1s Ha Hb σ0 ρ0 ∧ Ex H' Ha := fun {ρ0 σ0 Ha Hb} z =>
        ⟨⟨z.has, z.ex, s2.a.trans z.a, z.c, fun x o q m => z.d x o q (s2.d x o q m), z.ownN, z.rowB, z.bIn, z.halN⟩, (ek.trans gn.a).trans z.a⟩
      refine so B Hk' H1s Hk' H4 σ'' _ s3 ⟨fun ρ0 p0 σ0 Ha Hb z => ?_, fun d p0 v Ha Hb z dv => ?_, fun ρ0 p0 σ0 Ha Hb z => ?_, fun ρ0 p0 σ0 Ha Hb z => ?_⟩ fun c o rc σ0 d Ha Hb z ea => ?_
      · exact ⟨ρ0, Ha, (back z).2, (back z).1, p0⟩
      · exact f.rt d p0 v Ha Hb ⟨s2.a.trans z.a, z.b, z.c, fun x o q m => z.d x o q (s2.d x o q m), z.e⟩ dv
      · exact f.nx ρ0 p0 σ0 Ha Hb (back z).1
      · exact ⟨ρ0, Ha, (back z).2, (back z).1, p0⟩
      · exact r c o rc σ0 d Ha Hb ⟨s2.a.trans z.a, z.b, z.c, fun x o q m => z.d x o q (s2.d x o q m), z.e⟩ ea
    · left
      have ei : i = ds.length := by omega
      subst ei
      rw [List.drop_length] at l
      exact ⟨ys rfl, f.nx ρ' l σ' Hk H3 s'⟩
theorem loopY_by {α : Type} (enc : α → Da) (I : List α → Rho → Prop) (hs : ∀ x xs ρ, I (x :: xs) ρ → ∃ ρ1, AT K g is ρ (enc x) ρ1 ∧ SY K Wx tb ρ1 (loopO (fun o => match o with | .nx ρ' => I xs ρ' | _ => False) O) R) (he : ∀ ρ, I [] ρ → O (.nx ρ)) :
    ∀ (xs : List α) (ρ : Rho), I xs ρ → LoopY K Wx g is tb O R (xs.map enc) ρ
  | [], ρ, h => he ρ h
  | x :: xs, ρ, h => by
    obtain ⟨ρ1, a, s⟩ := hs x xs ρ h
    refine ⟨ρ1, a, s.imp (fun o p => ?_) fun _ _ z => z⟩
    cases o with
    | nx ρ' => exact loopY_by enc I hs he xs ρ' p
    | ct ρ' => exact loopY_by enc I hs he xs ρ' p
    | bk ρ' => exact p
    | rt d => exact p
end
section
variable {P : Program} {w : World} {K : Frg} {mg : Str → Option Value} {base : Heap}
theorem mk_defY {k : Nat} {x : Str} {st : Stmt} {N ps : List Str} {W : WPY} (F : FunAt K mg x ps st) (S : FnScope N ps (defScope st)) (hl : ∀ ds P R, W ds P R → ds.length = ps.length)
    (body : ∀ (f : Addr) (cdv : Value) (A : Around) (outer : List Env) (s : Shared) (H : Hp) (E : XK), Room k (A.deeper (PyProof.Rows.envOfC x (defScope st) s.heap.objs.size f cdv)) →
      ∃ t, PSs (cxOf (L2N.CX P w) P w K mg base N x (defScope st) f cdv A outer s H E) (defBody st) t ∧ ∀ ds P R, W ds P R → SY K (fun cls d _ H' => E cls d H') t (rho0 N.length ds) (retO P) R) : DefY P w K mg base (k + 1) x ps W := by
  obtain ⟨f, fd, F, b, m⟩ := F.ex
  refine ⟨f, fd, fn_okX F S (fun vs H Q E ⟨ds, P, R, H0, e, dx, wp, q⟩ => (dps_len dx).trans (hl ds P R wp)) (fun cdv A outer s H vs Q E hr ⟨ds, P, R, H0, e, dx, wp, q, qx⟩ => ?_), b, F.kp, m⟩
  obtain ⟨t, pt, so⟩ := body f cdv A outer s H E hr
  refine ⟨t, pt, so ds P R wp (fun _ => False) H0 H H0 H (start N vs) _ ⟨has0 dx, e, Evl.Ex.refl _, fun x o _ z => z, fun x o _ z => z, fun i es l z => ?_, fun i l z => ?_, fun x z => z.elim, fun i C fs l z => ?_⟩
    ⟨fun ρ' p σ' H' H2 s' => q _ p _ H' H2 s'.toGr .non, fun d p v H' H2 g dv => q d p v H' H2 g dv, fun ρ' p => p.elim, fun ρ' p => p.elim⟩ fun c o rc σ' d H' H2 gr ea => qx c o rc d H' H2 gr ea⟩
  · rcases dats_get z with ⟨d', e1, e2⟩ | e1 <;> cases e1
  · rcases dats_get z with ⟨d', e1, e2⟩ | e1 <;> cases e1
  · rcases dats_get z with ⟨d', e1, e2⟩ | e1 <;> cases e1
end
theorem pi_enumSK {X : Cx} {K : Frg} (hk : X.K = K) {e : Expr} {ta : TA} {p pos tpos kp cp : Pos} {elts : List Expr} {kk j : Nat} {c : Int} (hg : Gl X "enumerate") (hm : X.mg "enumerate" = none) (ha : PA X [e] ta) (hc0 : -(2 ^ 63) ≤ c) (hc1 : c < 2 ^ 63) (hs : starEach [e] X.env = [(false, eval e X.env)] := by rfl) :
    PI X (.Tuple elts kk tpos) (.Call (.Name "enumerate" p) [e] [⟨some "start", .Constant (.int c) j cp, kp⟩] pos) (iEnumK K ta c) := by
  subst hk
  exact pi_enumS hg hm ha hc0 hc1 hs
/-! ### a tuple of strings of the module -/
def TupG (K : Frg) (mg : Str → Option Value) (x : Str) (r : Addr) (ys : List Str) : Prop := mg x = some (.ref r) ∧ (∃ o : Obj, K.lookup r = some o ∧ o.cls = .type "tuple" ∧ o.dict = none) ∧ ∀ H, SqT K H r (ys.map V.str)
theorem TupG.glob {K : Frg} {mg : Str → Option Value} {x : Str} {r : Addr} {ys : List Str} (h : TupG K mg x r ys) : GlobC K mg x (.tuple (ys.map .str)) :=
  let ⟨m, _, q⟩ := h; ⟨_, .ref r, m, rfl, fun H => .tup (q H) (strs_dqs ys)⟩
def tTixG (K : Frg) (r : Addr) (te : TE) : TE := fun σ H Q => te σ H fun x H1 => rTix K (.ref r) [x] H1 Q
theorem pe_tixG {X : Cx} {K : Frg} (hk : X.K = K) {x : Str} {r : Addr} {ys : List Str} {e : Expr} {te : TE} {p apos cpos : Pos} (c : TupG K X.mg x r ys) (hg : Gl X x) (he : PE X e te) (hd : (x == ("__debug__" : Str)) = false := by decide)
    (hbase : attributeBase (.Name x p) "index" X.env (eval (.Name x p) X.env) = eval (.Name x p) X.env := by rfl)
    (hfew : ((backTo cpos (starEach [e] X.env)).all (fun x => !x.1) && (backToKw cpos (keywordEach [] X.env)).all (fun x => x.1.isSome)
      && decide ([e].length + ([] : List Keyword).length + (if ([] : List Keyword).isEmpty then 0 else 1) < 30)) = true := by rfl)
    (hline : (apos.endLine == cpos.line) = true := by rfl) (hs : starEach [e] X.env = (false, eval e X.env) :: starEach [] X.env := by rfl) (hplain : (backTo cpos (starEach [] X.env)).any (·.1) = false := by rfl) :
    PE X (.Call (.Attribute (.Name x p) "index" apos) [e] [] cpos) (tTixG K r te) := by
  subst hk
  obtain ⟨m, ⟨o, l, hc, hn⟩, q⟩ := c
  have h := pe_bm PySem.F.plainAttrs_tuple PySem.F.slot_tuple_index PySem.F.type_tuple_index mt_tup_index (pe_glob (v := .ref r) hg m rfl hd) (pa_cons he pa_nil hs) hbase hfew hline hs hplain
  exact ⟨fun pins s σ H Q I z => h.run pins s σ H Q I ⟨.inr (.inl ⟨rfl, o, l, hc, hn⟩), z⟩⟩
theorem ae_tixG {K : Frg} {mg : Str → Option Value} {x : Str} {r : Addr} {ρ : Rho} {P : Da → Prop} {ys : List Str} {te : TE} (c : TupG K mg x r ys) (h : AE K te ρ fun d => ∃ z j, d = .str z ∧ ys[j]? = some z ∧ (∀ m, m < j → ys[m]? ≠ some z) ∧ P (.int (j : Nat))) : AE K (tTixG K r te) ρ P := fun σ H H1 s e Q q =>
  h σ H H1 s e _ fun d ⟨z, j, ed, h1, h2, p⟩ v H' H2 g dx => by
    subst ed
    cases dx
    exact ⟨r, ys, z, j, rfl, rfl, c.2.2 H2, h1, h2, q _ p _ _ _ g (.int _)⟩
end Ft

/-! part: FtTs -/
set_option Elab.async false
set_option linter.all false
set_option maxRecDepth 100000
/-! Texts as lists of signs: lines and words, what spaces and empty lines change. -/
namespace Ft
open PySem
abbrev Sg := List Nat
def ofL (l : Sg) : Str := ⟨l.toArray⟩
def toL (x : Str) : Sg := x.cps.toList
theorem toL_ofL (l : Sg) : toL (ofL l) = l := rfl
theorem ofL_toL (x : Str) : ofL (toL x) = x := rfl
theorem ofL_inj {a b : Sg} (h : ofL a = ofL b) : a = b := congrArg toL h
theorem toL_app (a b : Str) : toL (a ++ b) = toL a ++ toL b := Array.toList_append
theorem ofL_app (a b : Sg) : ofL a ++ ofL b = ofL (a ++ b) := congrArg ofL (toL_app (ofL a) (ofL b))
theorem len_ofL (l : Sg) : (ofL l).length = l.length := List.size_toArray
theorem len_toL (x : Str) : x.length = (toL x).length := Array.length_toList.symm
theorem strOk_ofL {l : Sg} : PyData.strOk (ofL l) = true ↔ ∀ c ∈ l, c < 0x110000 := by
  unfold PyData.strOk ofL
  rw [Array.all_eq_true']
  simp only [List.mem_toArray, decide_eq_true_eq]
/-! ### parts between a sign -/
def splitL (c : Nat) : Sg → List Sg
  | [] => [[]]
  | d :: l => if d = c then [] :: splitL c l else match splitL c l with
    | [] => [[d]]
    | h :: t => (d :: h) :: t
def joinL (c : Nat) : List Sg → Sg
  | [] => []
  | [p] => p
  | p :: q :: r => p ++ c :: joinL c (q :: r)
theorem splitL_ne (c : Nat) : ∀ l : Sg, splitL c l ≠ []
  | [] => by simp [splitL]
  | d :: l => by
    unfold splitL
    split
    · simp
    · split <;> simp
theorem splitL_cons {c : Nat} (l : Sg) : ∃ h t, splitL c l = h :: t := by
  cases e : splitL c l with
  | nil => exact absurd e (splitL_ne c l)
  | cons h t => exact ⟨h, t, rfl⟩
theorem splitL_hit (c : Nat) (l : Sg) : splitL c (c :: l) = [] :: splitL c l := by
  rw [splitL, if_pos rfl]
theorem splitL_miss {c d : Nat} {l h : Sg} {t : List Sg} (n : d ≠ c) (e : splitL c l = h :: t) : splitL c (d :: l) = (d :: h) :: t := by
  rw [splitL, if_neg n, e]
theorem splitL_free {c : Nat} : ∀ {p : Sg}, c ∉ p → splitL c p = [p]
  | [], _ => rfl
  | d :: p, h => splitL_miss (fun e => h (by rw [e]; exact List.mem_cons_self)) (splitL_free fun z => h (List.mem_cons_of_mem _ z))
theorem splitL_app {c : Nat} : ∀ {p : Sg} (l : Sg), c ∉ p → splitL c (p ++ c :: l) = p :: splitL c l
  | [], l, _ => splitL_hit c l
  | d :: p, l, h => splitL_miss (fun e => h (by rw [e]; exact List.mem_cons_self)) (splitL_app l fun z => h (List.mem_cons_of_mem _ z))
theorem split_joinL {c : Nat} : ∀ {ps : List Sg}, ps ≠ [] → (∀ p ∈ ps, c ∉ p) → splitL c (joinL c ps) = ps
  | [], h, _ => absurd rfl h
  | [p], _, f => splitL_free (f p List.mem_cons_self)
  | p :: q :: r, _, f => by
    show splitL c (p ++ c :: joinL c (q :: r)) = _
    rw [splitL_app _ (f p List.mem_cons_self), split_joinL (by simp) fun p' hp => f p' (List.mem_cons_of_mem _ hp)]
theorem splitL_mem {c : Nat} : ∀ {l p : Sg}, p ∈ splitL c l → ∀ x ∈ p, x ∈ l
  | [], p, h, x, hx => by
    have e : p = [] := by simpa [splitL] using h
    rw [e] at hx
    cases hx
  | d :: l, p, h, x, hx => by
    by_cases n : d = c
    · subst n
      rw [splitL_hit] at h
      rcases List.mem_cons.mp h with rfl | h
      · cases hx
      · exact List.mem_cons_of_mem _ (splitL_mem h x hx)
    · obtain ⟨h', t, e⟩ := splitL_cons (c := c) l
      rw [splitL_miss n e] at h
      rcases List.mem_cons.mp h with rfl | h
      · rcases List.mem_cons.mp hx with rfl | hx
        · exact List.mem_cons_self
        · exact List.mem_cons_of_mem _ (splitL_mem (by rw [e]; exact List.mem_cons_self) x hx)
      · exact List.mem_cons_of_mem _ (splitL_mem (by rw [e]; exact List.mem_cons_of_mem _ h) x hx)
theorem splitL_len (c : Nat) : ∀ l : Sg, (splitL c l).length ≤ l.length + 1
  | [] => Nat.le_refl _
  | d :: l => by
    have ih := splitL_len c l
    by_cases n : d = c
    · subst n
      rw [splitL_hit, List.length_cons, List.length_cons]
      omega
    · obtain ⟨h', t, e⟩ := splitL_cons (c := c) l
      rw [splitL_miss n e, List.length_cons, List.length_cons]
      rw [e, List.length_cons] at ih
      omega
theorem toL_join (c : Nat) : ∀ qs : List Str, toL (Str.join ⟨#[c]⟩ qs) = joinL c (qs.map toL)
  | [] => rfl
  | [x] => rfl
  | x :: y :: r => by
    show toL (x ++ ⟨#[c]⟩ ++ Str.join ⟨#[c]⟩ (y :: r)) = toL x ++ c :: joinL c ((y :: r).map toL)
    rw [toL_app, toL_app, toL_join c (y :: r), List.append_assoc]
    rfl
theorem split_list (x : Str) (c : Nat) : Txt.split x ⟨#[c]⟩ = (splitL c (toL x)).map ofL := by
  have h1 := StrLaws.join_split x ⟨#[c]⟩
  have h2 := StrLaws.split_free x c
  have h3 : Txt.split x ⟨#[c]⟩ ≠ [] := fun e => by
    have := PyProof.Rows.split_pos x ⟨#[c]⟩
    rw [e] at this
    exact absurd this (by decide)
  generalize Txt.split x ⟨#[c]⟩ = qs at h1 h2 h3
  rw [← h1, toL_join, split_joinL (by simpa using h3) (by simpa [toL] using h2), List.map_map]
  exact (List.map_id' qs).symm.trans (List.map_congr_left fun _ _ => rfl)
theorem join_list (c : Nat) (qs : List Sg) : Txt.join ⟨#[c]⟩ (qs.map ofL) = ofL (joinL c qs) := by
  have e : Txt.join ⟨#[c]⟩ (qs.map ofL) = Str.join ⟨#[c]⟩ (qs.map ofL) := StrLaws.glued_eq_join _ _
  have h := toL_join c (qs.map ofL)
  rw [List.map_map] at h
  have e2 : qs.map (toL ∘ ofL) = qs := (List.map_congr_left fun _ _ => rfl).trans (List.map_id' qs)
  rw [e2] at h
  rw [e, ← ofL_toL (Str.join _ _), h]
/-! ### replacing a sign -/
theorem replL_one (c : Nat) (z : Sg) : ∀ l : Sg, StrLaws.replL [c] z l = l.flatMap fun d => if d = c then z else [d]
  | [] => StrLaws.replL_nil
  | d :: l => by
    rw [List.flatMap_cons]
    by_cases n : d = c
    · subst n
      rw [StrLaws.replL_hit (by simp) rfl, if_pos rfl]
      exact congrArg (z ++ ·) (replL_one d z l)
    · rw [StrLaws.replL_miss (fun e => n (by simpa using e)), if_neg n, replL_one c z l]
      rfl
theorem replace_one (x : Str) (c : Nat) (z : Sg) : Txt.replace x ⟨#[c]⟩ (ofL z) = ofL ((toL x).flatMap fun d => if d = c then z else [d]) := by
  have h := StrLaws.replace_list (x := x) (y := ⟨#[c]⟩) (z := ofL z) (Nat.le_refl 1)
  rw [← ofL_toL (Txt.replace x ⟨#[c]⟩ (ofL z))]
  exact congrArg ofL (h.trans (replL_one c z (toL x)))
/-! ### lines with words -/
def wordsL (l : Sg) : List Sg := (splitL 32 l).filter fun w => !w.isEmpty
def numL : Nat → List (List Sg) → List (Nat × List Sg)
  | _, [] => []
  | k, ws :: r => if ws.isEmpty then numL (k + 1) r else (k, ws) :: numL (k + 1) r
def linesL (t : Sg) : List (Nat × List Sg) := numL 1 ((splitL 10 t).map wordsL)
/-- the words of the lines that have some -/
def wlines (t : Sg) : List (List Sg) := ((splitL 10 t).map wordsL).filter fun ws => !ws.isEmpty
theorem numL_snd : ∀ (r : List (List Sg)) (k : Nat), (numL k r).map (·.2) = r.filter fun ws => !ws.isEmpty
  | [], _ => rfl
  | ws :: r, k => by
    unfold numL
    cases h : ws.isEmpty
    · simp [h, numL_snd r]
    · simp [h, numL_snd r]
theorem lines_snd (t : Sg) : (linesL t).map (·.2) = wlines t := numL_snd _ 1
/-! a walk over the signs: the word and the line under way -/
def putW (w : Sg) (ws : List Sg) : List Sg := if w.isEmpty then ws else ws ++ [w]
def putL (ws : List Sg) (r : List (List Sg)) : List (List Sg) := if ws.isEmpty then r else ws :: r
def go : Sg → Sg → List Sg → List (List Sg)
  | [], w, ws => putL (putW w ws) []
  | c :: l, w, ws => if c = 10 then putL (putW w ws) (go l [] []) else if c = 32 then go l [] (putW w ws) else go l (w ++ [c]) ws
theorem words_hit {w : Sg} (h : Sg) (f : 32 ∉ w) : wordsL (w ++ 32 :: h) = (if w.isEmpty then [] else [w]) ++ wordsL h := by
  unfold wordsL
  rw [splitL_app h f, List.filter_cons]
  cases w.isEmpty <;> simp
theorem words_free {w : Sg} (f : 32 ∉ w) : wordsL w = if w.isEmpty then [] else [w] := by
  unfold wordsL
  rw [splitL_free f, List.filter_cons]
  cases w.isEmpty <;> simp
theorem putW_is (w : Sg) (ws : List Sg) : putW w ws = ws ++ if w.isEmpty then [] else [w] := by
  unfold putW
  cases w.isEmpty <;> simp
theorem go_is : ∀ (l w : Sg) (ws : List Sg), 32 ∉ w → ∀ h t, splitL 10 l = h :: t → go l w ws = putL (ws ++ wordsL (w ++ h)) ((t.map wordsL).filter fun ws => !ws.isEmpty)
  | [], w, ws, f, h, t, e => by
    have e1 : h = [] ∧ t = [] := by simpa [splitL, eq_comm] using e
    obtain ⟨rfl, rfl⟩ := e1
    rw [List.append_nil, words_free f, ← putW_is]
    rfl
  | c :: l, w, ws, f, h, t, e => by
    obtain ⟨h', t', e'⟩ := splitL_cons (c := 10) l
    unfold go
    by_cases n : c = 10
    · subst n
      rw [splitL_hit] at e
      obtain ⟨rfl, rfl⟩ := List.cons.inj e
      rw [if_pos rfl, go_is l [] [] (by simp) h' t' e', List.append_nil, words_free f, ← putW_is, e', List.map_cons, List.filter_cons]
      congr 1
      unfold putL
      rw [List.nil_append, List.nil_append]
      cases (wordsL h').isEmpty <;> simp
    · rw [splitL_miss n e'] at e
      obtain ⟨rfl, rfl⟩ := List.cons.inj e
      rw [if_neg n]
      by_cases m : c = 32
      · subst m
        rw [if_pos rfl, go_is l [] _ (by simp) h' t' e', words_hit h' f, putW_is, List.append_assoc]
        rfl
      · rw [if_neg m, go_is l (w ++ [c]) ws (by simp [f, Ne.symm m]) h' t' e', List.append_assoc]
        rfl
theorem wlines_go (t : Sg) : wlines t = go t [] [] := by
  obtain ⟨h, r, e⟩ := splitL_cons (c := 10) t
  rw [go_is t [] [] (by simp) h r e]
  unfold wlines putL
  rw [e, List.map_cons, List.filter_cons, List.nil_append, List.nil_append]
  cases (wordsL h).isEmpty <;> simp
theorem go_sp (l w : Sg) (ws : List Sg) : go (32 :: l) w ws = go l [] (putW w ws) := by
  rw [go, if_neg (by decide), if_pos rfl]
theorem go_nl (l w : Sg) (ws : List Sg) : go (10 :: l) w ws = putL (putW w ws) (go l [] []) := by
  rw [go, if_pos rfl]
theorem putW_nil (ws : List Sg) : putW [] ws = ws := rfl
/-- a sign as it may stand in the loose text -/
def Loose (c : Nat) (z : Sg) : Prop := ∀ l w ws, go (z ++ l) w ws = go (c :: l) w ws
theorem loose_self (c : Nat) : Loose c [c] := fun _ _ _ => rfl
theorem loose_32 : Loose 32 [32, 32, 32] := fun l w ws => by
  show go (32 :: 32 :: 32 :: l) w ws = _
  rw [go_sp, go_sp, go_sp, go_sp]
  rfl
theorem loose_a : Loose 10 [32, 10] := fun l w ws => by
  show go (32 :: 10 :: l) w ws = _
  rw [go_sp, go_nl, go_nl]
  rfl
theorem loose_b : Loose 10 [10, 10] := fun l w ws => by
  show go (10 :: 10 :: l) w ws = _
  rw [go_nl, go_nl, go_nl]
  rfl
theorem loose_c : Loose 10 [10, 32, 32] := fun l w ws => by
  show go (10 :: 32 :: 32 :: l) w ws = _
  rw [go_nl, go_sp, go_sp, go_nl]
  rfl
theorem go_flat {f : Nat → Sg} (h : ∀ c, Loose c (f c)) : ∀ (l tl w : Sg) (ws : List Sg), go (l.flatMap f ++ tl) w ws = go (l ++ tl) w ws
  | [], _, _, _ => rfl
  | c :: l, tl, w, ws => by
    rw [List.flatMap_cons, List.append_assoc, h c, List.cons_append, go, go]
    rw [go_flat h l, go_flat h l, go_flat h l]
theorem go_end {z : Sg} (h : ∀ w ws, go z w ws = go [] w ws) : ∀ (l w : Sg) (ws : List Sg), go (l ++ z) w ws = go l w ws
  | [], w, ws => h w ws
  | c :: l, w, ws => by
    rw [List.cons_append, go, go, go_end h l, go_end h l, go_end h l]
theorem end_sp : ∀ w ws, go [32] w ws = go [] w ws := fun w ws => by rw [go_sp]; rfl
theorem end_nl : ∀ w ws, go [10] w ws = go [] w ws := fun w ws => by rw [go_nl]; rfl
theorem beg_sp (l : Sg) : go (32 :: l) [] [] = go l [] [] := by rw [go_sp]; rfl
theorem beg_nl (l : Sg) : go (10 :: l) [] [] = go l [] [] := by rw [go_nl]; rfl
/-- what the loose text is -/
def looseT (a b c d t : Sg) : Sg := (a ++ t.flatMap fun x => if x = 32 then b else [x]).flatMap (fun x => if x = 10 then c else [x]) ++ d
theorem wlines_loose {a b c d t : Sg} (ha : a ∈ [[], [32], [10], [32, 10, 32]]) (hb : b ∈ [[32], [32, 32, 32]]) (hc : c ∈ [[10], [32, 10], [10, 10], [10, 32, 32]]) (hd : d ∈ [[], [32], [10]]) : wlines (looseT a b c d t) = wlines t := by
  have lc : ∀ x, Loose x (if x = 10 then c else [x]) := fun x => by
    by_cases e : x = 10
    · subst e
      rw [if_pos rfl]
      simp only [List.mem_cons, List.not_mem_nil, or_false] at hc
      rcases hc with rfl | rfl | rfl | rfl
      · exact loose_self _
      · exact loose_a
      · exact loose_b
      · exact loose_c
    · rw [if_neg e]
      exact loose_self _
  have lb : ∀ x, Loose x (if x = 32 then b else [x]) := fun x => by
    by_cases e : x = 32
    · subst e
      rw [if_pos rfl]
      simp only [List.mem_cons, List.not_mem_nil, or_false] at hb
      rcases hb with rfl | rfl
      · exact loose_self _
      · exact loose_32
    · rw [if_neg e]
      exact loose_self _
  have he : ∀ l w ws, go (l ++ d) w ws = go l w ws := by
    simp only [List.mem_cons, List.not_mem_nil, or_false] at hd
    rcases hd with rfl | rfl | rfl
    · exact fun l w ws => by rw [List.append_nil]
    · exact go_end end_sp
    · exact go_end end_nl
  have hs : ∀ l, go (a ++ l) [] [] = go l [] [] := fun l => by
    simp only [List.mem_cons, List.not_mem_nil, or_false] at ha
    rcases ha with rfl | rfl | rfl | rfl
    · rfl
    · exact beg_sp l
    · exact beg_nl l
    · exact (beg_sp _).trans ((beg_nl _).trans (beg_sp l))
  rw [wlines_go, wlines_go]
  unfold looseT
  rw [he]
  have e1 := go_flat lc (a ++ t.flatMap fun x => if x = 32 then b else [x]) [] [] []
  rw [List.append_nil, List.append_nil] at e1
  have e2 := go_flat lb t [] [] []
  rw [List.append_nil, List.append_nil] at e2
  rw [e1, hs, e2]
end Ft

/-! part: FtTf -/
set_option Elab.async false
set_option linter.all false
set_option maxRecDepth 100000
set_option maxHeartbeats 2000000
/-! try with clauses that have a name and any suites. -/
namespace L2N
open PySem PySem.Spec PyProof.Rows L2
structure CC where
  x : Str
  c : Value
  np : Pos
  pc : Pos
  b : Stmt
  su : List Stmt
  ts : Addr → Value → Option Addr → TS
abbrev CC.h (n : Str) (k : CC) : ExceptHandler := .ExceptHandler (some (.Name k.x k.np)) (some n) (k.b :: k.su) k.pc
/-- behind the suite the name is gone -/
def gone (i : Nat) (D : Ends) : Ends := { nx := fun σ' H' => D.nx (σ'.set i none) H', rt := D.rt, bk := fun σ' H' => D.bk (σ'.set i none) H', ct := fun σ' H' => D.ct (σ'.set i none) H' }
def ccOut (K : PySem.W.Frag) (i : Nat) (D : Ends) : List CC → WX
  | [], _, _, _, _ => False
  | k :: r, c, d, σ, H => (PySem.W.exmOne K c k.c = some true ∧ ∀ a, H a = none → k.ts a c d (gone i D) (σ.set i (some (.ref a))) H) ∨ (PySem.W.exmOne K c k.c = some false ∧ ccOut K i D r c d σ H)
section
variable {X : Cx} {n : Str} {i : Nat} {body : List Stmt} {ks : List CC} {pos : Pos} {tb : WX → TS}
theorem ps_try_cc (hs : X.stack = X.env :: X.outer) (hf : X.env.frame = some X.env.locals) (hN : X.N.Nodup) (hi : X.N[i]? = some n) (hln : X.env.kindOf n = some .local) (hc : ∀ k ∈ ks, Names X k.x k.c)
    (hb : ∀ (W : WX) (pn : List (Addr × Obj)) (xe : Value → Shared → Prop), Takes (X.tr pn xe) W → PassesOwn (model X.prog X.w) X.A X.env xe → PSs (X.tr pn xe) body (tb W))
    (hsu : ∀ k ∈ ks, ∀ (a : Addr) (oe : Obj) (cls : Value) (d : Option Addr) (pn : List (Addr × Obj)), Zn cls d oe → (∃ vs, oe.data = .fields vs) → PSs (X.suite a ((a, oe) :: pn)) (k.b :: k.su) (k.ts a cls d)) (h1 : ks ≠ []) :
    PS X (.Try body (ks.map (CC.h n)) [] [] pos) (fun D σ H => tb (ccOut X.K i D ks) D σ H) := by
  obtain ⟨k1, kr, rfl⟩ : ∃ k r, ks = k :: r := by
    cases ks with
    | nil => exact absurd rfl h1
    | cons k r => exact ⟨k, r, rfl⟩
  refine ⟨fun pins s σ H D I h => wpAny_Try_except ?_⟩
  have ok := I.ok
  have hfr : X.A.frames = some (X.env :: X.outer) := by rw [ok.frames, hs]
  refine wpAny_mono ((hb (ccOut X.K i D (k1 :: kr)) (X.pn ++ pins) (fun e z => wpAny (model X.prog X.w) X.A (noteFrame e X.env) (fun _ z2 => wpAny (model X.prog X.w) X.A (setFlight e none) (fun _ z3 =>
    wpAny (model X.prog X.w) X.A (handleBy e X.env ((k1 :: kr).map (CC.h n))) (SP X pins D) X.xe z3) X.xe z2) X.xe z) (fun u z xx => ?_) PassesOwn.looking).run [] s σ H D (I.toTry _) h) (fun f s1 hsp => ?_) (fun e s1 he => he)
  · obtain ⟨a, B, sI, pins', σ', H', cls, d, rfl, J', nb, up, sky, na, os, ag, w⟩ := xx
    have J : Inv X pins σ' H' sI := J'.ofTry ok
    have sky' : Sky B (X.env :: X.outer) a (Zn cls d) X.env.locals z.heap := by rw [← hs]; exact sky
    show wpAny (model X.prog X.w) X.A (noteFrame (.ref a) X.env) _ _ _
    refine Sky.land Zn.steady hfr hf sky' fun h3 fl3 up3 => ?_
    have J3 : Inv X pins σ' H' { z with heap := h3 } := J.landed nb fl3.1 (up.trans up3) os ag
    obtain ⟨oe3, vs3, he3, hz3, hd3⟩ := fl3.there
    have nfr : a ∉ frs (X.env :: X.outer) := fun hm => by
      obtain ⟨_, o', e', hnf⟩ := fl3.2.2.1.mem hm
      rw [he3] at e'
      cases e'
      exact hnf _ hd3
    have nL : a ≠ X.env.locals := fun y => nfr (List.mem_filterMap.mpr ⟨X.env, List.mem_cons_self, by rw [hf, y]⟩)
    have nF : a ∉ X.fs := fun hm => by
      obtain ⟨e, he, q⟩ := List.mem_filterMap.mp hm
      exact nfr (List.mem_filterMap.mpr ⟨e, List.mem_cons_of_mem _ he, q⟩)
    have S3 := J3.suite he3 hd3 na nL nF
    have LT : PySem.W.Looks (model X.prog X.w) h3 (typeOf (.ref a)) cls := fun A Q E s k q => wpAny_typeOf_ref (k _ _ he3) (by rw [hz3.1]; exact q)
    have test : ∀ {x : Str} {c : Value} {np : Pos} {Q : Value → Shared → Prop} {E : Value → Shared → Prop}, Names X x c → Q c { z with heap := h3 } → wpAny (model X.prog X.w) (X.A.mark (some (.ref a))) (eval (.Name x np) X.env) Q E { z with heap := h3 } := fun {x c np Q E} hc q => by
      obtain ⟨hg, hdbg, hm | ⟨hm, hv, hnn⟩⟩ := hc
      · exact ld_glob (X := X.suite a ((a, oe3) :: (X.pn ++ pins))) S3 hg hm q hdbg
      · exact ld_blt (X := X.suite a ((a, oe3) :: (X.pn ++ pins))) S3 hg hm hv q hnn hdbg
    -- a clause that is taken
    have take : ∀ {k : CC} {rest : List ExceptHandler}, k ∈ k1 :: kr → PySem.W.exmOne X.K cls k.c = some true → (∀ a, H' a = none → k.ts a cls d (gone i D) (σ'.set i (some (.ref a))) H') → wpAny (model X.prog X.w) X.A (handleBy (.ref a) X.env (CC.h n k :: rest)) (SP X pins D) X.xe { z with heap := h3 } := fun {k rest} hk hb1 hq => by
      refine wpAny_handleBy_cons (codeAny_handlers_test ?_) (by intro y; cases y)
      refine test (hc k hk) ((PySem.W.exm_one (M := model X.prog X.w) (J3.kIn) LT hb1).here ?_)
      refine codeAny_handlers_suite_as ?_
      refine HandSPX.lands_againZ fl3 fun h4 fl4 up4 => ?_
      have J4 : Inv X pins σ' H' { z with heap := h4 } := J.landed nb fl4.1 ((up.trans up3).trans up4) os ag
      obtain ⟨oe4, vs4, he4, hz4, hd4⟩ := fl4.there
      have S4 := J4.suite he4 hd4 na nL nF
      refine store_ok (X := X.suite a ((a, oe4) :: (X.pn ++ pins))) (v := .ref a) S4 hN hi (.inl hln) rfl (fun s5 S5 => ?_) (.inr hln)
      refine wpAny_mono ((hsu k hk a oe4 cls d (X.pn ++ pins) hz4 ⟨_, hd4⟩).run [] s5 _ H' _ S5 (hq a na)) (fun f s6 hsp => ?_) (fun _ _ z => False.elim z)
      have end_ : ∀ {σ6 : St} {H6 : Hp} {Q : Shared → Prop}, Inv (X.suite a ((a, oe4) :: (X.pn ++ pins))) [] σ6 H6 s6 → (∀ s7, Inv X pins (σ6.set i none) H6 s7 → Q s7) →
          wpAny (model X.prog X.w) X.A (do bindName X.env n .none; unbindBehindTheSuite X.env n k.pc) (fun _ s7 => Q s7) X.xe s6 := fun {σ6 H6 Q} S6 hq => gone_ok (S6.unsuite ok) hN hi hln hq
      cases f with
      | next =>
        obtain ⟨σ6, H6, S6, q6⟩ := hsp
        exact end_ S6 fun s7 J7 => ⟨_, _, J7, q6⟩
      | brk =>
        obtain ⟨σ6, H6, S6, q6⟩ := hsp
        exact end_ S6 fun s7 J7 => ⟨_, _, J7, q6⟩
      | cont =>
        obtain ⟨σ6, H6, S6, q6⟩ := hsp
        exact end_ S6 fun s7 J7 => ⟨_, _, J7, q6⟩
      | ret u =>
        obtain ⟨v6, σ6, H6, S6, r6, q6⟩ := hsp
        exact end_ S6 fun s7 J7 => ⟨_, _, _, J7, r6, q6⟩
    -- from the left
    have go : ∀ l : List CC, (∀ k ∈ l, k ∈ k1 :: kr) → ccOut X.K i D l cls d σ' H' → wpAny (model X.prog X.w) X.A (handleBy (.ref a) X.env (l.map (CC.h n))) (SP X pins D) X.xe { z with heap := h3 } := by
      intro l
      induction l with
      | nil => exact fun _ w => False.elim w
      | cons k l ih =>
        intro hm w
        rcases w with ⟨w1, w2⟩ | ⟨w1, w2⟩
        · exact take (hm k List.mem_cons_self) w1 w2
        · refine wpAny_handleBy_cons (codeAny_handlers_test ?_) (by intro y; cases y)
          refine test (hc k (hm k List.mem_cons_self)) ((PySem.W.exm_one (M := model X.prog X.w) (J3.kIn) LT w1).here ?_)
          exact ih (fun k' hk' => hm k' (List.mem_cons_of_mem _ hk')) w2
    exact go _ (fun _ z => z) w
  · cases f with
    | next =>
      obtain ⟨σ', H', J', q⟩ := hsp
      exact wpAny_execs_nil ⟨σ', H', J'.ofTry ok, q⟩
    | brk =>
      obtain ⟨σ', H', J', q⟩ := hsp
      exact ⟨σ', H', J'.ofTry ok, q⟩
    | cont =>
      obtain ⟨σ', H', J', q⟩ := hsp
      exact ⟨σ', H', J'.ofTry ok, q⟩
    | ret u =>
      obtain ⟨v, σ', H', J', r, q⟩ := hsp
      exact ⟨v, σ', H', J'.ofTry ok, r, q⟩
end
end L2N
namespace L2N
open PySem PySem.Spec PyProof.Rows L2
theorem ps_try_2 {X : Cx} {n x1 x2 : Str} {c1 c2 : Value} {i : Nat} {body su1 su2 : List Stmt} {b1 b2 : Stmt} {np1 np2 pc1 pc2 pos : Pos} {tb : WX → TS} {ts1 ts2 : Addr → Value → Option Addr → TS} (hs : X.stack = X.env :: X.outer) (hf : X.env.frame = some X.env.locals) (hN : X.N.Nodup) (hi : X.N[i]? = some n) (hln : X.env.kindOf n = some .local) (hc1 : Names X x1 c1) (hc2 : Names X x2 c2)
    (hb : ∀ (W : WX) (pn : List (Addr × Obj)) (xe : Value → Shared → Prop), Takes (X.tr pn xe) W → PassesOwn (model X.prog X.w) X.A X.env xe → PSs (X.tr pn xe) body (tb W))
    (hsu1 : ∀ (a : Addr) (oe : Obj) (cls : Value) (d : Option Addr) (pn : List (Addr × Obj)), Zn cls d oe → (∃ vs, oe.data = .fields vs) → PSs (X.suite a ((a, oe) :: pn)) (b1 :: su1) (ts1 a cls d))
    (hsu2 : ∀ (a : Addr) (oe : Obj) (cls : Value) (d : Option Addr) (pn : List (Addr × Obj)), Zn cls d oe → (∃ vs, oe.data = .fields vs) → PSs (X.suite a ((a, oe) :: pn)) (b2 :: su2) (ts2 a cls d)) :
    PS X (.Try body [.ExceptHandler (some (.Name x1 np1)) (some n) (b1 :: su1) pc1, .ExceptHandler (some (.Name x2 np2)) (some n) (b2 :: su2) pc2] [] [] pos) (fun D σ H => tb (ccOut X.K i D [⟨x1, c1, np1, pc1, b1, su1, ts1⟩, ⟨x2, c2, np2, pc2, b2, su2, ts2⟩]) D σ H) :=
  ps_try_cc (ks := [⟨x1, c1, np1, pc1, b1, su1, ts1⟩, ⟨x2, c2, np2, pc2, b2, su2, ts2⟩]) hs hf hN hi hln (fun k hk => by
    simp only [List.mem_cons, List.not_mem_nil, or_false] at hk
    rcases hk with rfl | rfl
    · exact hc1
    · exact hc2) hb (fun k hk => by
    simp only [List.mem_cons, List.not_mem_nil, or_false] at hk
    rcases hk with rfl | rfl
    · exact hsu1
    · exact hsu2) (by simp)
end L2N
namespace Ft
open PySem L2 PyProof.Rows
section
variable {K : Frg} {ρ : Rho} {O : Out → Prop} {R : RL} {te : WX → TE} {i : Nat} {ks : List L2N.CC}
/-- try: a call that may raise, clauses -/
theorem so_tryY (h : ∀ Wx, AY K Wx (te Wx) ρ (fun _ => O (.nx ρ)) R) (hs : ∀ c o, R c o → ∀ B Hs H1s H H1 σ D d, Stt K B Hs H1s H H1 σ ρ → Fin K B Hs H1s D O → EAt H1 d o → L2N.ccOut K i D ks c d σ H1) :
    SO K (fun D σ H => tDrop (te (L2N.ccOut K i D ks)) D σ H) ρ O := fun B Hs H1s H H1 σ D s f =>
  h _ σ H H1 s.has s.ex _ (fun d o v H' H2 gr dx => f.nx ρ o σ H' H2 (s.gr gr)) fun c o rc d H' H2 gr ea => hs c o rc B Hs H1s H' H2 σ D d (s.gr gr) f ea
/-- a suite that gives the caught error's two numbers -/
theorem ret_two {B : Addr → Prop} {Hs H1s H H1 : Hp} {σ : L2.St} {D : Ends} {a C : Addr} {d : Option Addr} {l m : Int} (s : Stt K B Hs H1s H H1 σ ρ) (f : Fin K B Hs H1s D O) (ea : EAt H1 d (some (l, m))) (hi : i < ρ.length) (o : O (.rt (.tuple [.int l, .int m]))) :
    tRet (tTup (tCons (tXf a (.ref C) d C "line" (tVar i)) (tCons (tXf a (.ref C) d C "word" (tVar i)) tNil))) (L2N.gone i D) (σ.set i (some (.ref a))) H1 := by
  obtain ⟨dd, ed, hd⟩ := ea
  have hv : (σ.set i (some (V.ref a)))[i]? = some (some (V.ref a)) := by
    rw [List.getElem?_set_self (by rw [s.has.len]; exact hi)]
  refine ⟨_, hv, rfl, rfl, dd, _, _, ed, hd, rfl, _, hv, rfl, rfl, dd, _, _, ed, hd, rfl, by show 2 ≤ sizeLine; decide, fun p n => ?_⟩
  have g : GrN K H H1 (upd H p (.tup [.int l, .int m])) (upd H1 p (.tup [.int l, .int m])) := GrN.new s.ex n
  exact f.rt _ o _ _ _ (s.gr (GrN.up g fun b rb => s.has.rowAt rb)).toGr (.tup (SqT.of upd_same) (.cons (.int l) (.cons (.int m) .nil)))
theorem ret_word {B : Addr → Prop} {Hs H1s H H1 : Hp} {σ τ : L2.St} {D : Ends} {x : Str} (s : Stt K B Hs H1s H H1 σ ρ) (f : Fin K B Hs H1s D O) (o : O (.rt (.str x))) : tRet (tC (.str x)) (L2N.gone i D) τ H1 :=
  f.rt _ o _ _ _ s.toGr (.str x)
end
end Ft

/-! part: K07a -/
set_option Elab.async false
set_option linter.all false
set_option maxRecDepth 100000
namespace Ft
open PySem L2
def topS (i : Nat) : Stmt := PySem.Challenge.pw_fourtowns_k07_whole_texts.main.body.getD i (.Pass ⟨0, 0, 0, 0⟩)
abbrev s_is_number : Stmt := topS 7
abbrev N_is_number : List Str := ["value"]
theorem sc_is_number : FnScope N_is_number ["value"] (defScope s_is_number) := ⟨rfl, rfl, rfl, by decide +kernel, rfl, by decide +kernel, by decide +kernel⟩
abbrev s_is_club : Stmt := topS 8
abbrev N_is_club : List Str := ["value", "people", "ahead", "person"]
theorem sc_is_club : FnScope N_is_club ["value", "people"] (defScope s_is_club) := ⟨rfl, rfl, rfl, by decide +kernel, rfl, by decide +kernel, by decide +kernel⟩
abbrev s_are_clubs : Stmt := topS 9
abbrev N_are_clubs : List Str := ["value", "people", "club", "ahead"]
theorem sc_are_clubs : FnScope N_are_clubs ["value", "people"] (defScope s_are_clubs) := ⟨rfl, rfl, rfl, by decide +kernel, rfl, by decide +kernel, by decide +kernel⟩
abbrev s_wrong_part : Stmt := topS 10
abbrev N_wrong_part : List Str := ["value", "people", "clubs"]
theorem sc_wrong_part : FnScope N_wrong_part ["value"] (defScope s_wrong_part) := ⟨rfl, rfl, rfl, by decide +kernel, rfl, by decide +kernel, by decide +kernel⟩
abbrev s_check_town : Stmt := topS 11
abbrev N_check_town : List Str := ["value", "part"]
theorem sc_check_town : FnScope N_check_town ["value"] (defScope s_check_town) := ⟨rfl, rfl, rfl, by decide +kernel, rfl, by decide +kernel, by decide +kernel⟩
abbrev s_club_line : Stmt := topS 14
abbrev N_club_line : List Str := ["club", "person"]
theorem sc_club_line : FnScope N_club_line ["club"] (defScope s_club_line) := ⟨rfl, rfl, rfl, by decide +kernel, rfl, by decide +kernel, by decide +kernel⟩
abbrev s_write_town : Stmt := topS 15
abbrev N_write_town : List Str := ["town", "people", "clubs", "club"]
theorem sc_write_town : FnScope N_write_town ["town"] (defScope s_write_town) := ⟨rfl, rfl, rfl, by decide +kernel, rfl, by decide +kernel, by decide +kernel⟩
abbrev s_told_lines : Stmt := topS 16
abbrev N_told_lines : List Str := ["text", "found", "number", "line", "words", "word"]
theorem sc_told_lines : FnScope N_told_lines ["text"] (defScope s_told_lines) := ⟨rfl, rfl, rfl, by decide +kernel, rfl, by decide +kernel, by decide +kernel⟩
abbrev s_told_people : Stmt := topS 17
abbrev N_told_people : List Str := ["number", "words"]
theorem sc_told_people : FnScope N_told_people ["number", "words"] (defScope s_told_people) := ⟨rfl, rfl, rfl, by decide +kernel, rfl, by decide +kernel, by decide +kernel⟩
abbrev s_told_club : Stmt := topS 18
abbrev N_told_club : List Str := ["number", "words", "people", "club", "lowest", "place", "word", "person"]
theorem sc_told_club : FnScope N_told_club ["number", "words", "people"] (defScope s_told_club) := ⟨rfl, rfl, rfl, by decide +kernel, rfl, by decide +kernel, by decide +kernel⟩
abbrev s_read_town : Stmt := topS 19
abbrev N_read_town : List Str := ["text", "lines", "first", "first_words", "people", "clubs", "number", "words", "club"]
theorem sc_read_town : FnScope N_read_town ["text"] (defScope s_read_town) := ⟨rfl, rfl, rfl, by decide +kernel, rfl, by decide +kernel, by decide +kernel⟩
abbrev s__law_taken : Stmt := topS 21
abbrev N__law_taken : List Str := ["row", "many", "found", "cell"]
theorem sc__law_taken : FnScope N__law_taken ["row", "many"] (defScope s__law_taken) := ⟨rfl, rfl, rfl, by decide +kernel, rfl, by decide +kernel, by decide +kernel⟩
abbrev s__law_pick : Stmt := topS 22
abbrev N__law_pick : List Str := ["row", "things"]
theorem sc__law_pick : FnScope N__law_pick ["row", "things"] (defScope s__law_pick) := ⟨rfl, rfl, rfl, by decide +kernel, rfl, by decide +kernel, by decide +kernel⟩
abbrev s__law_alike : Stmt := topS 23
abbrev N__law_alike : List Str := ["found", "due", "k"]
theorem sc__law_alike : FnScope N__law_alike ["found", "due"] (defScope s__law_alike) := ⟨rfl, rfl, rfl, by decide +kernel, rfl, by decide +kernel, by decide +kernel⟩
abbrev s__law_clubs : Stmt := topS 24
abbrev N__law_clubs : List Str := ["people", "found", "one", "club"]
theorem sc__law_clubs : FnScope N__law_clubs ["people"] (defScope s__law_clubs) := ⟨rfl, rfl, rfl, by decide +kernel, rfl, by decide +kernel, by decide +kernel⟩
abbrev s__law_any_town : Stmt := topS 25
abbrev N__law_any_town : List Str := ["row", "most", "people", "every", "clubs", "turn", "club"]
theorem sc__law_any_town : FnScope N__law_any_town ["row", "most"] (defScope s__law_any_town) := ⟨rfl, rfl, rfl, by decide +kernel, rfl, by decide +kernel, by decide +kernel⟩
abbrev s__law_loose : Stmt := topS 26
abbrev N__law_loose : List Str := ["row", "text", "loose"]
theorem sc__law_loose : FnScope N__law_loose ["row", "text"] (defScope s__law_loose) := ⟨rfl, rfl, rfl, by decide +kernel, rfl, by decide +kernel, by decide +kernel⟩
abbrev s__law_refusal : Stmt := topS 27
abbrev N__law_refusal : List Str := ["text", "e"]
theorem sc__law_refusal : FnScope N__law_refusal ["text"] (defScope s__law_refusal) := ⟨rfl, rfl, rfl, by decide +kernel, rfl, by decide +kernel, by decide +kernel⟩
abbrev s__law_refused : Stmt := topS 28
abbrev N__law_refused : List Str := ["rows"]
theorem sc__law_refused : FnScope N__law_refused [] (defScope s__law_refused) := ⟨rfl, rfl, rfl, by decide +kernel, rfl, by decide +kernel, by decide +kernel⟩
abbrev s_law : Stmt := topS 29
abbrev N_law : List Str := ["script", "row", "town", "lines", "club", "text", "told", "some", "due", "value", "one"]
theorem sc_law : FnScope N_law ["script"] (defScope s_law) := ⟨rfl, rfl, rfl, by decide +kernel, rfl, by decide +kernel, by decide +kernel⟩

local macro_rules | `(tactic| walk_at "nr") => `(tactic| first | (intro h; cases h; done) | exact jk_nr)
local macro_rules | `(tactic| walk_at "sh") => `(tactic| first | exact sh_int | exact sh_bl | exact sh_non | exact sh_wd | exact sh_odd | exact sh_tupI | exact sh_clubsT | exact sh_clubsL | exact sh_nilL | exact sh_rule | exact sh_rules | assumption)
local macro_rules | `(tactic| walk_at "fb1") => `(tactic| with_reducible first
  | (refine so_seq ?_)
  | (refine so_next ?_)
  | (refine so_ret ?_)
  | (refine so_retN ?_)
  | (refine so_if ?_)
  | (refine' so_append ?he ?_; (case he => (with_unfolding_all exact rfl)))
  | (refine so_drop ?_)
  | (refine thenO_nx ?_)
  | (refine thenO_rt ?_)
  | (refine retO_rt ?_)
  | (refine retO_nx ?_)
  | (refine loopO_nx ?_)
  | (refine loopO_rt ?_)
  | (refine thenO_ct ?_)
  | (refine thenO_bk ?_)
  | (refine loopO_ct ?_)
  | (refine loopO_bk ?_)
  | (refine so_break ?_)
  | (refine so_cont ?_)
  | (refine' so_asg2 ?h2 ?hn ?hm ?_; (case h2 => (with_unfolding_all exact rfl)); (case hn => (with_unfolding_all walk_at "nr")); (case hm => (with_unfolding_all walk_at "nr")))
  | (refine' ae_var ?hv ?_; (case hv => (with_unfolding_all exact rfl)))
  | (refine ae_int ?_)
  | (refine ae_str ?_)
  | (refine ae_bl ?_)
  | (refine ae_non ?_)
  | (refine ae_globD ?_)
  | (refine ae_isI ?_)
  | (refine ae_isB ?_)
  | (refine ae_isT ?_)
  | (refine ae_isL ?_)
  | (refine ae_isS ?_)
  | (refine ae_isTL ?_)
  | (refine ae_op ?_)
  | (refine ae_un ?_)
  | (refine ae_call ?_)
  | (refine ae_cb ?_)
  | (refine ae_tup0 ?_)
  | (refine ae_tup1 ?_)
  | (refine ae_tup2 ?_)
  | (refine ae_lst0 ?_)
  | (refine ae_lst1 ?_)
  | (refine ae_lst2 ?_)
  | (refine ae_tup ?_)
  | (refine ae_andV ?_)
  | (refine ae_orV ?_)
  | (refine ae_notV ?_)
  | (refine ae_ifE ?_)
  | (refine ae_chain ?_)
  | (refine aa_nil ?_)
  | (refine aa_cons ?_)
  | (refine ab_test ?_)
  | (refine ab_val ?_)
  | (refine ab_and ?_)
  | (refine ab_or ?_)
  | (refine ab_not ?_)
  | (refine ab_yes ?_)
  | (refine rr_ltI ?_)
  | (refine rr_ltT ?_)
  | (refine rr_ib ?_)
  | (refine rr_ii ?_)
  | (refine rr_addI ?_)
  | (refine ru_neg ?_)
  | (refine rr_isN ?_)
  | (refine rr_notN ?_)
  | (refine rr_notB ?_)
  | (refine rc_lenL ?_)
  | (refine rc_lenT ?_)
  | (refine rc_tupleL ?_)
  | (refine rc_tupleT ?_)
  | (refine rc_intI ?_)
  | (refine rc_intB ?_)
  | (refine' rr_eqD ?ha ?hb ?_; (case ha => (with_unfolding_all walk_at "sh")); (case hb => (with_unfolding_all walk_at "sh")))
  | (refine' rr_neD ?ha ?hb ?_; (case ha => (with_unfolding_all walk_at "sh")); (case hb => (with_unfolding_all walk_at "sh")))
  | (refine' rr_inT ?ha ?hb ?_; (case ha => (with_unfolding_all walk_at "sh")); (case hb => (with_unfolding_all walk_at "sh")))
  | (refine' rr_inL ?ha ?hb ?_; (case ha => (with_unfolding_all walk_at "sh")); (case hb => (with_unfolding_all walk_at "sh")))
  | (refine' rr_ixT ?ha ?_; (case ha => (with_unfolding_all exact rfl)))
  | (refine' rr_ixL ?ha ?_; (case ha => (with_unfolding_all exact rfl)))
  | (refine' rr_ci ?ha ?_; (case ha => (with_unfolding_all decide)))
  | (refine rf_rc (rf_sortAT ?_))
  | (refine rf_rc (rf_sortAI ?_))
  | (refine ae_callS ?_)
  | (refine ae_dict0 ?_)
  | (refine ⟨_, rfl, ?_⟩)
  | (refine ⟨_, _, rfl, ?_⟩))
local macro_rules | `(tactic| walk_at "fs1") => `(tactic| with_reducible (refine' so_set ?hn ?_; (case hn => (with_unfolding_all walk_at "nr"))))
local macro_rules | `(tactic| walk_at "fb") => `(tactic| repeat (walk_at "fb1"))
local macro_rules | `(tactic| walk_at "ft") => `(tactic| repeat (first | walk_at "fb1" | walk_at "fs1"))

/-! ### what is a club, a town -/
def isNum : Da → Bool
  | .int _ => true
  | _ => false
def ascD : List Da → Int → Int → Bool
  | [], _, _ => true
  | .int p :: r, a, n => decide (a < p) && decide (p < n) && ascD r p n
  | _ :: _, _, _ => false
def isClub (d : Da) (n : Int) : Bool := match d with
  | .tuple ds => ascD ds (-1) n
  | _ => false
def numOf : Da → Int
  | .int i => i
  | _ => 0
def decI : Da → List Int
  | .tuple ds => ds.map numOf
  | _ => []
def ascL (cs : List (List Int)) : Bool := (cs.zip (cs.drop 1)).all fun p => HT.lexLt p.1 p.2
def areClubs (d : Da) (n : Int) : Bool := match d with
  | .tuple ds => ds.all (fun x => isClub x n) && ascL (ds.map decI)
  | _ => false
def wrongPart : Da → Da
  | .tuple [.int n, c] => if 1 ≤ n ∧ n ≤ 8 then (if areClubs c n = true then .none else .str "clubs") else .str "people"
  | .tuple [_, _] => .str "people"
  | _ => .str "whole"
theorem ascD_nums : ∀ {ds : List Da} {a n : Int}, ascD ds a n = true → ds = nums (ds.map numOf)
  | [], _, _, _ => rfl
  | d :: ds, a, n, h => by
    cases d with
    | int p =>
      simp only [ascD, Bool.and_eq_true] at h
      have ih := ascD_nums h.2
      show _ = PyData.int p :: nums (ds.map numOf)
      rw [← ih]
    | _ => cases h
theorem club_dec {d : Da} {n : Int} (h : isClub d n = true) : d = tupI (decI d) := by
  cases d with
  | tuple ds => exact congrArg PyData.tuple (ascD_nums h)
  | _ => cases h
theorem clubs_dec {n : Int} : ∀ {ds : List Da}, ds.all (fun x => isClub x n) = true → ds = clubs (ds.map decI)
  | [], _ => rfl
  | d :: ds, h => by
    rw [List.all_cons, Bool.and_eq_true] at h
    have ih := clubs_dec h.2
    show _ = tupI (decI d) :: clubs (ds.map decI)
    rw [← ih, ← club_dec h.1]
def ascI : List Int → Int → Int → Bool
  | [], _, _ => true
  | p :: r, a, n => decide (a < p) && decide (p < n) && ascI r p n
theorem ascD_I : ∀ (c : List Int) (a n : Int), ascD (nums c) a n = ascI c a n
  | [], _, _ => rfl
  | p :: r, a, n => by
    show (decide (a < p) && decide (p < n) && ascD (nums r) p n) = _
    rw [ascD_I r p n]
    rfl
theorem isClub_I {c : List Int} {n : Int} : isClub (tupI c) n = ascI c (-1) n := ascD_I c (-1) n
theorem decI_tup {c : List Int} : decI (tupI c) = c := by
  show (c.map PyData.int).map numOf = c
  rw [List.map_map]
  exact List.map_id' c
theorem map_decI {cs : List (List Int)} : (clubs cs).map decI = cs := by
  show (cs.map tupI).map decI = cs
  rw [List.map_map]
  exact (List.map_congr_left fun c _ => decI_tup).trans (List.map_id' cs)
structure Town (n : Int) (cs : List (List Int)) : Prop where
  lo : 1 ≤ n
  hi : n ≤ 8
  all : ∀ c ∈ cs, ascI c (-1) n = true
  asc : ascL cs = true
theorem Town.areC {n : Int} {cs : List (List Int)} (t : Town n cs) : areClubs (.tuple (clubs cs)) n = true := by
  show ((clubs cs).all (fun x => isClub x n) && ascL ((clubs cs).map decI)) = true
  rw [map_decI, t.asc, Bool.and_true, List.all_map, List.all_eq_true]
  intro c hc
  exact isClub_I.trans (t.all c hc)
theorem Town.ok {n : Int} {cs : List (List Int)} (t : Town n cs) : wrongPart (townD n cs) = .none := by
  show (if 1 ≤ n ∧ n ≤ 8 then (if areClubs (.tuple (clubs cs)) n = true then PyData.none else .str "clubs") else .str "people") = _
  rw [if_pos ⟨t.lo, t.hi⟩, if_pos t.areC]
theorem ascI_len : ∀ {c : List Int} {a n : Int}, ascI c a n = true → a ≤ n → (c.length : Int) ≤ n - a
  | [], a, n, _, h => by simp; omega
  | p :: r, a, n, h, hl => by
    simp only [ascI, Bool.and_eq_true, decide_eq_true_eq] at h
    have ih := ascI_len h.2 (by omega)
    rw [List.length_cons]
    omega
theorem ascI_mem : ∀ {c : List Int} {a n p : Int}, ascI c a n = true → p ∈ c → a < p ∧ p < n
  | q :: r, a, n, p, h, hp => by
    simp only [ascI, Bool.and_eq_true, decide_eq_true_eq] at h
    rcases List.mem_cons.mp hp with z | z
    · subst z
      exact h.1
    · have := ascI_mem h.2 z
      omega
theorem Town.len {n : Int} {cs : List (List Int)} (t : Town n cs) {c : List Int} (h : c ∈ cs) : c.length ≤ 1000 := by
  have := ascI_len (t.all c h) (by have := t.lo; omega)
  have := t.hi
  omega
abbrev GoodC (n : Int) (c : List Int) : Prop := ascI c (-1) n = true
/-! ### rules -/
def odd (k : Int) : Bool := decide (k % 2 = 1)
def both (a b : List Int) : List Int := a.filter fun p => decide (p ∈ b)
def firstWrong (cs : List (List Int)) (b : Bool) : Option (List Int) := cs.find? fun c => !(odd c.length == b)
def firstShare (b : Bool) : List (List Int) → Option (List Int × List Int)
  | [] => none
  | c :: r => match r.find? fun d => !(odd (both c d).length == b) with
    | some d => some (c, d)
    | none => firstShare b r
def opt1 : Option (List Int) → Da
  | none => .none
  | some c => .tuple [tupI c]
def opt2 : Option (List Int × List Int) → Da
  | none => .none
  | some p => .tuple [tupI p.1, tupI p.2]
def breachD (cs : List (List Int)) (r : Bool × Bool) : Da := match firstWrong cs r.1 with
  | some c => .tuple [tupI c]
  | none => opt2 (firstShare r.2 cs)
abbrev C_MOST_PEOPLE : Da := .int 8
abbrev C_RULES : Da := .tuple (four.map ruleD)
abbrev C_WORDS : Da := .tuple [.str (wd false), .str (wd true)]
def add1 (v : List Int) (p : Int) : List Int := v.set p.toNat (v.getD p.toNat 0 + 1)
def addC (v : List Int) (c : List Int) : List Int := c.foldl add1 v
def counted (n : Int) (cs : List (List Int)) : List Int := cs.foldl addC (List.replicate n.toNat 0)
theorem add1_len (v : List Int) (p : Int) : (add1 v p).length = v.length := List.length_set
theorem addC_len : ∀ (c v : List Int), (addC v c).length = v.length
  | [], v => rfl
  | p :: c, v => (addC_len c (add1 v p)).trans (add1_len v p)
/-! ### what each def promises -/
def W_members : WP := fun ds P => ∃ n cs, ds = [townD n cs] ∧ Town n cs ∧ P (tupI (counted n cs))
theorem len_members : ∀ ds P, W_members ds P → ds.length = 1 := by rintro ds P ⟨n, cs, rfl, -⟩; rfl
def W_is_number : WP := fun ds P => ∃ d, ds = [d] ∧ P (.bool (isNum d))
def W_is_club : WP := fun ds P => ∃ d n, ds = [d, .int n] ∧ P (.bool (isClub d n))
def W_are_clubs : WP := fun ds P => ∃ d n, ds = [d, .int n] ∧ P (.bool (areClubs d n))
def W_wrong_part : WP := fun ds P => ∃ d, ds = [d] ∧ P (wrongPart d)
def W_check_town : WP := fun ds P => ∃ d, ds = [d] ∧ wrongPart d = .none ∧ P .none
def W_check_club : WP := fun ds P => ∃ d n, ds = [d, .int n] ∧ isClub d n = true ∧ P .none
def W_in_both : WP := fun ds P => ∃ a b, ds = [tupI a, tupI b] ∧ a.length ≤ 1000 ∧ P (tupI (both a b))
def W_is_town : WP := fun ds P => ∃ d, ds = [d] ∧ P (.bool (isNone (wrongPart d)))
def W_shared : WP := fun ds P => ∃ n cs a b, ds = [townD n cs, tupI a, tupI b] ∧ Town n cs ∧ GoodC n a ∧ GoodC n b ∧ P (tupI (both a b))
def W_check_rule : WP := fun ds P => ∃ r, ds = [ruleD r] ∧ P .none
def W_suits : WP := fun ds P => ∃ k b, ds = [.int k, .str (wd b)] ∧ P (.bool (odd k == b))
def W_first_of_wrong_size : WP := fun ds P => ∃ cs b, ds = [.tuple (clubs cs), .str (wd b)] ∧ P (opt1 (firstWrong cs b))
def W_first_sharing_wrongly : WP := fun ds P => ∃ cs b, ds = [.tuple (clubs cs), .str (wd b)] ∧ (∀ c ∈ cs, c.length ≤ 1000) ∧ P (opt2 (firstShare b cs))
def W_first_breach : WP := fun ds P => ∃ cs r, ds = [.tuple (clubs cs), ruleD r] ∧ (∀ c ∈ cs, c.length ≤ 1000) ∧ P (breachD cs r)
def W_all_rules : WP := fun ds P => ds = [] ∧ P C_RULES
def W_keeps : WP := fun ds P => ∃ n cs r, ds = [townD n cs, ruleD r] ∧ Town n cs ∧ P (.bool (isNone (breachD cs r)))
def W_breaking : WP := fun ds P => ∃ n cs r, ds = [townD n cs, ruleD r] ∧ Town n cs ∧ P (breachD cs r)
def W_rules_kept : WP := fun ds P => ∃ n cs, ds = [townD n cs] ∧ Town n cs ∧ P (.tuple ((four.filter fun r => isNone (breachD cs r)).map ruleD))
theorem len_is_number : ∀ ds P, W_is_number ds P → ds.length = 1 := by rintro ds P ⟨d, rfl, -⟩; rfl
theorem len_is_club : ∀ ds P, W_is_club ds P → ds.length = 2 := by rintro ds P ⟨d, n, rfl, -⟩; rfl
theorem len_are_clubs : ∀ ds P, W_are_clubs ds P → ds.length = 2 := by rintro ds P ⟨d, n, rfl, -⟩; rfl
theorem len_wrong_part : ∀ ds P, W_wrong_part ds P → ds.length = 1 := by rintro ds P ⟨d, rfl, -⟩; rfl
theorem len_check_town : ∀ ds P, W_check_town ds P → ds.length = 1 := by rintro ds P ⟨d, rfl, -⟩; rfl
theorem len_check_club : ∀ ds P, W_check_club ds P → ds.length = 2 := by rintro ds P ⟨d, n, rfl, -⟩; rfl
theorem len_in_both : ∀ ds P, W_in_both ds P → ds.length = 2 := by rintro ds P ⟨d, n, rfl, -⟩; rfl
theorem len_is_town : ∀ ds P, W_is_town ds P → ds.length = 1 := by rintro ds P ⟨d, rfl, -⟩; rfl
theorem len_shared : ∀ ds P, W_shared ds P → ds.length = 3 := by rintro ds P ⟨n, cs, a, b, rfl, -⟩; rfl
theorem len_check_rule : ∀ ds P, W_check_rule ds P → ds.length = 1 := by rintro ds P ⟨d, rfl, -⟩; rfl
theorem len_suits : ∀ ds P, W_suits ds P → ds.length = 2 := by rintro ds P ⟨d, n, rfl, -⟩; rfl
theorem len_first_of_wrong_size : ∀ ds P, W_first_of_wrong_size ds P → ds.length = 2 := by rintro ds P ⟨d, n, rfl, -⟩; rfl
theorem len_first_sharing_wrongly : ∀ ds P, W_first_sharing_wrongly ds P → ds.length = 2 := by rintro ds P ⟨d, n, rfl, -⟩; rfl
theorem len_first_breach : ∀ ds P, W_first_breach ds P → ds.length = 2 := by rintro ds P ⟨d, n, rfl, -⟩; rfl
theorem len_all_rules : ∀ ds P, W_all_rules ds P → ds.length = 0 := by rintro ds P ⟨rfl, -⟩; rfl
theorem len_keeps : ∀ ds P, W_keeps ds P → ds.length = 2 := by rintro ds P ⟨n, cs, r, rfl, -⟩; rfl
theorem len_breaking : ∀ ds P, W_breaking ds P → ds.length = 2 := by rintro ds P ⟨n, cs, r, rfl, -⟩; rfl
theorem len_rules_kept : ∀ ds P, W_rules_kept ds P → ds.length = 1 := by rintro ds P ⟨n, cs, rfl, -⟩; rfl
section
variable {P : Da → Prop} {d : Da} {n : Int}
theorem use_is_number (p : P (.bool (isNum d))) : W_is_number [d] P := ⟨d, rfl, p⟩
theorem use_is_club (p : P (.bool (isClub d n))) : W_is_club [d, .int n] P := ⟨d, n, rfl, p⟩
theorem use_are_clubs (p : P (.bool (areClubs d n))) : W_are_clubs [d, .int n] P := ⟨d, n, rfl, p⟩
theorem use_wrong_part (p : P (wrongPart d)) : W_wrong_part [d] P := ⟨d, rfl, p⟩
theorem use_is_town (p : P (.bool (isNone (wrongPart d)))) : W_is_town [d] P := ⟨d, rfl, p⟩
theorem use_check_rule {r : Bool × Bool} (p : P .none) : W_check_rule [ruleD r] P := ⟨r, rfl, p⟩
theorem use_suits {b : Bool} (p : P (.bool (odd n == b))) : W_suits [.int n, .str (wd b)] P := ⟨n, b, rfl, p⟩
theorem use_wrong_size {cs : List (List Int)} {b : Bool} (p : P (opt1 (firstWrong cs b))) : W_first_of_wrong_size [.tuple (clubs cs), .str (wd b)] P := ⟨cs, b, rfl, p⟩
theorem use_all_rules (p : P C_RULES) : W_all_rules [] P := ⟨rfl, p⟩
end
local macro_rules | `(tactic| walk_at "fb1") => `(tactic| with_reducible first
  | (refine use_is_number ?_)
  | (refine use_is_club ?_)
  | (refine use_are_clubs ?_)
  | (refine use_wrong_part ?_)
  | (refine use_is_town ?_)
  | (refine use_check_rule ?_)
  | (refine use_suits ?_)
  | (refine use_wrong_size ?_)
  | (refine use_all_rules ?_))
section
variable {P : Program} {w : World} {K : Frg} {mg : Str → Option Value} {base : Heap}
theorem def_is_number (F : FunAt K mg "is_number" ["value"] s_is_number) (B : Blt mg)  : DefAt P w K mg base 1 "is_number" ["value"] (spW K W_is_number) := by
  have nd := sc_is_number.nd
  refine mk_def (W := W_is_number) F sc_is_number (fun ds P hw => len_is_number ds P hw) (fun f cdv A outer s H E hr => ⟨_, (pss_one (ps_ret (pe_and (pe_callB (call_isiK (K := K) (by rfl)) (by rfl) B.m_isinstance (by decide +kernel) (pa_cons (pv 0) (pa_cons (pe_bltn (v := .ty "int") (by rfl) B.m_int (by decide +kernel) rfl) pa_nil))) (pe_one (pe_not (pe_callB (call_isiK (K := K) (by rfl)) (by rfl) B.m_isinstance (by decide +kernel) (pa_cons (pv 0) (pa_cons (pe_bltn (v := .ty "bool") (by rfl) B.m_bool (by decide +kernel) rfl) pa_nil)))))))), fun ds P hw => ?_⟩)
  try dsimp only [cxOf]
  obtain ⟨d, rfl, p⟩ := hw
  show SO K _ [.dat d] _
  walk_at "ft"
  refine ⟨fun h => ?_, fun h => ?_⟩
  · walk_at "ft"
    cases d <;> first | exact p | cases h
  · cases d <;> first | exact p | cases h
theorem def_is_club (F : FunAt K mg "is_club" ["value", "people"] s_is_club) (B : Blt mg) (d_is_number : DefAt P w K mg base 1 "is_number" ["value"] (spW K W_is_number)) : DefAt P w K mg base 2 "is_club" ["value", "people"] (spW K W_is_club) := by
  have nd := sc_is_club.nd
  refine mk_def (W := W_is_club) F sc_is_club (fun ds P hw => len_is_club ds P hw) (fun f cdv A outer s H E hr => ⟨_, (pss_cons (ps_if (pt_not (pt_val (pe_callB (call_isiK (K := K) (by rfl)) (by rfl) B.m_isinstance (by decide +kernel) (pa_cons (pv 0) (pa_cons (pe_bltn (v := .ty "tuple") (by rfl) B.m_tuple (by decide +kernel) rfl) pa_nil))))) (pss_one (ps_ret pe_bl)) pss_nil)
    (pss_cons (ps_set (i := 2) nd rfl (by first | exact Or.inl rfl | exact Or.inr rfl) (pe_un un_neg pe_int))
    (pss_cons (ps_for PassesOwn.never rfl (pi_seqK (K := K) (by rfl) (pv 0)) (pg_name (i := 3) nd rfl (by first | exact Or.inl rfl | exact Or.inr rfl))
    (pss_cons (ps_if (PW.pt (pw_or (pt_not (pt_val (pe_def d_is_number (by exact hr.mono (by decide)) (by rfl) (pa_cons (pv 3) pa_nil)))) (pw_or1 (pt_not (pt_chain (op_ltK (K := K) (by rfl) (by exact hr.units0)) (op_ltK (K := K) (by rfl) (by exact hr.units0)) (pv 2) (pv 3) (pv 1)))))) (pss_one (ps_ret pe_bl)) pss_nil)
    (pss_one (ps_set (i := 2) nd rfl (by first | exact Or.inl rfl | exact Or.inr rfl) (pv 3)))))
    (pss_one (ps_ret pe_bl))))), fun ds P hw => ?_⟩)
  try dsimp only [cxOf]
  obtain ⟨d, n, rfl, p⟩ := hw
  show SO K _ [.dat d, .dat (.int n), .un, .un] _
  walk_at "ft"
  refine ⟨fun h => ?_, fun h => ?_⟩
  · walk_at "ft"
    cases d <;> first | exact p | cases h
  · walk_at "ft"
    cases d with
    | tuple xs =>
      refine so_for (is := [3]) (ai_seqT ?_)
      walk_at "ft"
      refine loop_d (fun ys ρ => ∃ a o, ρ = [.dat (.tuple xs), .dat (.int n), .dat (.int a), jk o] ∧ P (.bool (ascD ys a n))) ?_ ?_ _ _ ⟨-1, none, rfl, p⟩
      · rintro x ys _ ⟨a, o, rfl, q⟩
        refine ⟨_, at_name (by walk_at "nr"), ?_⟩
        show SO K _ [.dat (.tuple xs), .dat (.int n), .dat (.int a), .dat x] _
        walk_at "ft"
        cases x with
        | int k =>
          refine wayF' rfl ?_
          walk_at "ft"
          by_cases h1 : a < k
          · refine wayT (decide_eq_true h1) ?_
            walk_at "ft"
            by_cases h2 : k < n
            · refine wayF (by simp [h2]) ?_
              walk_at "ft"
              exact ⟨k, some (.int k), rfl, by simpa [ascD, h1, h2] using q⟩
            · refine wayT (by simp [h2]) ?_
              walk_at "ft"
              simpa [ascD, h1, h2] using q
          · refine wayF (decide_eq_false h1) ?_
            walk_at "ft"
            refine wayT rfl ?_
            walk_at "ft"
            simpa [ascD, h1] using q
        | _ =>
          refine wayT' rfl ?_
          refine wayT rfl ?_
          walk_at "ft"
          exact q
      · rintro _ ⟨a, o, rfl, q⟩
        walk_at "ft"
        exact q
    | _ => cases h
theorem def_are_clubs (F : FunAt K mg "are_clubs" ["value", "people"] s_are_clubs) (B : Blt mg) (d_is_club : DefAt P w K mg base 2 "is_club" ["value", "people"] (spW K W_is_club)) : DefAt P w K mg base 3 "are_clubs" ["value", "people"] (spW K W_are_clubs) := by
  have nd := sc_are_clubs.nd
  refine mk_def (W := W_are_clubs) F sc_are_clubs (fun ds P hw => len_are_clubs ds P hw) (fun f cdv A outer s H E hr => ⟨_, (pss_cons (ps_if (pt_not (pt_val (pe_callB (call_isiK (K := K) (by rfl)) (by rfl) B.m_isinstance (by decide +kernel) (pa_cons (pv 0) (pa_cons (pe_bltn (v := .ty "tuple") (by rfl) B.m_tuple (by decide +kernel) rfl) pa_nil))))) (pss_one (ps_ret pe_bl)) pss_nil)
    (pss_cons (ps_for PassesOwn.never rfl (pi_seqK (K := K) (by rfl) (pv 0)) (pg_name (i := 2) nd rfl (by first | exact Or.inl rfl | exact Or.inr rfl))
    (pss_one (ps_if (pt_not (pt_val (pe_def d_is_club (by exact hr.mono (by decide)) (by rfl) (pa_cons (pv 2) (pa_cons (pv 1) pa_nil))))) (pss_one (ps_ret pe_bl)) pss_nil)))
    (pss_cons (ps_for PassesOwn.never rfl (pi_zipK (K := K) (by rfl) (by rfl) B.m_zip (pa_cons (pv 0) (pa_cons (pe_slice (sl_K (K := K) (by rfl)) (pv 0) (po_some pe_int) po_none) pa_nil))) (pg_tupK (K := K) (n := 2) (by rfl) rfl (pgs_cons (pg_name (i := 3) nd rfl (by first | exact Or.inl rfl | exact Or.inr rfl)) (pgs_cons (pg_name (i := 2) nd rfl (by first | exact Or.inl rfl | exact Or.inr rfl)) pgs_nil)))
    (pss_one (ps_if (pt_not (pt_cmpR (op_ltK (K := K) (by rfl) (by exact hr.units0)) (pv 3) (pv 2) (nomark _))) (pss_one (ps_ret pe_bl)) pss_nil)))
    (pss_one (ps_ret pe_bl))))), fun ds P hw => ?_⟩)
  try dsimp only [cxOf]
  obtain ⟨d, n, rfl, p⟩ := hw
  show SO K _ [.dat d, .dat (.int n), .un, .un] _
  walk_at "ft"
  refine ⟨fun h => ?_, fun h => ?_⟩
  · walk_at "ft"
    cases d <;> first | exact p | cases h
  · walk_at "ft"
    cases d with
    | tuple xs =>
      refine so_for (is := [2]) (ai_seqT ?_)
      walk_at "ft"
      refine loop_d (fun ys ρ => ∃ o pre, ρ = [.dat (.tuple xs), .dat (.int n), jk o, .un] ∧ xs = pre ++ ys ∧ pre.all (fun x => isClub x n) = true) ?_ ?_ _ _ ⟨none, [], rfl, rfl, rfl⟩
      · rintro x ys _ ⟨o, pre, rfl, e, hp⟩
        refine ⟨_, at_name (by walk_at "nr"), ?_⟩
        show SO K _ [.dat (.tuple xs), .dat (.int n), .dat x, .un] _
        walk_at "ft"
        refine ⟨fun h => ?_, fun h => ?_⟩
        · walk_at "ft"
          have hx : isClub x n = false := by simpa using h
          have e2 : areClubs (.tuple xs) n = false := by
            show (xs.all (fun x => isClub x n) && ascL (xs.map decI)) = false
            rw [e, List.all_append, List.all_cons, hx]
            simp
          rw [e2] at p
          exact p
        · have hx : isClub x n = true := by simpa using h
          walk_at "ft"
          exact ⟨some x, pre ++ [x], rfl, by rw [e, List.append_assoc]; rfl, by rw [List.all_append, hp]; simp [hx]⟩
      · rintro _ ⟨o, pre, rfl, e, hp⟩
        rw [List.append_nil] at e
        subst e
        walk_at "ft"
        have p2 : P (.bool (ascL (xs.map decI))) := by
          have e2 : areClubs (.tuple xs) n = ascL (xs.map decI) := by
            show (xs.all (fun x => isClub x n) && ascL (xs.map decI)) = _
            rw [hp, Bool.true_and]
          rw [← e2]
          exact p
        have ex := clubs_dec hp
        generalize xs.map decI = cs at p2 ex
        subst ex
        refine so_for (is := [3] ++ ([2] ++ [])) (ai_zip ?_)
        walk_at "ft"
        refine ae_slT ?_
        walk_at "ft"
        refine ao_some ?_
        walk_at "ft"
        refine ao_none ?_
        walk_at "ft"
        have e3 : cutD (clubs cs) (some 1) none = clubs (cs.drop 1) := (cut_from (k := 1)).trans List.map_drop.symm
        rw [e3]
        rw [zip_pair]
        refine loop_by (fun p : List Int × List Int => PyData.tuple [tupI p.1, tupI p.2]) (fun ps ρ => ∃ o1 o2, ρ = [.dat (.tuple (clubs cs)), .dat (.int n), jk o1, jk o2] ∧ P (.bool (ps.all fun p => HT.lexLt p.1 p.2))) ?_ ?_ _ _ ⟨o, none, rfl, p2⟩
        · rintro ⟨a, b⟩ ps _ ⟨o1, o2, rfl, q⟩
          refine ⟨_, at_two rfl (by walk_at "nr") (by walk_at "nr"), ?_⟩
          show SO K _ [.dat (.tuple (clubs cs)), .dat (.int n), .dat (tupI b), .dat (tupI a)] _
          walk_at "ft"
          cases hl : HT.lexLt a b with
          | true =>
            refine wayF rfl ?_
            walk_at "ft"
            exact ⟨some (tupI b), some (tupI a), rfl, by simpa [hl] using q⟩
          | false =>
            refine wayT rfl ?_
            walk_at "ft"
            simpa [hl] using q
        · rintro _ ⟨o1, o2, rfl, q⟩
          walk_at "ft"
          exact q
    | _ => cases h
theorem def_wrong_part (F : FunAt K mg "wrong_part" ["value"] s_wrong_part) (B : Blt mg) (d_are_clubs : DefAt P w K mg base 3 "are_clubs" ["value", "people"] (spW K W_are_clubs)) (d_is_number : DefAt P w K mg base 1 "is_number" ["value"] (spW K W_is_number)) (c_MOST_PEOPLE : GlobC K mg "MOST_PEOPLE" C_MOST_PEOPLE) : DefAt P w K mg base 4 "wrong_part" ["value"] (spW K W_wrong_part) := by
  have nd := sc_wrong_part.nd
  refine mk_def (W := W_wrong_part) F sc_wrong_part (fun ds P hw => len_wrong_part ds P hw) (fun f cdv A outer s H E hr => ⟨_, (pss_cons (ps_if (PW.pt (pw_or (pt_not (pt_val (pe_callB (call_isiK (K := K) (by rfl)) (by rfl) B.m_isinstance (by decide +kernel) (pa_cons (pv 0) (pa_cons (pe_bltn (v := .ty "tuple") (by rfl) B.m_tuple (by decide +kernel) rfl) pa_nil))))) (pw_or1 (pt_cmpR (op_neK (K := K) (by rfl) (by exact hr.units)) (pe_callB (call_lenK (K := K) (by rfl)) (by rfl) B.m_len PySem.boot_len (pa_cons (pv 0) pa_nil)) pe_int (nomark _))))) (pss_one (ps_ret pe_str)) pss_nil)
    (pss_cons (ps_asg (pv 0) (pg_tupK (K := K) (n := 2) (by rfl) rfl (pgs_cons (pg_name (i := 1) nd rfl (by first | exact Or.inl rfl | exact Or.inr rfl)) (pgs_cons (pg_name (i := 2) nd rfl (by first | exact Or.inl rfl | exact Or.inr rfl)) pgs_nil))))
    (pss_cons (ps_if (PW.pt (pw_or (pt_not (pt_val (pe_def d_is_number (by exact hr.mono (by decide)) (by rfl) (pa_cons (pv 1) pa_nil)))) (pw_or1 (pt_not (pt_chain op_le op_le pe_int (pv 1) (pe_globK (K := K) (by rfl) c_MOST_PEOPLE (by rfl))))))) (pss_one (ps_ret pe_str)) pss_nil)
    (pss_cons (ps_if (pt_not (pt_val (pe_def d_are_clubs (by exact hr.mono (by decide)) (by rfl) (pa_cons (pv 2) (pa_cons (pv 1) pa_nil))))) (pss_one (ps_ret pe_str)) pss_nil)
    (pss_one (ps_ret pe_non)))))), fun ds P hw => ?_⟩)
  try dsimp only [cxOf]
  obtain ⟨d, rfl, p⟩ := hw
  show SO K _ [.dat d, .un, .un] _
  walk_at "ft"
  cases d with
  | tuple xs =>
    refine wayF' rfl ?_
    walk_at "ft"
    match xs, p with
    | [], p =>
      refine wayT (by rw [eqv_int]; rfl) ?_
      walk_at "ft"
      exact p
    | [a], p =>
      refine wayT (by rw [eqv_int]; rfl) ?_
      walk_at "ft"
      cases a <;> exact p
    | a :: b :: c :: r, p =>
      refine wayT (by rw [eqv_int, decide_eq_false (by simp only [List.length_cons]; omega)]; rfl) ?_
      walk_at "ft"
      cases a <;> exact p
    | [a, b], p =>
      refine wayF (by rw [eqv_int]; rfl) ?_
      walk_at "ft"
      cases a with
      | int n =>
        have q : P (if 1 ≤ n ∧ n ≤ 8 then (if areClubs b n = true then PyData.none else .str "clubs") else .str "people") := p
        refine wayF' rfl ?_
        walk_at "ft"
        by_cases h1 : (1 : Int) ≤ n
        · refine wayT (decide_eq_true h1) ?_
          walk_at "ft"
          by_cases h2 : n ≤ 8
          · rw [if_pos ⟨h1, h2⟩] at q
            refine wayF (by simp [h2]) ?_
            walk_at "ft"
            by_cases h3 : areClubs b n = true
            · rw [if_pos h3] at q
              refine wayF (by simp [h3]) ?_
              walk_at "ft"
              exact q
            · rw [if_neg h3] at q
              refine wayT (by simp [h3]) ?_
              walk_at "ft"
              exact q
          · rw [if_neg fun z => h2 z.2] at q
            refine wayT (by simp [h2]) ?_
            walk_at "ft"
            exact q
        · rw [if_neg fun z => h1 z.1] at q
          refine wayF (decide_eq_false h1) ?_
          walk_at "ft"
          refine wayT rfl ?_
          walk_at "ft"
          exact q
      | _ =>
        refine wayT' rfl ?_
        refine wayT rfl ?_
        walk_at "ft"
        exact p
  | _ =>
    refine wayT' rfl ?_
    refine wayT rfl ?_
    walk_at "ft"
    exact p
theorem def_check_town (F : FunAt K mg "check_town" ["value"] s_check_town) (B : Blt mg) (d_wrong_part : DefAt P w K mg base 4 "wrong_part" ["value"] (spW K W_wrong_part)) : DefAt P w K mg base 5 "check_town" ["value"] (spW K W_check_town) := by
  have nd := sc_check_town.nd
  refine mk_def (W := W_check_town) F sc_check_town (fun ds P hw => len_check_town ds P hw) (fun f cdv A outer s H E hr => ⟨_, (pss_cons (ps_set (i := 1) nd rfl (by first | exact Or.inl rfl | exact Or.inr rfl) (pe_def d_wrong_part (by exact hr.mono (by decide)) (by rfl) (pa_cons (pv 0) pa_nil)))
    (pss_one (ps_if (pt_cmpR op_notN' (pv 1) pe_non (nomark _)) (pss_one ps_never) pss_nil))), fun ds P hw => ?_⟩)
  try dsimp only [cxOf]
  obtain ⟨d, rfl, h, p⟩ := hw
  show SO K _ [.dat d, .un] _
  walk_at "ft"
  refine wayF (by rw [h]; rfl) ?_
  walk_at "ft"
  exact p
end
end Ft

/-! part: K07b -/
set_option Elab.async false
set_option linter.all false
set_option maxRecDepth 100000
namespace Ft
open PySem L2
local macro_rules | `(tactic| walk_at "nr") => `(tactic| first | (intro h; cases h; done) | exact jk_nr)
local macro_rules | `(tactic| walk_at "sh") => `(tactic| first | exact sh_int | exact sh_bl | exact sh_non | exact sh_wd | exact sh_odd | exact sh_tupI | exact sh_clubsT | exact sh_clubsL | exact sh_nilL | exact sh_rule | exact sh_rules | assumption)
local macro_rules | `(tactic| walk_at "fb1") => `(tactic| with_reducible first
  | (refine so_seq ?_)
  | (refine so_next ?_)
  | (refine so_ret ?_)
  | (refine so_retN ?_)
  | (refine so_if ?_)
  | (refine' so_append ?he ?_; (case he => (with_unfolding_all exact rfl)))
  | (refine so_drop ?_)
  | (refine thenO_nx ?_)
  | (refine thenO_rt ?_)
  | (refine retO_rt ?_)
  | (refine retO_nx ?_)
  | (refine loopO_nx ?_)
  | (refine loopO_rt ?_)
  | (refine thenO_ct ?_)
  | (refine thenO_bk ?_)
  | (refine loopO_ct ?_)
  | (refine loopO_bk ?_)
  | (refine so_break ?_)
  | (refine so_cont ?_)
  | (refine' so_asg2 ?h2 ?hn ?hm ?_; (case h2 => (with_unfolding_all exact rfl)); (case hn => (with_unfolding_all walk_at "nr")); (case hm => (with_unfolding_all walk_at "nr")))
  | (refine' ae_var ?hv ?_; (case hv => (with_unfolding_all exact rfl)))
  | (refine ae_int ?_)
  | (refine ae_str ?_)
  | (refine ae_bl ?_)
  | (refine ae_non ?_)
  | (refine ae_globD ?_)
  | (refine ae_isI ?_)
  | (refine ae_isB ?_)
  | (refine ae_isT ?_)
  | (refine ae_isL ?_)
  | (refine ae_isS ?_)
  | (refine ae_isTL ?_)
  | (refine ae_op ?_)
  | (refine ae_un ?_)
  | (refine ae_call ?_)
  | (refine ae_cb ?_)
  | (refine ae_tup0 ?_)
  | (refine ae_tup1 ?_)
  | (refine ae_tup2 ?_)
  | (refine ae_lst0 ?_)
  | (refine ae_lst1 ?_)
  | (refine ae_lst2 ?_)
  | (refine ae_tup ?_)
  | (refine ae_andV ?_)
  | (refine ae_orV ?_)
  | (refine ae_notV ?_)
  | (refine ae_ifE ?_)
  | (refine ae_chain ?_)
  | (refine aa_nil ?_)
  | (refine aa_cons ?_)
  | (refine ab_test ?_)
  | (refine ab_val ?_)
  | (refine ab_and ?_)
  | (refine ab_or ?_)
  | (refine ab_not ?_)
  | (refine ab_yes ?_)
  | (refine rr_ltI ?_)
  | (refine rr_ltT ?_)
  | (refine rr_ib ?_)
  | (refine rr_ii ?_)
  | (refine rr_addI ?_)
  | (refine ru_neg ?_)
  | (refine rr_isN ?_)
  | (refine rr_notN ?_)
  | (refine rr_notB ?_)
  | (refine rc_lenL ?_)
  | (refine rc_lenT ?_)
  | (refine rc_tupleL ?_)
  | (refine rc_tupleT ?_)
  | (refine rc_intI ?_)
  | (refine rc_intB ?_)
  | (refine' rr_eqD ?ha ?hb ?_; (case ha => (with_unfolding_all walk_at "sh")); (case hb => (with_unfolding_all walk_at "sh")))
  | (refine' rr_neD ?ha ?hb ?_; (case ha => (with_unfolding_all walk_at "sh")); (case hb => (with_unfolding_all walk_at "sh")))
  | (refine' rr_inT ?ha ?hb ?_; (case ha => (with_unfolding_all walk_at "sh")); (case hb => (with_unfolding_all walk_at "sh")))
  | (refine' rr_inL ?ha ?hb ?_; (case ha => (with_unfolding_all walk_at "sh")); (case hb => (with_unfolding_all walk_at "sh")))
  | (refine' rr_ixT ?ha ?_; (case ha => (with_unfolding_all exact rfl)))
  | (refine' rr_ixL ?ha ?_; (case ha => (with_unfolding_all exact rfl)))
  | (refine' rr_ci ?ha ?_; (case ha => (with_unfolding_all decide)))
  | (refine rf_rc (rf_sortAT ?_))
  | (refine rf_rc (rf_sortAI ?_))
  | (refine ae_callS ?_)
  | (refine ae_dict0 ?_)
  | (refine ⟨_, rfl, ?_⟩)
  | (refine ⟨_, _, rfl, ?_⟩))
local macro_rules | `(tactic| walk_at "fs1") => `(tactic| with_reducible (refine' so_set ?hn ?_; (case hn => (with_unfolding_all walk_at "nr"))))
local macro_rules | `(tactic| walk_at "fb") => `(tactic| repeat (walk_at "fb1"))
local macro_rules | `(tactic| walk_at "ft") => `(tactic| repeat (first | walk_at "fb1" | walk_at "fs1"))
local macro_rules | `(tactic| walk_at "fb1") => `(tactic| with_reducible first
  | (refine use_is_number ?_)
  | (refine use_is_club ?_)
  | (refine use_are_clubs ?_)
  | (refine use_wrong_part ?_)
  | (refine use_is_town ?_)
  | (refine use_check_rule ?_)
  | (refine use_suits ?_)
  | (refine use_wrong_size ?_)
  | (refine use_all_rules ?_))

/-! ### the law's own helpers -/
def fits (cs : List (List Int)) (c : List Int) (r : Bool × Bool) : Bool := (odd c.length == r.1) && (cs.filter fun d => decide (d ≠ c) && !(odd (both d c).length == r.2)).isEmpty
def keepsL (cs : List (List Int)) (r : Bool × Bool) : Bool := (cs.filter fun c => !fits cs c r).isEmpty
def allC : Nat → List (List Int)
  | 0 => [[]]
  | k + 1 => allC k ++ (allC k).map fun c => c ++ [(k : Int)]
theorem filter_yes {α : Type} (l : List α) : l.filter (fun _ => true) = l := List.filter_eq_self.mpr fun _ _ => rfl
theorem allC_len : ∀ k, (allC k).length = 2 ^ k
  | 0 => rfl
  | k + 1 => by
    show (allC k ++ (allC k).map _).length = _
    rw [List.length_append, List.length_map, allC_len k, Nat.pow_succ]
    omega
theorem ascI_app : ∀ {c : List Int} {a n : Int}, ascI c a n = true → a < n → ascI (c ++ [n]) a (n + 1) = true
  | [], a, n, _, h => by simp [ascI, h]; omega
  | p :: r, a, n, h, hl => by
    simp only [ascI, Bool.and_eq_true, decide_eq_true_eq] at h
    have ih := ascI_app h.2 h.1.2
    show (decide (a < p) && decide (p < n + 1) && ascI (r ++ [n]) p (n + 1)) = true
    rw [ih, decide_eq_true h.1.1, decide_eq_true (by omega : p < n + 1)]
    rfl
theorem ascI_up : ∀ {c : List Int} {a n m : Int}, ascI c a n = true → n ≤ m → ascI c a m = true
  | [], _, _, _, _, _ => rfl
  | p :: r, a, n, m, h, hl => by
    simp only [ascI, Bool.and_eq_true, decide_eq_true_eq] at h ⊢
    exact ⟨⟨h.1.1, by omega⟩, ascI_up h.2 hl⟩
theorem allC_good : ∀ {k : Nat} {c : List Int}, c ∈ allC k → GoodC (k : Int) c
  | 0, c, h => by
    have e : c = [] := by simpa [allC] using h
    subst e
    rfl
  | k + 1, c, h => by
    rcases List.mem_append.mp (show c ∈ allC k ++ (allC k).map _ from h) with z | z
    · exact ascI_up (allC_good z) (by omega)
    · obtain ⟨d, hd, rfl⟩ := List.mem_map.mp z
      have e : ((k + 1 : Nat) : Int) = (k : Int) + 1 := by omega
      show ascI (d ++ [(k : Int)]) (-1) ((k + 1 : Nat) : Int) = true
      rw [e]
      exact ascI_app (allC_good hd) (by omega)
def W__law_both : WP := W_in_both
def W__law_is_so : WP := fun ds P => ∃ k b, ds = [.int k, .str (wd b)] ∧ P (.bool (odd k == b))
def W__law_fits : WP := fun ds P => ∃ X cs c r, ds = [X, tupI c, ruleD r] ∧ (X = .tuple (clubs cs) ∨ X = .list (clubs cs)) ∧ cs.length ≤ 1000 ∧ (∀ c ∈ cs, c.length ≤ 1000) ∧ P (.bool (fits cs c r))
def W__law_keeps : WP := fun ds P => ∃ cs r, ds = [.tuple (clubs cs), ruleD r] ∧ cs.length ≤ 1000 ∧ (∀ c ∈ cs, c.length ≤ 1000) ∧ P (.bool (keepsL cs r))
def W__law_rules : WP := fun ds P => ds = [] ∧ P (.list (four.map ruleD))
def W__law_clubs : WP := fun ds P => ∃ n : Nat, ds = [.int (n : Int)] ∧ n ≤ 8 ∧ P (.list (clubs (allC n)))
def W__law_taken : WP := fun ds P => ∃ m : Int, ds = [.int m] ∧ 0 < m ∧ m < 1073741824 ∧ ∀ i : Int, 0 ≤ i → i < m → P (.int i)
def W__law_pick : WP := fun ds P => ∃ xs, ds = [.list xs] ∧ 0 < xs.length ∧ xs.length ≤ 100000 ∧ ∀ x ∈ xs, P x
def W__law_any_town : WP := fun ds P => ∃ m : Int, ds = [.int m] ∧ 1 ≤ m ∧ m ≤ 8 ∧ ∀ n cs, n ≤ m → Town n cs → cs.length ≤ 60 → P (townD n cs)
def W__law_town : WP := fun ds P => ∃ n r m, ds = [.int n, ruleD r, .int m] ∧ 1 ≤ n ∧ n ≤ 6 ∧ 0 ≤ m ∧ m ≤ 50 ∧ ∀ cs, Town n cs → cs.length ≤ m.toNat → keepsL cs r = true → P (townD n cs)
theorem len__law_both : ∀ ds P, W__law_both ds P → ds.length = 2 := len_in_both
theorem len__law_is_so : ∀ ds P, W__law_is_so ds P → ds.length = 2 := by rintro ds P ⟨d, n, rfl, -⟩; rfl
theorem len__law_fits : ∀ ds P, W__law_fits ds P → ds.length = 3 := by rintro ds P ⟨X, cs, c, r, rfl, -⟩; rfl
theorem len__law_keeps : ∀ ds P, W__law_keeps ds P → ds.length = 2 := by rintro ds P ⟨cs, r, rfl, -⟩; rfl
theorem len__law_rules : ∀ ds P, W__law_rules ds P → ds.length = 0 := by rintro ds P ⟨rfl, -⟩; rfl
theorem len__law_clubs : ∀ ds P, W__law_clubs ds P → ds.length = 1 := by rintro ds P ⟨n, rfl, -⟩; rfl
theorem len__law_taken : ∀ ds P, W__law_taken ds P → ds.length + 1 = 2 := by rintro ds P ⟨n, rfl, -⟩; rfl
theorem len__law_pick : ∀ ds P, W__law_pick ds P → ds.length + 1 = 2 := by rintro ds P ⟨n, rfl, -⟩; rfl
theorem len__law_any_town : ∀ ds P, W__law_any_town ds P → ds.length + 1 = 2 := by rintro ds P ⟨n, rfl, -⟩; rfl
theorem len__law_town : ∀ ds P, W__law_town ds P → ds.length + 1 = 4 := by rintro ds P ⟨n, r, m, rfl, -⟩; rfl
section
variable {P : Da → Prop} {n : Int}
theorem use__law_is_so {b : Bool} (p : P (.bool (odd n == b))) : W__law_is_so [.int n, .str (wd b)] P := ⟨n, b, rfl, p⟩
theorem use__law_both {a b : List Int} (h : a.length ≤ 1000) (p : P (tupI (both a b))) : W__law_both [tupI a, tupI b] P := ⟨a, b, rfl, h, p⟩
theorem use__law_rules (p : P (.list (four.map ruleD))) : W__law_rules [] P := ⟨rfl, p⟩
end
local macro_rules | `(tactic| walk_at "fb1") => `(tactic| with_reducible first
  | (refine use__law_is_so ?_)
  | (refine use__law_rules ?_)
  | (refine ae_callR ?hr ?_; (case hr => (with_unfolding_all exact rfl))))
section
variable {P : Program} {w : World} {K : Frg} {mg : Str → Option Value} {base : Heap}
theorem def__law_clubs (F : FunAt K mg "_law_clubs" ["people"] s__law_clubs) (B : Blt mg)  : DefAt P w K mg base 1 "_law_clubs" ["people"] (spW K W__law_clubs) := by
  have nd := sc__law_clubs.nd
  refine mk_def (W := W__law_clubs) F sc__law_clubs (fun ds P hw => len__law_clubs ds P hw) (fun f cdv A outer s H E hr => ⟨_, (pss_cons (ps_set (i := 1) nd rfl (by first | exact Or.inl rfl | exact Or.inr rfl) (pe_lst (pa_cons (pe_tup pa_nil) pa_nil)))
    (pss_cons (ps_for PassesOwn.never rfl (pi_range1 (by rfl) B.m_range (pa_cons (pv 0) pa_nil)) (pg_name (i := 2) nd rfl (by first | exact Or.inl rfl | exact Or.inr rfl))
    (pss_one (ps_set (i := 1) nd rfl (by first | exact Or.inl rfl | exact Or.inr rfl) (pe_op (op_addK (K := K) (by rfl)) (pv 1) (pe_lc (own := [("club", 3)]) rfl nd (pi_seqK (K := K) (by rfl) (pv 1)) (blkOk_by (N := N__law_clubs) (sc := (defScope s__law_clubs)) (by decide +kernel)) (fun _ _ _ _ _ => (pg_name (i := 3) nd rfl (by first | exact Or.inl rfl | exact Or.inr rfl))) (fun _ _ _ _ _ => pts_nil) (fun _ _ _ _ _ => (pe_op (op_addK (K := K) (by rfl)) (pv 3) (pe_tup (pa_cons (pv 2) pa_nil)))))))))
    (pss_one (ps_ret (pv 1))))), fun ds P hw => ?_⟩)
  try dsimp only [cxOf]
  obtain ⟨n, rfl, hn, p⟩ := hw
  show SO K _ [.dat (.int (n : Int)), .un, .un, .un] _
  walk_at "ft"
  refine so_for (is := [2]) (ai_rng1 ?_)
  walk_at "ft"
  refine ⟨by omega, ?_⟩
  refine loop_by (fun i : Nat => PyData.int (i : Int)) (fun xs ρ => ∃ k o1 o2, ρ = [.dat (.int (n : Int)), .dat (.list (clubs (allC k))), jk o1, jk o2] ∧ k ≤ n ∧ xs = List.range' k (n - k)) ?_ ?_ _ _ ⟨0, none, none, rfl, by omega, by rw [List.range_eq_range']; rfl⟩
  · rintro x xs _ ⟨k, o1, o2, rfl, hk, e⟩
    obtain ⟨rfl, e', hk'⟩ : x = k ∧ xs = List.range' (k + 1) (n - (k + 1)) ∧ k + 1 ≤ n := by
      cases z : n - k with
      | zero =>
        rw [z] at e
        cases e
      | succ m =>
        rw [z, List.range'_succ] at e
        injection e with e1 e2
        exact ⟨e1, by rw [e2]; congr 1; omega, by omega⟩
    refine ⟨_, at_name (by walk_at "nr"), ?_⟩
    show SO K _ [.dat (.int (n : Int)), .dat (.list (clubs (allC x))), .dat (.int (x : Int)), jk o2] _
    have h2 : 2 ^ x ≤ 2 ^ 8 := Nat.pow_le_pow_right (by decide) (by omega)
    have hl : (clubs (allC x)).length = 2 ^ x := by rw [List.length_map, allC_len]
    walk_at "ft"
    refine af_ae (af_lc (is := [3]) (ai_seqL ?_) (by decide))
    walk_at "ft"
    refine ⟨by rw [hl]; omega, ?_⟩
    refine comp_fm tupI (fun _ => true) (fun c => tupI (c ++ [(x : Int)])) (allC x) (fun c hc => ⟨_, at_name (by walk_at "nr"), ?_, fun _ => ?_⟩) ?_
    · show AB K _ [.dat (.int (n : Int)), .dat (.list (clubs (allC x))), .dat (.int (x : Int)), .dat (tupI c)] _
      walk_at "ft"
      rfl
    · show AE K _ [.dat (.int (n : Int)), .dat (.list (clubs (allC x))), .dat (.int (x : Int)), .dat (tupI c)] _
      walk_at "ft"
      have hc2 := ascI_len (allC_good hc) (by omega)
      refine rr_addT ?_ ?_
      · refine Nat.le_trans (?_ : _ ≤ 1000) (by decide)
        have : (nums c).length = c.length := List.length_map _
        rw [this]
        simp only [List.length_cons, List.length_nil]
        omega
      · show PyData.tuple (nums c ++ [.int (x : Int)]) = .tuple (nums (c ++ [(x : Int)]))
        unfold nums
        rw [List.map_append]
        rfl
    · refine rr_addL ?_ ?_
      · refine Nat.le_trans (?_ : _ ≤ 1000) (by decide)
        rw [hl, List.length_map, filter_yes, allC_len]
        omega
      · walk_at "ft"
        refine ⟨x + 1, some (.int (x : Int)), o2, ?_, hk', e'⟩
        rw [filter_yes]
        have e3 : clubs (allC x) ++ (allC x).map (fun c => tupI (c ++ [(x : Int)])) = clubs (allC (x + 1)) := by
          show _ = (allC x ++ (allC x).map fun c => c ++ [(x : Int)]).map tupI
          rw [List.map_append, List.map_map]
          rfl
        rw [e3]
        rfl
  · rintro _ ⟨k, o1, o2, rfl, hk, e⟩
    have ek : k = n := by
      cases z : n - k with
      | zero => omega
      | succ m =>
        rw [z, List.range'_succ] at e
        cases e
    subst ek
    walk_at "ft"
    exact p
theorem def__law_pick (F : FunAt K mg "_law_pick" ["row", "things"] s__law_pick) (B : Blt mg) (d__law_taken : DefAt P w K mg base 1 "_law_taken" ["row", "many"] (spR K W__law_taken)) : DefAt P w K mg base 2 "_law_pick" ["row", "things"] (spR K W__law_pick) := by
  have nd := sc__law_pick.nd
  refine mk_defR (W := W__law_pick) F sc__law_pick (fun ds P hw => len__law_pick ds P hw) (fun f cdv A outer s H E hr => ⟨_, (pss_one (ps_ret (pe_ix (ix_K (K := K) (by rfl)) (pv 1) (pe_def d__law_taken (by exact hr.mono (by decide)) (by rfl) (pa_cons (pv 0) (pa_cons (pe_callB (call_lenK (K := K) (by rfl)) (by rfl) B.m_len PySem.boot_len (pa_cons (pv 1) pa_nil)) pa_nil))) (fun _ _ => rfl)))), fun ds P hw => ?_⟩)
  try dsimp only [cxOf]
  obtain ⟨xs, rfl, h0, h1, p⟩ := hw
  show SO K _ [.row, .dat (.list xs)] _
  walk_at "ft"
  refine ⟨_, rfl, by omega, by omega, fun i i0 i1 => ?_⟩
  have hi : i.toNat < xs.length := by omega
  have ei : i = ((i.toNat : Nat) : Int) := by omega
  refine rr_ixL (d := xs[i.toNat]) ?_ ?_
  · have q : atI xs ((i.toNat : Nat) : Int) = some xs[i.toNat] := atI_nat (List.getElem?_eq_getElem hi)
    rw [← ei] at q
    exact q
  · walk_at "ft"
    exact p _ (List.getElem_mem hi)
end
end Ft

/-! part: K07r -/
set_option Elab.async false
set_option linter.all false
set_option maxRecDepth 100000
namespace Ft
/-! ### clubs as rows of bits -/
def vcF (k : Nat) : Nat → List Int → Vec
  | 0, _ => []
  | n + 1, c => decide ((k : Int) ∈ c) :: vcF (k + 1) n c
def cvF (k : Nat) : Vec → List Int
  | [] => []
  | b :: v => if b then (k : Int) :: cvF (k + 1) v else cvF (k + 1) v
abbrev vc (n : Nat) (c : List Int) : Vec := vcF 0 n c
abbrev cv (v : Vec) : List Int := cvF 0 v
theorem vcF_len : ∀ (n k : Nat) (c : List Int), (vcF k n c).length = n
  | 0, _, _ => rfl
  | n + 1, k, c => by rw [vcF, List.length_cons, vcF_len n]
theorem vcF_congr : ∀ (n k : Nat) {c d : List Int}, (∀ i : Nat, k ≤ i → ((i : Int) ∈ c ↔ (i : Int) ∈ d)) → vcF k n c = vcF k n d
  | 0, _, _, _, _ => rfl
  | n + 1, k, c, d, h => by
    rw [vcF, vcF, vcF_congr n (k + 1) fun i hi => h i (by omega), decide_eq_decide.mpr (h k (by omega))]
theorem ascI_dn : ∀ {c : List Int} {a b n : Int}, ascI c a n = true → b ≤ a → ascI c b n = true
  | [], _, _, _, _, _ => rfl
  | p :: r, a, b, n, h, hl => by
    simp only [ascI, Bool.and_eq_true, decide_eq_true_eq] at h ⊢
    exact ⟨⟨by omega, h.1.2⟩, h.2⟩
theorem ascI_filter (q : Int → Bool) : ∀ {c : List Int} {a n : Int}, ascI c a n = true → ascI (c.filter q) a n = true
  | [], _, _, _ => rfl
  | p :: r, a, n, h => by
    have h' := h
    simp only [ascI, Bool.and_eq_true, decide_eq_true_eq] at h'
    rw [List.filter_cons]
    split
    · show (decide (a < p) && decide (p < n) && ascI (r.filter q) p n) = true
      rw [ascI_filter q h'.2, decide_eq_true h'.1.1, decide_eq_true h'.1.2]
      rfl
    · exact ascI_dn (ascI_filter q h'.2) (by omega)
theorem cv_vc : ∀ (n k : Nat) {c : List Int}, ascI c ((k : Int) - 1) ((k + n : Nat) : Int) = true → cvF k (vcF k n c) = c
  | 0, k, [], h => rfl
  | 0, k, p :: r, h => by
    simp only [ascI, Bool.and_eq_true, decide_eq_true_eq] at h
    omega
  | n + 1, k, [], h => by
    rw [vcF, cvF]
    simp only [List.not_mem_nil, decide_false, Bool.false_eq_true, if_false]
    exact cv_vc n (k + 1) rfl
  | n + 1, k, p :: r, h => by
    have h0 := h
    simp only [ascI, Bool.and_eq_true, decide_eq_true_eq] at h
    have e : ((k + (n + 1) : Nat) : Int) = ((k + 1 + n : Nat) : Int) := by omega
    by_cases hp : p = (k : Int)
    · subst hp
      rw [vcF, decide_eq_true List.mem_cons_self, cvF, if_pos rfl]
      have : vcF (k + 1) n ((k : Int) :: r) = vcF (k + 1) n r := vcF_congr _ _ fun i hi => by
        rw [List.mem_cons]
        constructor
        · rintro (z | z)
          · omega
          · exact z
        · exact fun z => .inr z
      rw [this, cv_vc n (k + 1) (c := r)]
      rw [← e]
      have : ((k + 1 : Nat) : Int) - 1 = (k : Int) := by omega
      rw [this]
      exact h.2
    · have nk : ¬ (k : Int) ∈ p :: r := fun z => by
        rcases List.mem_cons.mp z with z | z
        · exact hp z.symm
        · have := ascI_mem h.2 z
          omega
      rw [vcF, decide_eq_false nk, cvF, if_neg (by simp)]
      refine cv_vc n (k + 1) ?_
      rw [← e]
      show (decide (((k + 1 : Nat) : Int) - 1 < p) && decide (p < _) && ascI r p _) = true
      rw [h.2, decide_eq_true h.1.2, decide_eq_true (by omega)]
      rfl
theorem cvF_mem : ∀ {v : Vec} {k : Nat} {x : Int}, x ∈ cvF k v → (k : Int) ≤ x
  | [], _, _, h => by cases h
  | b :: v, k, x, h => by
    rw [cvF] at h
    cases b
    · have := cvF_mem (v := v) (by simpa using h)
      omega
    · rcases List.mem_cons.mp (by simpa using h) with z | z
      · omega
      · have := cvF_mem z
        omega
theorem vc_cv : ∀ (k : Nat) (v : Vec), vcF k v.length (cvF k v) = v
  | _, [] => rfl
  | k, b :: v => by
    rw [List.length_cons, vcF, cvF]
    have ih := vc_cv (k + 1) v
    cases b
    · simp only [Bool.false_eq_true, if_false]
      rw [ih, decide_eq_false fun z => by have := cvF_mem z; omega]
    · simp only [if_true]
      rw [decide_eq_true List.mem_cons_self]
      have : vcF (k + 1) v.length ((k : Int) :: cvF (k + 1) v) = vcF (k + 1) v.length (cvF (k + 1) v) := vcF_congr _ _ fun i hi => by
        rw [List.mem_cons]
        constructor
        · rintro (z | z)
          · omega
          · exact z
        · exact fun z => .inr z
      rw [this, ih]
theorem cvF_asc : ∀ (k : Nat) (v : Vec), ascI (cvF k v) ((k : Int) - 1) ((k + v.length : Nat) : Int) = true
  | _, [] => rfl
  | k, b :: v => by
    have ih := cvF_asc (k + 1) v
    have e1 : ((k + 1 : Nat) : Int) - 1 = (k : Int) := by omega
    have e2 : ((k + 1 + v.length : Nat) : Int) = ((k + (b :: v).length : Nat) : Int) := by rw [List.length_cons]; omega
    rw [e1, e2] at ih
    rw [cvF]
    cases b
    · exact ascI_dn ih (by omega)
    · show (decide ((k : Int) - 1 < (k : Int)) && decide ((k : Int) < _) && ascI (cvF (k + 1) v) (k : Int) _) = true
      rw [ih, decide_eq_true (by omega), decide_eq_true (by rw [List.length_cons]; omega)]
      rfl
theorem odd_nat (k : Nat) : odd ((k : Nat) : Int) = decide (k % 2 = 1) := by
  unfold odd
  rw [decide_eq_decide]
  omega
theorem cvF_px : ∀ (k : Nat) (v : Vec), odd ((cvF k v).length : Int) = px v
  | _, [] => rfl
  | k, b :: v => by
    have ih := cvF_px (k + 1) v
    rw [odd_nat] at ih ⊢
    rw [cvF, px, ← ih]
    cases b
    · simp
    · simp only [if_true, List.length_cons]
      rcases Nat.mod_two_eq_zero_or_one (cvF (k + 1) v).length with z | z
      · rw [z, show ((cvF (k + 1) v).length + 1) % 2 = 1 by omega]; rfl
      · rw [z, show ((cvF (k + 1) v).length + 1) % 2 = 0 by omega]; rfl
variable {n : Nat} {a b c : List Int}
theorem good0 (h : GoodC (n : Int) c) : ascI c (((0 : Nat) : Int) - 1) ((0 + n : Nat) : Int) = true := by
  rw [Nat.zero_add]
  exact h
theorem cv_of (h : GoodC (n : Int) c) : cv (vc n c) = c := cv_vc n 0 (good0 h)
theorem vc_of {v : Vec} (h : v.length = n) : vc n (cv v) = v := by
  subst h
  exact vc_cv 0 v
theorem cv_good {v : Vec} (h : v.length = n) : GoodC (n : Int) (cv v) := by
  have := cvF_asc 0 v
  rw [h, Nat.zero_add] at this
  exact this
theorem vc_len : (vc n c).length = n := vcF_len n 0 c
theorem vc_inj (ha : GoodC (n : Int) a) (hb : GoodC (n : Int) b) (e : vc n a = vc n b) : a = b := by
  rw [← cv_of ha, e, cv_of hb]
theorem vc_size (h : GoodC (n : Int) c) : dot (vc n c) (vc n c) = odd (c.length : Int) := by
  rw [← px_dot, ← cvF_px 0 (vc n c), show cvF 0 (vc n c) = c from cv_of h]
theorem vcF_both : ∀ (n k : Nat), dot (vcF k n a) (vcF k n b) = px (vcF k n (both a b))
  | 0, _ => rfl
  | n + 1, k => by
    rw [vcF, vcF, vcF, dot, px, vcF_both n (k + 1)]
    congr 1
    unfold both
    rw [← Bool.decide_and, decide_eq_decide, List.mem_filter]
    simp
theorem both_good (h : GoodC (n : Int) a) : GoodC (n : Int) (both a b) := ascI_filter _ h
theorem vc_meet (h : GoodC (n : Int) a) : dot (vc n a) (vc n b) = odd ((both a b).length : Int) := by
  rw [vcF_both, px_dot, vc_size (both_good h)]
theorem allC_mem : ∀ {n : Nat} {c : List Int}, GoodC (n : Int) c → c ∈ allC n
  | 0, [], _ => List.mem_cons_self
  | 0, p :: r, h => by
    have := ascI_mem h List.mem_cons_self
    omega
  | n + 1, c, h => by
    have key : ∀ {c : List Int} {a : Int}, ascI c a ((n : Int) + 1) = true → ascI c a (n : Int) = true ∨ ∃ d, c = d ++ [(n : Int)] ∧ ascI d a (n : Int) = true := by
      intro c
      induction c with
      | nil => exact fun _ => .inl rfl
      | cons p r ih =>
        intro a h
        have h' := h
        simp only [ascI, Bool.and_eq_true, decide_eq_true_eq] at h'
        rcases ih h'.2 with z | ⟨d, e, z⟩
        · by_cases hp : p < (n : Int)
          · left
            show (decide (a < p) && decide (p < _) && ascI r p _) = true
            rw [z, decide_eq_true h'.1.1, decide_eq_true hp]
            rfl
          · right
            have ep : p = (n : Int) := by omega
            have er : r = [] := by
              cases r with
              | nil => rfl
              | cons q r =>
                have := ascI_mem z List.mem_cons_self
                omega
            exact ⟨[], by rw [ep, er]; rfl, rfl⟩
        · right
          refine ⟨p :: d, by rw [e]; rfl, ?_⟩
          have hp := (ascI_mem h'.2 (p := (n : Int)) (by rw [e]; simp)).1
          show (decide (a < p) && decide (p < _) && ascI d p _) = true
          rw [z, decide_eq_true h'.1.1, decide_eq_true hp]
          rfl
    have e : ((n + 1 : Nat) : Int) = (n : Int) + 1 := by omega
    have h : ascI c (-1) ((n + 1 : Nat) : Int) = true := h
    rw [e] at h
    refine List.mem_append.mpr ?_
    rcases key h with z | ⟨d, rfl, z⟩
    · exact .inl (allC_mem z)
    · exact .inr (List.mem_map.mpr ⟨d, allC_mem z, rfl⟩)
theorem allC_iff : c ∈ allC n ↔ GoodC (n : Int) c := ⟨allC_good, allC_mem⟩
/-! ### a town by a rule -/
structure KeepC (n : Nat) (r : Bool × Bool) (cs : List (List Int)) : Prop where
  nodup : cs.Nodup
  good : ∀ c ∈ cs, GoodC (n : Int) c
  kept : keepsL cs r = true
variable {r : Bool × Bool} {cs : List (List Int)}
theorem fits_iff : fits cs c r = true ↔ odd (c.length : Int) = r.1 ∧ ∀ d ∈ cs, d ≠ c → odd ((both d c).length : Int) = r.2 := by
  unfold fits
  rw [Bool.and_eq_true, List.isEmpty_iff, List.filter_eq_nil_iff]
  constructor
  · rintro ⟨h1, h2⟩
    refine ⟨by simpa using h1, fun d hd ne => ?_⟩
    have := h2 d hd
    simpa [ne] using this
  · rintro ⟨h1, h2⟩
    refine ⟨by simpa using h1, fun d hd => ?_⟩
    by_cases ne : d = c
    · simp [ne]
    · have := h2 d hd ne
      simp [ne, this]
theorem keepsL_fits : keepsL cs r = true ↔ ∀ c ∈ cs, fits cs c r = true := by
  unfold keepsL
  rw [List.isEmpty_iff, List.filter_eq_nil_iff]
  simp
/-- the same, club by club -/
structure Pk (r : Bool × Bool) (cs : List (List Int)) : Prop where
  size : ∀ c ∈ cs, odd (c.length : Int) = r.1
  meet : ∀ c ∈ cs, ∀ d ∈ cs, c ≠ d → odd ((both c d).length : Int) = r.2
theorem Pk.keeps (h : Pk r cs) : keepsL cs r = true := keepsL_fits.mpr fun c hc => fits_iff.mpr ⟨h.size c hc, fun d hd ne => h.meet d hd c hc ne⟩
theorem pk_of (h : keepsL cs r = true) : Pk r cs := ⟨fun c hc => (fits_iff.mp (keepsL_fits.mp h c hc)).1, fun c hc d hd ne => (fits_iff.mp (keepsL_fits.mp h d hd)).2 c hc ne⟩
theorem Pk.perm {out : List (List Int)} (h : Pk r cs) (p : out.Perm cs) : Pk r out := ⟨fun c hc => h.size c (p.mem_iff.mp hc), fun c hc d hd => h.meet c (p.mem_iff.mp hc) d (p.mem_iff.mp hd)⟩
theorem both_sym (ha : GoodC (n : Int) a) (hb : GoodC (n : Int) b) : odd ((both a b).length : Int) = odd ((both b a).length : Int) := by
  rw [← vc_meet ha, dot_comm, vc_meet hb]
theorem Pk.nil : Pk r [] := ⟨fun c h => absurd h (by simp), fun c h => absurd h (by simp)⟩
theorem Pk.snoc (h : Pk r cs) (hg : ∀ c ∈ cs, GoodC (n : Int) c) (gc : GoodC (n : Int) c) (s : odd (c.length : Int) = r.1) (m : ∀ d ∈ cs, odd ((both d c).length : Int) = r.2) : Pk r (cs ++ [c]) where
  size := fun d hd => by
    rcases List.mem_append.mp hd with z | z
    · exact h.size d z
    · rw [List.mem_singleton.mp z]
      exact s
  meet := fun d hd e he ne => by
    rcases List.mem_append.mp hd with z | z <;> rcases List.mem_append.mp he with y | y
    · exact h.meet d z e y ne
    · rw [List.mem_singleton.mp y]
      exact m d z
    · rw [List.mem_singleton.mp z, both_sym gc (hg e y)]
      exact m e y
    · exact absurd ((List.mem_singleton.mp z).trans (List.mem_singleton.mp y).symm) ne
theorem KeepC.vec (h : KeepC n r cs) : KeepV n r (cs.map (vc n)) where
  nodup := nodup_map h.nodup fun x hx y hy e => vc_inj (h.good x hx) (h.good y hy) e
  len := fun a ha => by
    obtain ⟨c, _, rfl⟩ := List.mem_map.mp ha
    exact vc_len
  size := fun a ha => by
    obtain ⟨c, hc, rfl⟩ := List.mem_map.mp ha
    rw [vc_size (h.good c hc)]
    exact (fits_iff.mp (keepsL_fits.mp h.kept c hc)).1
  meet := fun a ha b hb ne => by
    obtain ⟨c, hc, rfl⟩ := List.mem_map.mp ha
    obtain ⟨d, hd, rfl⟩ := List.mem_map.mp hb
    rw [vc_meet (h.good c hc)]
    exact (fits_iff.mp (keepsL_fits.mp h.kept d hd)).2 c hc fun e => ne (by rw [e])
theorem KeepC.fit (h : KeepC n r cs) (hc : GoodC (n : Int) c) (nc : c ∉ cs) : fits cs c r = true ↔ FitV r (cs.map (vc n)) (vc n c) := by
  rw [fits_iff]
  unfold FitV
  rw [vc_size hc]
  constructor
  · rintro ⟨h1, h2⟩
    refine ⟨h1, fun a ha => ?_⟩
    obtain ⟨d, hd, rfl⟩ := List.mem_map.mp ha
    rw [dot_comm, vc_meet (h.good d hd)]
    exact h2 d hd fun e => nc (e ▸ hd)
  · rintro ⟨h1, h2⟩
    refine ⟨h1, fun d hd ne => ?_⟩
    have := h2 (vc n d) (List.mem_map.mpr ⟨d, hd, rfl⟩)
    rwa [dot_comm, vc_meet (h.good d hd)] at this
/-- no club can be added -/
def FullC (n : Nat) (r : Bool × Bool) (cs : List (List Int)) : Prop := ∀ c ∈ allC n, c ∉ cs → fits cs c r = false
theorem KeepC.full (h : KeepC n r cs) : FullC n r cs ↔ FullV n r (cs.map (vc n)) := by
  constructor
  · intro f v hv fv
    by_cases m : cv v ∈ cs
    · exact List.mem_map.mpr ⟨_, m, vc_of hv⟩
    · have := f _ (allC_mem (cv_good hv)) m
      rw [(h.fit (cv_good hv) m).mpr (by rw [vc_of hv]; exact fv)] at this
      cases this
  · intro f c hc nc
    have gc := allC_good hc
    cases z : fits cs c r with
    | false => rfl
    | true =>
      obtain ⟨d, hd, e⟩ := List.mem_map.mp (f _ vc_len ((h.fit gc nc).mp z))
      exact absurd (vc_inj (h.good d hd) gc e ▸ hd) nc
theorem KeepC.most (h : KeepC n r cs) (h1 : 1 ≤ n) (h8 : n ≤ 8) : cs.length ≤ mostN n r := by
  have := keep_most h1 h8 h.vec
  rwa [List.length_map] at this
theorem KeepC.full_is (h : KeepC n r cs) (h1 : 1 ≤ n) (h8 : n ≤ 8) (e : r.1 = r.2) (f : FullC n r cs) : cs.length = mostN n r := by
  have := full_most h1 h8 e h.vec (h.full.mp f)
  rwa [List.length_map] at this
/-- by odd and even: full exactly if each is in oddly many -/
theorem KeepC.odd_even (h : KeepC n (true, false) cs) : FullC n (true, false) cs ↔ ∀ i : Nat, i < n → (cs.filter fun c => decide ((i : Int) ∈ c)).length % 2 = 1 := by
  rw [h.full, odd_even_full h.vec]
  have px_cnt : ∀ (l : List (List Int)) (p : List Int → Bool), px (l.map p) = decide ((l.filter p).length % 2 = 1) := fun l p => by
    induction l with
    | nil => rfl
    | cons a l ih =>
      simp only [List.map_cons, px, ih, List.filter_cons]
      cases p a
      · simp
      · simp only [if_true, List.length_cons]
        rcases Nat.mod_two_eq_zero_or_one (l.filter p).length with z | z
        · rw [z, show ((l.filter p).length + 1) % 2 = 1 by omega]; rfl
        · rw [z, show ((l.filter p).length + 1) % 2 = 0 by omega]; rfl
  have at_ : ∀ (m k i : Nat) (c : List Int), i < m → (vcF k m c)[i]? = some (decide (((k + i : Nat) : Int) ∈ c)) := by
    intro m
    induction m with
    | zero => intro k i c h; omega
    | succ m ih =>
      intro k i c h
      cases i with
      | zero => rfl
      | succ i =>
        rw [vcF, List.getElem?_cons_succ, ih (k + 1) i c (by omega)]
        rw [show k + 1 + i = k + (i + 1) by omega]
  have ad : ∀ (x y : Vec) (i : Nat) (a b : Bool), x[i]? = some a → y[i]? = some b → (add x y)[i]? = some (a ^^ b) := by
    intro x
    induction x with
    | nil => intro y i a b h; cases h
    | cons p x ih =>
      intro y i a b h h'
      cases y with
      | nil => cases h'
      | cons q y =>
        cases i with
        | zero =>
          have : p = a := by simpa using h
          have : q = b := by simpa using h'
          subst_vars
          rfl
        | succ i => exact ih y i a b (by simpa using h) (by simpa using h')
  have tt : ∀ (l : List (List Int)) (i : Nat), i < n → (tot n (l.map (vc n)))[i]? = some (px (l.map fun c => decide ((i : Int) ∈ c))) := by
    intro l i hi
    induction l with
    | nil =>
      show (zer n)[i]? = some false
      rw [zer, List.getElem?_replicate, if_pos hi]
    | cons c l ih =>
      show (add (vc n c) (tot n (l.map (vc n))))[i]? = _
      have q := at_ n 0 i c hi
      rw [Nat.zero_add] at q
      exact ad _ _ _ _ _ q ih
  constructor
  · intro e i hi
    have q := tt cs i hi
    rw [e, ones, List.getElem?_replicate, if_pos hi, px_cnt] at q
    simpa using q.symm
  · intro f
    refine List.ext_getElem? fun i => ?_
    by_cases hi : i < n
    · rw [tt cs i hi, ones, List.getElem?_replicate, if_pos hi, px_cnt, decide_eq_true (f i hi)]
    · rw [List.getElem?_eq_none (by rw [tot_len h.vec.len]; omega), List.getElem?_eq_none (by rw [ones_len]; omega)]
end Ft

/-! part: K07c -/
set_option Elab.async false
set_option linter.all false
set_option maxRecDepth 100000
namespace Ft
open PySem L2
local macro_rules | `(tactic| walk_at "nr") => `(tactic| first | (intro h; cases h; done) | exact jk_nr)
local macro_rules | `(tactic| walk_at "sh") => `(tactic| first | exact sh_int | exact sh_bl | exact sh_non | exact sh_wd | exact sh_odd | exact sh_tupI | exact sh_clubsT | exact sh_clubsL | exact sh_nilL | exact sh_rule | exact sh_rules | assumption)
local macro_rules | `(tactic| walk_at "fb1") => `(tactic| with_reducible first
  | (refine so_seq ?_)
  | (refine so_next ?_)
  | (refine so_ret ?_)
  | (refine so_retN ?_)
  | (refine so_if ?_)
  | (refine' so_append ?he ?_; (case he => (with_unfolding_all exact rfl)))
  | (refine so_drop ?_)
  | (refine thenO_nx ?_)
  | (refine thenO_rt ?_)
  | (refine retO_rt ?_)
  | (refine retO_nx ?_)
  | (refine loopO_nx ?_)
  | (refine loopO_rt ?_)
  | (refine thenO_ct ?_)
  | (refine thenO_bk ?_)
  | (refine loopO_ct ?_)
  | (refine loopO_bk ?_)
  | (refine so_break ?_)
  | (refine so_cont ?_)
  | (refine' so_asg2 ?h2 ?hn ?hm ?_; (case h2 => (with_unfolding_all exact rfl)); (case hn => (with_unfolding_all walk_at "nr")); (case hm => (with_unfolding_all walk_at "nr")))
  | (refine' ae_var ?hv ?_; (case hv => (with_unfolding_all exact rfl)))
  | (refine ae_int ?_)
  | (refine ae_str ?_)
  | (refine ae_bl ?_)
  | (refine ae_non ?_)
  | (refine ae_globD ?_)
  | (refine ae_isI ?_)
  | (refine ae_isB ?_)
  | (refine ae_isT ?_)
  | (refine ae_isL ?_)
  | (refine ae_isS ?_)
  | (refine ae_isTL ?_)
  | (refine ae_op ?_)
  | (refine ae_un ?_)
  | (refine ae_call ?_)
  | (refine ae_cb ?_)
  | (refine ae_tup0 ?_)
  | (refine ae_tup1 ?_)
  | (refine ae_tup2 ?_)
  | (refine ae_lst0 ?_)
  | (refine ae_lst1 ?_)
  | (refine ae_lst2 ?_)
  | (refine ae_tup ?_)
  | (refine ae_andV ?_)
  | (refine ae_orV ?_)
  | (refine ae_notV ?_)
  | (refine ae_ifE ?_)
  | (refine ae_chain ?_)
  | (refine aa_nil ?_)
  | (refine aa_cons ?_)
  | (refine ab_test ?_)
  | (refine ab_val ?_)
  | (refine ab_and ?_)
  | (refine ab_or ?_)
  | (refine ab_not ?_)
  | (refine ab_yes ?_)
  | (refine rr_ltI ?_)
  | (refine rr_ltT ?_)
  | (refine rr_ib ?_)
  | (refine rr_ii ?_)
  | (refine rr_addI ?_)
  | (refine ru_neg ?_)
  | (refine rr_isN ?_)
  | (refine rr_notN ?_)
  | (refine rr_notB ?_)
  | (refine rc_lenL ?_)
  | (refine rc_lenT ?_)
  | (refine rc_tupleL ?_)
  | (refine rc_tupleT ?_)
  | (refine rc_intI ?_)
  | (refine rc_intB ?_)
  | (refine' rr_eqD ?ha ?hb ?_; (case ha => (with_unfolding_all walk_at "sh")); (case hb => (with_unfolding_all walk_at "sh")))
  | (refine' rr_neD ?ha ?hb ?_; (case ha => (with_unfolding_all walk_at "sh")); (case hb => (with_unfolding_all walk_at "sh")))
  | (refine' rr_inT ?ha ?hb ?_; (case ha => (with_unfolding_all walk_at "sh")); (case hb => (with_unfolding_all walk_at "sh")))
  | (refine' rr_inL ?ha ?hb ?_; (case ha => (with_unfolding_all walk_at "sh")); (case hb => (with_unfolding_all walk_at "sh")))
  | (refine' rr_ixT ?ha ?_; (case ha => (with_unfolding_all exact rfl)))
  | (refine' rr_ixL ?ha ?_; (case ha => (with_unfolding_all exact rfl)))
  | (refine' rr_ci ?ha ?_; (case ha => (with_unfolding_all decide)))
  | (refine rf_rc (rf_sortAT ?_))
  | (refine rf_rc (rf_sortAI ?_))
  | (refine ae_callS ?_)
  | (refine ae_dict0 ?_)
  | (refine ⟨_, rfl, ?_⟩)
  | (refine ⟨_, _, rfl, ?_⟩))
local macro_rules | `(tactic| walk_at "fs1") => `(tactic| with_reducible (refine' so_set ?hn ?_; (case hn => (with_unfolding_all walk_at "nr"))))
local macro_rules | `(tactic| walk_at "fb") => `(tactic| repeat (walk_at "fb1"))
local macro_rules | `(tactic| walk_at "ft") => `(tactic| repeat (first | walk_at "fb1" | walk_at "fs1"))
local macro_rules | `(tactic| walk_at "fb1") => `(tactic| with_reducible first
  | (refine use_is_number ?_)
  | (refine use_is_club ?_)
  | (refine use_are_clubs ?_)
  | (refine use_wrong_part ?_)
  | (refine use_is_town ?_)
  | (refine use_check_rule ?_)
  | (refine use_suits ?_)
  | (refine use_wrong_size ?_)
  | (refine use_all_rules ?_))

local macro_rules | `(tactic| walk_at "fb1") => `(tactic| with_reducible first
  | (refine use__law_is_so ?_)
  | (refine use__law_rules ?_)
  | (refine ae_callR ?hr ?_; (case hr => (with_unfolding_all exact rfl))))
/-! ### the draws -/
section
variable {P : Program} {w : World} {K : Frg} {mg : Str → Option Value} {base : Heap}
theorem row_at {H : Hp} {r : Addr} {xs : List V} {σ : L2.St} {k : Int} {v : V} {Q : VK} (h : H r = some (.lst xs)) (hv : σ[0]? = some (some (V.ref r))) (e : atI xs k = some v) (q : Q v H) : tOp (rIx K) (tVar 0) (tC (.int k)) σ H Q :=
  ⟨_, hv, .inl ⟨r, xs, k, v, rfl, rfl, SqL.of h, e, q⟩⟩
theorem row_set {H : Hp} {r : Addr} {xs : List V} {σ : L2.St} {k : Int} {j : Nat} {v : V} {Q : L2.St → Hp → Prop} (h : H r = some (.lst xs)) (hv : σ[0]? = some (some (V.ref r))) (e : ixN xs.length k = some j) (q : Q σ (upd H r (.lst (xs.set j v)))) : gSub (tVar 0) (tC (.int k)) rSetL v σ H Q :=
  ⟨_, hv, r, xs, k, j, rfl, rfl, h, e, q⟩
theorem def__law_taken (F : FunAt K mg "_law_taken" ["row", "many"] s__law_taken) (B : Blt mg) : DefAt P w K mg base 1 "_law_taken" ["row", "many"] (spR K W__law_taken) := by
  have nd := sc__law_taken.nd
  obtain ⟨f, fd, F, b, mgf⟩ := F.ex
  refine ⟨f, fd, F.ok sc__law_taken (fun vs H Q E ⟨r, us, ds, P, H0, ev, e, rx, dx, wp, q⟩ => by rw [ev, List.length_cons, dps_len dx]; exact len__law_taken ds P wp) (fun cdv A outer s H vs Q E hr ⟨r, us, ds, P, H0, ev, e, rx, dx, ⟨m, ed, m0, m1, hP⟩, q⟩ => ⟨_, (pss_cons (ps_if (pt_cmpR op_gt (pe_ix (ix_K (K := K) (by rfl)) (pv 0) pe_int (fun _ _ => rfl)) pe_int (nomark _)) (pss_cons (ps_set (i := 2) nd rfl (by first | exact Or.inl rfl | exact Or.inr rfl) (pe_op op_mod (pe_callTy call_int' (by rfl) B.m_int (by decide +kernel) (pa_cons (pe_ix (ix_K (K := K) (by rfl)) (pv 0) pe_int (fun _ _ => rfl)) pa_nil)) (pv 1)))
    (pss_cons (ps_asg (pe_op op_fdiv (pe_ix (ix_K (K := K) (by rfl)) (pv 0) pe_int (fun _ _ => rfl)) (pv 1)) (pg_sub (pv 0) pe_int set_list))
    (pss_one (ps_ret (pv 2))))) pss_nil)
    (pss_cons (ps_asg (pe_op (op_addK (K := K) (by rfl)) (pe_ix (ix_K (K := K) (by rfl)) (pv 0) pe_int (fun _ _ => rfl)) pe_int) (pg_sub (pv 0) pe_int set_list))
    (pss_cons (ps_if (pt_cmpR op_gt (pe_ix (ix_K (K := K) (by rfl)) (pv 0) pe_int (fun _ _ => rfl)) (pe_callB (call_lenK (K := K) (by rfl)) (by rfl) B.m_len PySem.boot_len (pa_cons (pe_ix (ix_K (K := K) (by rfl)) (pv 0) pe_int (fun _ _ => rfl)) pa_nil)) (nomark _)) (pss_cons (ps_asg (pe_op op_mod (pe_callTy call_int' (by rfl) B.m_int (by decide +kernel) (pa_cons (pe_op (op_addK (K := K) (by rfl)) (pe_op op_mul (pe_ix (ix_K (K := K) (by rfl)) (pv 0) pe_int (fun _ _ => rfl)) pe_int) pe_int) pa_nil)) pe_int) (pg_sub (pv 0) pe_int set_list))
    (pss_one (ps_ret (pe_op op_mod (pe_callTy call_int' (by rfl) B.m_int (by decide +kernel) (pa_cons (pe_op op_fdiv (pe_ix (ix_K (K := K) (by rfl)) (pv 0) pe_int (fun _ _ => rfl)) pe_int) pa_nil)) (pv 1))))) pss_nil)
    (pss_cons (ps_set (i := 3) nd rfl (by first | exact Or.inl rfl | exact Or.inr rfl) (pe_ix (ix_K (K := K) (by rfl)) (pe_ix (ix_K (K := K) (by rfl)) (pv 0) pe_int (fun _ _ => rfl)) (pe_op op_sub (pe_ix (ix_K (K := K) (by rfl)) (pv 0) pe_int (fun _ _ => rfl)) pe_int) (fun _ _ => rfl)))
    (pss_cons (ps_asg (pe_op op_mod (pe_callTy call_int' (by rfl) B.m_int (by decide +kernel) (pa_cons (pe_op (op_addK (K := K) (by rfl)) (pe_op (op_addK (K := K) (by rfl)) (pe_op op_mul (pe_ix (ix_K (K := K) (by rfl)) (pv 0) pe_int (fun _ _ => rfl)) pe_int) (pv 3)) pe_int) pa_nil)) pe_int) (pg_sub (pv 0) pe_int set_list))
    (pss_cons (ps_if (pt_cmpR op_ge (pv 3) (pe_op op_pow pe_int pe_int) (nomark _)) (pss_one (ps_asg (pe_op op_fdiv (pv 3) (pv 1)) (pg_sub (pv 0) pe_int set_list))) pss_nil)
    (pss_one (ps_ret (pe_op op_mod (pe_callTy call_int' (by rfl) B.m_int (by decide +kernel) (pa_cons (pv 3) pa_nil)) (pv 1)))))))))), ?_⟩), b, F.kp, mgf⟩
  subst ev ed
  cases dx with
  | cons y n =>
  cases n
  cases y
  obtain ⟨n0, sa, a, b', c, ns, hr0, ha, hs, hl⟩ := rx
  have fin : ∀ (i : Int) (H' : Hp) (a' b' c' : Int), 0 ≤ i → i < m → 0 ≤ a' → H' r = some (.lst [.ref sa, .int a', .int b', .int c']) → (∀ x, x ≠ r → H' x = H x) → Q (.int i) H' := fun i H' a' b' c' i0 i1 a0 hr1 ho =>
    q (.int i) (hP i i0 i1) (.int i) H0 H' ⟨Evl.Ex.refl _, fun x o z => by rw [ho x fun w => by subst w; rw [n0] at z; cases z]; exact e x o z, fun x o nr z => by rw [ho x nr]; exact z, fun x o _ z => z, fun x z => by subst z; exact ⟨n0, sa, a', b', c', ns, hr1, a0, hs, hl⟩⟩ (.int i)
  have u1 : ∀ {H1 : Hp} {xs : List V}, (∀ x, x ≠ r → H1 x = H x) → ∀ x, x ≠ r → upd H1 r (.lst xs) x = H x := fun h x z => by rw [upd_ne z]; exact h x z
  refine row_at hr0 rfl rfl ?_
  refine ⟨_, _, rfl, rfl, _, rfl, ?_⟩
  refine ite2 (fun h1 => ?_) (fun h1 => ?_)
  · refine row_at hr0 rfl rfl ?_
    refine .inl ⟨_, rfl, ?_⟩
    refine ⟨_, rfl, _, _, rfl, rfl, m0, ?_⟩
    refine row_at hr0 rfl rfl ?_
    refine ⟨_, rfl, _, _, rfl, rfl, ⟨m0, m1⟩, ?_⟩
    refine row_set (j := 3) hr0 rfl rfl ?_
    refine ⟨_, rfl, ?_⟩
    exact fin _ _ a b' (c / m) (Int.emod_nonneg _ (by omega)) (Int.emod_lt_of_pos _ m0) ha upd_same (u1 fun _ _ => rfl)
  · refine row_at hr0 rfl rfl ?_
    refine .inl ⟨_, _, rfl, rfl, ?_⟩
    refine row_set (j := 1) hr0 rfl rfl ?_
    have g1 : upd H r (.lst ([V.ref sa, .int a, .int b', .int c].set 1 (.int (a + 1)))) r = some (.lst [.ref sa, .int (a + 1), .int b', .int c]) := upd_same
    have o1 : ∀ x, x ≠ r → upd H r (.lst ([V.ref sa, .int a, .int b', .int c].set 1 (.int (a + 1)))) x = H x := u1 fun _ _ => rfl
    generalize upd H r (.lst ([V.ref sa, .int a, .int b', .int c].set 1 (.int (a + 1)))) = H1 at g1 o1 ⊢
    have hs1 : SqL K H1 sa (ns.map V.int) := by
      have hk := Evl.ex_l e hs
      rcases hk with (hk | ⟨o, hk⟩) | hk
      · by_cases z : sa = r
        · subst z
          rcases hs with (hs | ⟨o, hs⟩) | hs
          · rw [n0] at hs
            cases hs
          · rw [n0] at hs
            cases hs
          · exact .inr hs
        · exact .inl (.inl ((o1 _ z).trans hk))
      · by_cases z : sa = r
        · subst z
          rw [hr0] at hk
          cases hk
        · exact .inl (.inr ⟨o, (o1 _ z).trans hk⟩)
      · exact .inr hk
    refine row_at g1 rfl rfl ?_
    refine row_at g1 rfl rfl ?_
    refine ⟨_, _, rfl, .inl hs1, _, _, rfl, rfl, _, rfl, ?_⟩
    refine ite2 (fun h2 => ?_) (fun h2 => ?_)
    · refine row_at g1 rfl rfl ?_
      refine ⟨_, _, rfl, rfl, .inr (by decide), ?_⟩
      refine .inl ⟨_, _, rfl, rfl, ?_⟩
      refine .inl ⟨_, rfl, ?_⟩
      refine ⟨_, _, rfl, rfl, (show (0 : Int) < 2147483647 by decide), ?_⟩
      refine row_set (j := 2) g1 rfl rfl ?_
      refine row_at upd_same rfl rfl ?_
      refine ⟨_, _, rfl, rfl, ⟨by decide, by decide⟩, ?_⟩
      refine .inl ⟨_, rfl, ?_⟩
      refine ⟨_, rfl, _, _, rfl, rfl, m0, ?_⟩
      exact fin _ _ (a + 1) _ c (Int.emod_nonneg _ (by omega)) (Int.emod_lt_of_pos _ m0) (by omega) upd_same (u1 o1)
    · have h3 : ¬ (((ns.map V.int).length : Int) < a + 1) := of_decide_eq_false (Bool.eq_false_iff.mpr h2)
      rw [List.length_map] at h3
      have hi : a.toNat < ns.length := by omega
      have ea : a + 1 - 1 = ((a.toNat : Nat) : Int) := by omega
      refine row_at g1 rfl rfl ?_
      refine row_at g1 rfl rfl ?_
      refine ⟨_, _, rfl, rfl, ?_⟩
      refine .inl ⟨_, _, _, V.int ns[a.toNat], rfl, rfl, hs1, ?_, ?_⟩
      · rw [ea]
        exact atI_nat (by rw [List.getElem?_map, List.getElem?_eq_getElem hi]; rfl)
      refine row_at g1 rfl rfl ?_
      refine ⟨_, _, rfl, rfl, .inr (by decide), ?_⟩
      refine ⟨_, rfl, ?_⟩
      refine .inl ⟨_, _, rfl, rfl, ?_⟩
      refine .inl ⟨_, _, rfl, rfl, ?_⟩
      refine .inl ⟨_, rfl, ?_⟩
      refine ⟨_, _, rfl, rfl, (show (0 : Int) < 2147483647 by decide), ?_⟩
      refine row_set (j := 2) g1 rfl rfl ?_
      refine ⟨_, rfl, _, _, rfl, rfl, ⟨by decide, by decide, by decide⟩, _, _, rfl, rfl, _, rfl, ?_⟩
      refine ite2 (fun h4 => ?_) (fun h4 => ?_)
      · refine ⟨_, rfl, _, rfl, _, _, rfl, rfl, ⟨m0, m1⟩, ?_⟩
        refine row_set (j := 3) upd_same rfl rfl ?_
        refine ⟨_, rfl, ?_⟩
        refine .inl ⟨_, rfl, ?_⟩
        refine ⟨_, rfl, _, _, rfl, rfl, m0, ?_⟩
        exact fin _ _ (a + 1) _ _ (Int.emod_nonneg _ (by omega)) (Int.emod_lt_of_pos _ m0) (by omega) upd_same (u1 (u1 o1))
      · refine ⟨_, rfl, ?_⟩
        refine .inl ⟨_, rfl, ?_⟩
        refine ⟨_, rfl, _, _, rfl, rfl, m0, ?_⟩
        exact fin _ _ (a + 1) _ c (Int.emod_nonneg _ (by omega)) (Int.emod_lt_of_pos _ m0) (by omega) upd_same (u1 o1)
/-! ### alike -/
def Al : Nat → Da → Prop
  | 0, _ => False
  | n + 1, .list xs => xs.length ≤ 100000 ∧ ∀ x ∈ xs, Al n x
  | n + 1, .tuple xs => xs.length ≤ 100000 ∧ ∀ x ∈ xs, Al n x
  | _ + 1, .str x => SeqAt.shaped (.str x) = true
  | _ + 1, .dict _ => False
  | _ + 1, _ => True
def W_alike (n : Nat) : WP := fun ds P => ∃ d, ds = [d, d] ∧ Al n d ∧ P (.bool true)
abbrev W__law_alike : WP := W_alike 8
theorem def_alike (F : FunAt K mg "_law_alike" ["found", "due"] s__law_alike) (B : Blt mg) : ∀ n : Nat, DefAt P w K mg base n "_law_alike" ["found", "due"] (spW K (W_alike n))
  | 0 => by
    obtain ⟨f, fd, F, b, mgf⟩ := F.ex
    have no : ∀ vs H Q E, ¬ spW K (W_alike 0) vs H Q E := fun vs H Q E ⟨ds, P, H0, e, dx, ⟨d, ed, a, p⟩, q⟩ => a
    exact ⟨f, fd, ⟨fun vs H Q E h => absurd h (no vs H Q E), fun A outer s H args us vs Q E _ _ _ _ h => absurd h (no vs H Q E)⟩, b, F.kp, mgf⟩
  | n + 1 => by
    have d__law_alike := def_alike F B n
    have nd := sc__law_alike.nd
    refine mk_def (W := W_alike (n + 1)) F sc__law_alike (fun ds P hw => by obtain ⟨d, rfl, -⟩ := hw; rfl) (fun f cdv A outer s H E hr => ⟨_, (pss_cons (ps_if (pt_val (pe_callB (call_isiTK (K := K) (by rfl)) (by rfl) B.m_isinstance (by decide +kernel) (pa_cons (pv 1) (pa_cons (pe_tup (pa_cons (pe_bltn (v := .ty "tuple") (by rfl) B.m_tuple (by decide +kernel) rfl) (pa_cons (pe_bltn (v := .ty "list") (by rfl) B.m_list (by decide +kernel) rfl) pa_nil))) pa_nil)))) (pss_cons (ps_if (PW.pt (pw_or (pt_not (pt_val (pe_callB (call_isiTK (K := K) (by rfl)) (by rfl) B.m_isinstance (by decide +kernel) (pa_cons (pv 0) (pa_cons (pe_tup (pa_cons (pe_bltn (v := .ty "tuple") (by rfl) B.m_tuple (by decide +kernel) rfl) (pa_cons (pe_bltn (v := .ty "list") (by rfl) B.m_list (by decide +kernel) rfl) pa_nil))) pa_nil))))) (pw_or1 (pt_cmpR (op_neK (K := K) (by rfl) (by exact hr.units)) (pe_callB (call_isiK (K := K) (by rfl)) (by rfl) B.m_isinstance (by decide +kernel) (pa_cons (pv 0) (pa_cons (pe_bltn (v := .ty "list") (by rfl) B.m_list (by decide +kernel) rfl) pa_nil))) (pe_callB (call_isiK (K := K) (by rfl)) (by rfl) B.m_isinstance (by decide +kernel) (pa_cons (pv 1) (pa_cons (pe_bltn (v := .ty "list") (by rfl) B.m_list (by decide +kernel) rfl) pa_nil))) (nomark _))))) (pss_one (ps_ret pe_bl)) pss_nil)
    (pss_cons (ps_if (pt_cmpR (op_neK (K := K) (by rfl) (by exact hr.units)) (pe_callB (call_lenK (K := K) (by rfl)) (by rfl) B.m_len PySem.boot_len (pa_cons (pv 0) pa_nil)) (pe_callB (call_lenK (K := K) (by rfl)) (by rfl) B.m_len PySem.boot_len (pa_cons (pv 1) pa_nil)) (nomark _)) (pss_one (ps_ret pe_bl)) pss_nil)
    (pss_one (ps_ret (pe_cmpR (op_eqK (K := K) (by rfl) (by exact hr.units)) (pe_lc (own := [("k", 2)]) rfl nd (pi_range1 (by rfl) B.m_range (pa_cons (pe_callB (call_lenK (K := K) (by rfl)) (by rfl) B.m_len PySem.boot_len (pa_cons (pv 1) pa_nil)) pa_nil)) (blkOk_by (N := N__law_alike) (sc := (defScope s__law_alike)) (by decide +kernel)) (fun _ _ _ _ _ => (pg_name (i := 2) nd rfl (by first | exact Or.inl rfl | exact Or.inr rfl))) (fun _ _ _ _ _ => (pts_one (pt_not (pt_val (pe_def d__law_alike (by exact hr) (by rfl) (pa_cons (pe_ix (ix_K (K := K) (by rfl)) (pv 0) (pv 2) (fun _ _ => rfl)) (pa_cons (pe_ix (ix_K (K := K) (by rfl)) (pv 1) (pv 2) (fun _ _ => rfl)) pa_nil))))))) (fun _ _ _ _ _ => (pv 2))) (pe_lst pa_nil) (nomark _)))))) pss_nil)
    (pss_cons (ps_if (PW.pt (pw_or (pt_cmpR op_isN' (pv 1) pe_non (nomark _)) (pw_or1 (pt_val (pe_callB (call_isiK (K := K) (by rfl)) (by rfl) B.m_isinstance (by decide +kernel) (pa_cons (pv 1) (pa_cons (pe_bltn (v := .ty "str") (by rfl) B.m_str (by decide +kernel) rfl) pa_nil))))))) (pss_one (ps_ret (pe_and (pe_cmpR (op_eqK (K := K) (by rfl) (by exact hr.units)) (pv 0) (pv 1) (nomark _)) (pe_one (pe_cmpR (op_eqK (K := K) (by rfl) (by exact hr.units)) (pe_callB (call_isiK (K := K) (by rfl)) (by rfl) B.m_isinstance (by decide +kernel) (pa_cons (pv 0) (pa_cons (pe_bltn (v := .ty "str") (by rfl) B.m_str (by decide +kernel) rfl) pa_nil))) (pe_callB (call_isiK (K := K) (by rfl)) (by rfl) B.m_isinstance (by decide +kernel) (pa_cons (pv 1) (pa_cons (pe_bltn (v := .ty "str") (by rfl) B.m_str (by decide +kernel) rfl) pa_nil))) (nomark _)))))) pss_nil)
    (pss_one (ps_ret (pe_and (pe_callB (call_isiK (K := K) (by rfl)) (by rfl) B.m_isinstance (by decide +kernel) (pa_cons (pv 0) (pa_cons (pe_bltn (v := .ty "int") (by rfl) B.m_int (by decide +kernel) rfl) pa_nil))) (pe_and (pe_cmpR (op_eqK (K := K) (by rfl) (by exact hr.units)) (pe_callB (call_isiK (K := K) (by rfl)) (by rfl) B.m_isinstance (by decide +kernel) (pa_cons (pv 0) (pa_cons (pe_bltn (v := .ty "bool") (by rfl) B.m_bool (by decide +kernel) rfl) pa_nil))) (pe_callB (call_isiK (K := K) (by rfl)) (by rfl) B.m_isinstance (by decide +kernel) (pa_cons (pv 1) (pa_cons (pe_bltn (v := .ty "bool") (by rfl) B.m_bool (by decide +kernel) rfl) pa_nil))) (nomark _)) (pe_one (pe_cmpR (op_eqK (K := K) (by rfl) (by exact hr.units)) (pv 0) (pv 1) (nomark _))))))))), fun ds P hw => ?_⟩)
    obtain ⟨d, rfl, al, p⟩ := hw
    show SO K _ [.dat d, .dat d, .un] _
    walk_at "ft"
    have seq : ∀ (xs : List Da) (D : Da), (D = .tuple xs ∨ D = .list xs) → (∀ x ∈ xs, Al n x) → CompD K (gName 2) [2] (tNot (tB (tCall (spW K (W_alike n)) [] E0 (tCons (tOp (rIx K) (tVar 0) (tVar 2)) (tCons (tOp (rIx K) (tVar 1) (tVar 2)) tNil))))) (tVar 2)
        (wipeR [.dat D, .dat D, .un] [2]) ((List.range xs.length).map fun (i : Nat) => .int (i : Int)) fun ds => AE K (tLst tNil) [.dat D, .dat D, .un] fun y => RR K (rEqD K) (.list ds) y fun d => retO P (.rt d) := by
      intro xs D hD ha
      refine comp_fm (fun i : Nat => PyData.int (i : Int)) (fun _ => false) (fun i : Nat => PyData.int (i : Int)) (List.range xs.length) (fun i hi => ⟨_, at_name (by walk_at "nr"), ?_, fun z => absurd z (by decide)⟩) ?_
      · show AB K _ [.dat D, .dat D, .dat (.int (i : Int))] _
        have hi' : i < xs.length := List.mem_range.mp hi
        walk_at "ft"
        rcases hD with z | z
        · subst z
          refine rr_ixT (atI_nat (List.getElem?_eq_getElem hi')) ?_
          walk_at "ft"
          refine rr_ixT (atI_nat (List.getElem?_eq_getElem hi')) ?_
          walk_at "ft"
          refine ⟨_, rfl, ha _ (List.getElem_mem hi'), ?_⟩
          walk_at "ft"
          rfl
        · subst z
          refine rr_ixL (atI_nat (List.getElem?_eq_getElem hi')) ?_
          walk_at "ft"
          refine rr_ixL (atI_nat (List.getElem?_eq_getElem hi')) ?_
          walk_at "ft"
          refine ⟨_, rfl, ha _ (List.getElem_mem hi'), ?_⟩
          walk_at "ft"
          rfl
      · rw [show (List.range xs.length).filter (fun _ => false) = [] from List.filter_eq_nil_iff.mpr fun _ _ => by decide]
        walk_at "ft"
        exact p
    cases d with
    | tuple xs =>
      have al : xs.length ≤ 100000 ∧ ∀ x ∈ xs, Al n x := al
      refine wayT rfl ?_
      walk_at "ft"
      refine wayF' rfl ?_
      walk_at "ft"
      refine wayF rfl ?_
      walk_at "ft"
      refine wayF (by rw [eqv_int]; simp) ?_
      walk_at "ft"
      refine af_ae (af_lc (is := [2]) (ai_rng1 ?_) (by decide))
      walk_at "ft"
      refine ⟨by omega, ?_⟩
      have e : ((xs.length : Int)).toNat = xs.length := by omega
      rw [e]
      exact ⟨by rw [List.length_map, List.length_range]; exact al.1, seq xs _ (.inl rfl) al.2⟩
    | list xs =>
      have al : xs.length ≤ 100000 ∧ ∀ x ∈ xs, Al n x := al
      refine wayT rfl ?_
      walk_at "ft"
      refine wayF' rfl ?_
      walk_at "ft"
      refine wayF rfl ?_
      walk_at "ft"
      refine wayF (by rw [eqv_int]; simp) ?_
      walk_at "ft"
      refine af_ae (af_lc (is := [2]) (ai_rng1 ?_) (by decide))
      walk_at "ft"
      refine ⟨by omega, ?_⟩
      have e : ((xs.length : Int)).toNat = xs.length := by omega
      rw [e]
      exact ⟨by rw [List.length_map, List.length_range]; exact al.1, seq xs _ (.inr rfl) al.2⟩
    | none =>
      refine wayF rfl ?_
      walk_at "ft"
      refine wayT' rfl ?_
      refine wayT rfl ?_
      walk_at "ft"
      refine wayT rfl ?_
      walk_at "ft"
      rw [eqv_bl]
      exact p
    | str x =>
      have al : SeqAt.shaped (.str x) = true := al
      refine wayF rfl ?_
      walk_at "ft"
      refine wayF' rfl ?_
      walk_at "ft"
      refine wayT rfl ?_
      walk_at "ft"
      refine wayT (by simp [PyData.eqv]) ?_
      walk_at "ft"
      rw [eqv_bl]
      exact p
    | bool x =>
      refine wayF rfl ?_
      walk_at "ft"
      refine wayF' rfl ?_
      walk_at "ft"
      refine wayF rfl ?_
      walk_at "ft"
      refine wayT rfl ?_
      walk_at "ft"
      refine wayT eqv_bl ?_
      walk_at "ft"
      exact (show ∀ b, b = true → P (.bool b) from fun b h => by rw [h]; exact p) _ (by simp [PyData.eqv])
    | int x =>
      refine wayF rfl ?_
      walk_at "ft"
      refine wayF' rfl ?_
      walk_at "ft"
      refine wayF rfl ?_
      walk_at "ft"
      refine wayT rfl ?_
      walk_at "ft"
      refine wayT eqv_bl ?_
      walk_at "ft"
      exact (show ∀ b, b = true → P (.bool b) from fun b h => by rw [h]; exact p) _ (by simp [PyData.eqv])
    | dict x => exact al.elim
end
end Ft

/-! part: K07m -/
set_option Elab.async false
set_option linter.all false
set_option maxRecDepth 100000
namespace Ft
open PySem L2
theorem clubs_snoc {cs : List (List Int)} {c : List Int} : clubs cs ++ [tupI c] = clubs (cs ++ [c]) := by
  unfold clubs
  rw [List.map_append]
  rfl
/-! ### order -/
theorem lex_total : ∀ a b : List Int, HT.lexLt b a = false → a ≠ b → HT.lexLt a b = true
  | [], [], _, n => absurd rfl n
  | [], _ :: _, _, _ => rfl
  | _ :: _, [], h, _ => by cases h
  | x :: a, y :: b, h, n => by
    rw [HT.lexLt_cons] at h ⊢
    by_cases e : x = y
    · subst e
      rw [if_pos rfl] at h ⊢
      exact lex_total a b h fun z => n (by rw [z])
    · rw [if_neg fun z => e z.symm] at h
      rw [if_neg e]
      have := of_decide_eq_false h
      exact decide_eq_true (by omega)
theorem lex_irr : ∀ a : List Int, HT.lexLt a a = false
  | [] => rfl
  | x :: a => by
    rw [HT.lexLt_cons, if_pos rfl]
    exact lex_irr a
theorem asc_sorted : ∀ {out : List (List Int)}, out.Pairwise (fun x y => HT.lexLt y x = false) → out.Nodup → ascL out = true
  | [], _, _ => rfl
  | [_], _, _ => rfl
  | a :: b :: r, h, n => by
    have ih := asc_sorted (List.pairwise_cons.mp h).2 (List.nodup_cons.mp n).2
    show (HT.lexLt a b && ascL (b :: r)) = true
    rw [ih, Bool.and_true]
    refine lex_total a b ((List.pairwise_cons.mp h).1 b List.mem_cons_self) fun z => ?_
    subst z
    exact (List.nodup_cons.mp n).1 List.mem_cons_self
theorem lex_trans : ∀ a b c : List Int, HT.lexLt a b = true → HT.lexLt b c = true → HT.lexLt a c = true
  | [], _, [], h1, h2 => by
    rename_i b
    cases b with
    | nil => cases h1
    | cons y b => cases h2
  | [], _, _ :: _, _, _ => rfl
  | x :: a, [], _, h1, _ => by cases h1
  | x :: a, y :: b, [], _, h2 => by cases h2
  | x :: a, y :: b, z :: c, h1, h2 => by
    rw [HT.lexLt_cons] at h1 h2 ⊢
    by_cases e1 : x = y
    · subst e1
      rw [if_pos rfl] at h1
      by_cases e2 : x = z
      · subst e2
        rw [if_pos rfl] at h2 ⊢
        exact lex_trans a b c h1 h2
      · rw [if_neg e2] at h2 ⊢
        exact h2
    · rw [if_neg e1] at h1
      have g1 := of_decide_eq_true h1
      by_cases e2 : y = z
      · subst e2
        rw [if_neg e1]
        exact h1
      · rw [if_neg e2] at h2
        have g2 := of_decide_eq_true h2
        rw [if_neg (by omega)]
        exact decide_eq_true (by omega)
theorem asc_lt : ∀ {r : List (List Int)} {a : List Int}, ascL (a :: r) = true → ∀ b ∈ r, HT.lexLt a b = true
  | [], _, _, b, hb => by cases hb
  | c :: r, a, h, b, hb => by
    have h' : (HT.lexLt a c && ascL (c :: r)) = true := h
    rw [Bool.and_eq_true] at h'
    rcases List.mem_cons.mp hb with z | z
    · subst z
      exact h'.1
    · exact lex_trans a c b h'.1 (asc_lt h'.2 b z)
theorem asc_tail {r : List (List Int)} {a : List Int} (h : ascL (a :: r) = true) : ascL r = true := by
  cases r with
  | nil => rfl
  | cons c r =>
    have h' : (HT.lexLt a c && ascL (c :: r)) = true := h
    rw [Bool.and_eq_true] at h'
    exact h'.2
theorem asc_nodup : ∀ {cs : List (List Int)}, ascL cs = true → cs.Nodup
  | [], _ => List.nodup_nil
  | a :: r, h => List.nodup_cons.mpr ⟨fun z => absurd ((lex_irr a).symm.trans (asc_lt h a z)) (by decide), asc_nodup (asc_tail h)⟩
theorem mk_town {k : Nat} {cs out : List (List Int)} (k1 : 1 ≤ k) (k8 : k ≤ 8) (hs : ∀ c ∈ cs, c ∈ allC k) (hn : cs.Nodup) (pm : out.Perm cs) (pw : out.Pairwise fun x y => HT.lexLt y x = false) : Town (k : Int) out :=
  ⟨by omega, by omega, fun c hc => allC_good (hs c (pm.mem_iff.mp hc)), asc_sorted pw (pm.nodup_iff.mpr hn)⟩
/-! ### members -/
theorem getD_set {v : List Int} {i j : Nat} {x : Int} (h : i < v.length) : (v.set i x).getD j 0 = if i = j then x else v.getD j 0 := by
  rw [List.getD_eq_getElem?_getD, List.getD_eq_getElem?_getD]
  by_cases e : i = j
  · subst e
    rw [if_pos rfl, List.getElem?_set_self h]
    rfl
  · rw [if_neg e, List.getElem?_set_ne e]
theorem addC_get : ∀ {c : List Int} {a n : Int} {v : List Int} (i : Nat), ascI c a n = true → -1 ≤ a → v.length = n.toNat → (addC v c).getD i 0 = v.getD i 0 + (if (i : Int) ∈ c then 1 else 0)
  | [], a, n, v, i, _, _, _ => by simp [addC]
  | p :: r, a, n, v, i, h, ha, hv => by
    simp only [ascI, Bool.and_eq_true, decide_eq_true_eq] at h
    have ih := addC_get (v := add1 v p) i h.2 (by omega) ((add1_len v p).trans hv)
    show (addC (add1 v p) r).getD i 0 = _
    rw [ih]
    unfold add1
    rw [getD_set (by omega)]
    by_cases e : p.toNat = i
    · have ei : (i : Int) = p := by omega
      have ni : ¬ (i : Int) ∈ r := fun z => by
        have := ascI_mem h.2 z
        omega
      rw [if_pos e, if_neg ni, if_pos (by rw [ei]; exact List.mem_cons_self), e]
      omega
    · have ei : ¬ (i : Int) = p := by omega
      rw [if_neg e]
      by_cases hm : (i : Int) ∈ r
      · rw [if_pos hm, if_pos (List.mem_cons_of_mem _ hm)]
      · rw [if_neg hm, if_neg fun z => (List.mem_cons.mp z).elim ei hm]
theorem addAll_get : ∀ {cs : List (List Int)} {n : Int} {v : List Int} (i : Nat), (∀ c ∈ cs, ascI c (-1) n = true) → v.length = n.toNat → (cs.foldl addC v).getD i 0 = v.getD i 0 + ((cs.filter fun c => decide ((i : Int) ∈ c)).length : Nat)
  | [], n, v, i, _, _ => by simp
  | c :: cs, n, v, i, h, hv => by
    have ih := addAll_get (v := addC v c) i (fun d hd => h d (List.mem_cons_of_mem _ hd)) ((addC_len c v).trans hv)
    show (cs.foldl addC (addC v c)).getD i 0 = _
    rw [ih, addC_get i (h c List.mem_cons_self) (by omega) hv, List.filter_cons]
    by_cases hm : (i : Int) ∈ c
    · rw [if_pos hm, if_pos (decide_eq_true hm), List.length_cons]
      omega
    · rw [if_neg hm, if_neg (by simpa using hm)]
      omega
theorem addAll_len : ∀ (cs : List (List Int)) (v : List Int), (cs.foldl addC v).length = v.length
  | [], v => rfl
  | c :: cs, v => (addAll_len cs (addC v c)).trans (addC_len c v)
theorem counted_eq {n : Int} {cs : List (List Int)} (t : Town n cs) : counted n cs = (List.range n.toNat).map fun (i : Nat) => (((cs.filter fun c => decide ((i : Int) ∈ c)).length : Nat) : Int) := by
  have hl : (counted n cs).length = n.toNat := (addAll_len cs _).trans List.length_replicate
  refine List.ext_getElem (by rw [hl, List.length_map, List.length_range]) fun i h1 h2 => ?_
  have g := addAll_get (cs := cs) (v := List.replicate n.toNat 0) i t.all List.length_replicate
  have e1 : (counted n cs).getD i 0 = (counted n cs)[i] := by
    rw [List.getD_eq_getElem?_getD, List.getElem?_eq_getElem h1]
    rfl
  have e2 : (List.replicate n.toNat (0 : Int)).getD i 0 = 0 := by
    rw [List.getD_eq_getElem?_getD, List.getElem?_replicate]
    split <;> rfl
  rw [← e1]
  show (cs.foldl addC (List.replicate n.toNat 0)).getD i 0 = _
  rw [g, e2, List.getElem_map, List.getElem_range]
  omega
/-! ### who keeps a rule -/
theorem filter_or {α : Type} {p q : α → Bool} : ∀ {l : List α}, (∀ x ∈ l, p x = true → q x = false) → (l.filter fun x => p x || q x).length = (l.filter p).length + (l.filter q).length
  | [], _ => rfl
  | x :: l, h => by
    have ih := filter_or (p := p) (q := q) fun y hy => h y (List.mem_cons_of_mem _ hy)
    have hx := h x List.mem_cons_self
    rw [List.filter_cons, List.filter_cons, List.filter_cons]
    cases hp : p x with
    | true =>
      have hq := hx hp
      simp only [hq, Bool.true_or, if_true, List.length_cons, Bool.false_eq_true, if_false]
      omega
    | false =>
      cases hq : q x with
      | true => simp only [Bool.or_true, if_true, List.length_cons, Bool.false_eq_true, if_false]; omega
      | false => simp only [Bool.or_false, Bool.false_eq_true, if_false]; exact ih
theorem filter_is {x : Int} : ∀ {b : List Int}, b.Nodup → (b.filter fun p => decide (p = x)).length = if x ∈ b then 1 else 0
  | [], _ => rfl
  | y :: b, h => by
    have ih := filter_is (x := x) (List.nodup_cons.mp h).2
    have ny := (List.nodup_cons.mp h).1
    rw [List.filter_cons]
    by_cases e : y = x
    · subst e
      rw [if_pos (decide_eq_true rfl), List.length_cons, ih, if_neg ny, if_pos List.mem_cons_self]
    · rw [if_neg (by simpa using e), ih]
      have e' : ¬ x = y := fun z => e z.symm
      by_cases m : x ∈ b
      · rw [if_pos m, if_pos (List.mem_cons_of_mem _ m)]
      · rw [if_neg m, if_neg fun z => (List.mem_cons.mp z).elim e' m]
theorem both_len : ∀ {a b : List Int}, a.Nodup → b.Nodup → (both a b).length = (both b a).length
  | [], b, _, _ => by
    show 0 = (b.filter fun p => decide (p ∈ [])).length
    rw [List.filter_eq_nil_iff.mpr fun p _ => by simp]
    rfl
  | x :: a, b, ha, hb => by
    have ih := both_len (List.nodup_cons.mp ha).2 hb
    have nx := (List.nodup_cons.mp ha).1
    have e : both b (x :: a) = b.filter fun p => decide (p = x) || decide (p ∈ a) := by
      unfold both
      refine List.filter_congr fun p _ => ?_
      by_cases z : p = x <;> by_cases y : p ∈ a <;> simp [z, y]
    have e2 : (both b (x :: a)).length = (if x ∈ b then 1 else 0) + (both b a).length := by
      rw [e, filter_or (fun p _ hp => by
        have hp := of_decide_eq_true hp
        subst hp
        exact decide_eq_false nx), filter_is hb]
      rfl
    rw [e2, ← ih]
    unfold both
    rw [List.filter_cons]
    by_cases m : x ∈ b
    · rw [if_pos (decide_eq_true m), if_pos m, List.length_cons]
      omega
    · rw [if_neg (by simpa using m), if_neg m]
      omega
theorem ascI_nodup : ∀ {c : List Int} {a n : Int}, ascI c a n = true → c.Nodup
  | [], _, _, _ => List.nodup_nil
  | p :: r, a, n, h => by
    simp only [ascI, Bool.and_eq_true, decide_eq_true_eq] at h
    exact List.nodup_cons.mpr ⟨fun z => by
      have := ascI_mem h.2 z
      omega, ascI_nodup h.2⟩
/-- as the document says it -/
structure Kept (cs : List (List Int)) (r : Bool × Bool) : Prop where
  size : ∀ c ∈ cs, odd c.length = r.1
  meet : ∀ c ∈ cs, ∀ d ∈ cs, c ≠ d → odd (both c d).length = r.2
theorem keepsL_iff {cs : List (List Int)} {r : Bool × Bool} : keepsL cs r = true ↔ Kept cs r := by
  unfold keepsL
  rw [List.isEmpty_iff, List.filter_eq_nil_iff]
  constructor
  · intro h
    have g : ∀ c ∈ cs, (odd c.length == r.1) = true ∧ ∀ d ∈ cs, d ≠ c → (odd (both d c).length == r.2) = true := fun c hc => by
      have hc' : fits cs c r = true := by simpa using h c hc
      unfold fits at hc'
      rw [Bool.and_eq_true, List.isEmpty_iff, List.filter_eq_nil_iff] at hc'
      exact ⟨hc'.1, fun d hd n => by simpa [n] using hc'.2 d hd⟩
    exact ⟨fun c hc => by simpa using (g c hc).1, fun c hc d hd n => by simpa using (g d hd).2 c hc n⟩
  · intro k c hc
    have : fits cs c r = true := by
      unfold fits
      rw [Bool.and_eq_true, List.isEmpty_iff, List.filter_eq_nil_iff]
      refine ⟨by simpa using k.size c hc, fun d hd => ?_⟩
      by_cases n : d = c
      · simp [n]
      · simp [n, k.meet d hd c hc n]
    simp [this]
theorem firstWrong_none {cs : List (List Int)} {b : Bool} : firstWrong cs b = none ↔ ∀ c ∈ cs, odd c.length = b := by
  unfold firstWrong
  rw [List.find?_eq_none]
  constructor
  · intro h c hc
    simpa using h c hc
  · intro h c hc
    simp [h c hc]
theorem firstShare_none {b : Bool} : ∀ {cs : List (List Int)}, firstShare b cs = none ↔ cs.Pairwise fun c d => odd (both c d).length = b
  | [] => ⟨fun _ => List.Pairwise.nil, fun _ => rfl⟩
  | c :: r => by
    have ih := firstShare_none (b := b) (cs := r)
    show (match r.find? (fun d => !(odd (both c d).length == b)) with | some d => some (c, d) | none => firstShare b r) = none ↔ _
    rw [List.pairwise_cons]
    cases e : r.find? (fun d => !(odd (both c d).length == b)) with
    | some d =>
      have hd := List.find?_some e
      have md := List.mem_of_find?_eq_some e
      constructor
      · intro h
        cases h
      · intro h
        have := h.1 d md
        simp [this] at hd
    | none =>
      rw [List.find?_eq_none] at e
      constructor
      · intro h
        exact ⟨fun d hd => by simpa using e d hd, ih.mp h⟩
      · intro h
        exact ih.mpr h.2
theorem pair_meet {n : Int} {b : Bool} {cs : List (List Int)} (hn : cs.Nodup) (hg : ∀ c ∈ cs, ascI c (-1) n = true) : (cs.Pairwise fun c d => odd (both c d).length = b) ↔ ∀ c ∈ cs, ∀ d ∈ cs, c ≠ d → odd (both c d).length = b := by
  constructor
  · intro h
    induction cs with
    | nil => intro c hc; cases hc
    | cons a r ih =>
      have ih := ih (List.nodup_cons.mp hn).2 (fun c hc => hg c (List.mem_cons_of_mem _ hc)) (List.pairwise_cons.mp h).2
      have h1 := (List.pairwise_cons.mp h).1
      intro c hc d hd n'
      rcases List.mem_cons.mp hc with z | z
      · rcases List.mem_cons.mp hd with y | y
        · exact absurd (z.trans y.symm) n'
        · rw [z]
          exact h1 d y
      · rcases List.mem_cons.mp hd with y | y
        · rw [y, both_len (ascI_nodup (hg c hc)) (ascI_nodup (hg a List.mem_cons_self))]
          exact h1 c z
        · exact ih c z d y n'
  · intro h
    induction cs with
    | nil => exact List.Pairwise.nil
    | cons a r ih =>
      refine List.pairwise_cons.mpr ⟨fun d hd => h a List.mem_cons_self d (List.mem_cons_of_mem _ hd) fun z => (List.nodup_cons.mp hn).1 (by rw [z]; exact hd), ih (List.nodup_cons.mp hn).2 (fun c hc => hg c (List.mem_cons_of_mem _ hc)) fun c hc d hd => h c (List.mem_cons_of_mem _ hc) d (List.mem_cons_of_mem _ hd)⟩
theorem breach_keeps {n : Int} {cs : List (List Int)} (t : Town n cs) (r : Bool × Bool) : isNone (breachD cs r) = keepsL cs r := by
  have k := keepsL_iff (cs := cs) (r := r)
  have pm := pair_meet (b := r.2) (asc_nodup t.asc) t.all
  unfold breachD
  cases e : firstWrong cs r.1 with
  | some c =>
    have hk : keepsL cs r = false := by
      cases h : keepsL cs r with
      | false => rfl
      | true =>
        have := firstWrong_none.mpr (k.mp h).size
        rw [e] at this
        cases this
    rw [hk]
    rfl
  | none =>
    have hs := firstWrong_none.mp e
    cases e2 : firstShare r.2 cs with
    | none =>
      have hk : keepsL cs r = true := k.mpr ⟨hs, pm.mp (firstShare_none.mp e2)⟩
      rw [hk]
      rfl
    | some p =>
      have hk : keepsL cs r = false := by
        cases h : keepsL cs r with
        | false => rfl
        | true =>
          have := firstShare_none.mpr (pm.mpr (k.mp h).meet)
          rw [e2] at this
          cases this
      rw [hk]
      rfl
/-! ### what the law lists -/
def duePairs (b : Bool) : List (List Int) → List (List Int × List Int)
  | [] => []
  | c :: r => (r.filter fun d => !(odd (both c d).length == b)).map (fun d => (c, d)) ++ duePairs b r
def encP (p : List Int × List Int) : Da := .tuple [tupI p.1, tupI p.2]
def due1 (cs : List (List Int)) (r : Bool × Bool) : List Da := (cs.filter fun c => !(odd c.length == r.1)).map fun c => .tuple [tupI c]
def dueD (cs : List (List Int)) (r : Bool × Bool) : List Da := due1 cs r ++ (duePairs r.2 cs).map encP
theorem duePairs_len (b : Bool) : ∀ cs : List (List Int), (duePairs b cs).length ≤ cs.length * cs.length
  | [] => Nat.le_refl _
  | c :: r => by
    have ih := duePairs_len b r
    have h := List.length_filter_le (fun d => !(odd (both c d).length == b)) r
    show ((r.filter _).map _ ++ duePairs b r).length ≤ (r.length + 1) * (r.length + 1)
    rw [List.length_append, List.length_map]
    have : (r.length + 1) * (r.length + 1) = r.length * r.length + 2 * r.length + 1 := by
      rw [Nat.add_mul, Nat.mul_add]
      omega
    omega
theorem pairs_head (b : Bool) : ∀ cs : List (List Int), ((duePairs b cs).map encP).head? = (firstShare b cs).map encP
  | [] => rfl
  | c :: r => by
    have ih := pairs_head b r
    show (((r.filter _).map (fun d => (c, d)) ++ duePairs b r).map encP).head? = Option.map encP (match r.find? (fun d => !(odd (both c d).length == b)) with | some d => some (c, d) | none => firstShare b r)
    rw [List.map_append, List.head?_append, ih, List.map_map, List.head?_map, List.head?_filter]
    cases r.find? (fun d => !(odd (both c d).length == b)) <;> rfl
theorem due_head (cs : List (List Int)) (r : Bool × Bool) : (dueD cs r).head? = match breachD cs r with
    | .none => none
    | d => some d := by
  unfold dueD due1 breachD
  rw [List.head?_append, List.head?_map, List.head?_filter, pairs_head]
  show ((firstWrong cs r.1).map _).or _ = _
  cases firstWrong cs r.1 with
  | some c => rfl
  | none =>
    cases firstShare r.2 cs with
    | none => rfl
    | some p => rfl
theorem breach_shape (cs : List (List Int)) (r : Bool × Bool) : breachD cs r = .none ∨ ∃ es, breachD cs r = .tuple es := by
  unfold breachD
  cases firstWrong cs r.1 with
  | some c => exact .inr ⟨_, rfl⟩
  | none =>
    cases firstShare r.2 cs with
    | none => exact .inl rfl
    | some p => exact .inr ⟨_, rfl⟩
theorem due_none {cs : List (List Int)} {r : Bool × Bool} (h : breachD cs r = .none) : dueD cs r = [] := by
  have e := due_head cs r
  rw [h] at e
  exact List.head?_eq_none_iff.mp e
theorem due_some {cs : List (List Int)} {r : Bool × Bool} {es : List Da} (h : breachD cs r = .tuple es) : ∃ ds, dueD cs r = .tuple es :: ds := by
  have e := due_head cs r
  rw [h] at e
  cases z : dueD cs r with
  | nil =>
    rw [z] at e
    cases e
  | cons d ds =>
    rw [z] at e
    have e : some d = some (PyData.tuple es) := e
    cases e
    exact ⟨ds, rfl⟩
theorem gd_due {cs : List (List Int)} {r : Bool × Bool} : GdAll 2 (dueD cs r) := fun d hd => by
  rcases List.mem_append.mp hd with z | z
  · exact gd_map (fun c _ => gd_tup (gd_cons gd_tupI gd_nil)) d z
  · exact gd_map (fun p _ => gd_tup (gd_cons gd_tupI (gd_cons gd_tupI gd_nil))) d z
/-! ### sizes that the law's own likeness asks -/
theorem al_int {n : Nat} {i : Int} : Al (n + 1) (.int i) := True.intro
theorem al_bl {n : Nat} {i : Bool} : Al (n + 1) (.bool i) := True.intro
theorem al_tup {n : Nat} {xs : List Da} (h : xs.length ≤ 100000) (a : ∀ x ∈ xs, Al n x) : Al (n + 1) (.tuple xs) := ⟨h, a⟩
theorem al_lst {n : Nat} {xs : List Da} (h : xs.length ≤ 100000) (a : ∀ x ∈ xs, Al n x) : Al (n + 1) (.list xs) := ⟨h, a⟩
theorem al_map {α : Type} {n : Nat} {f : α → Da} {xs : List α} (h : ∀ x ∈ xs, Al n (f x)) : ∀ d ∈ xs.map f, Al n d := fun d hd => by
  obtain ⟨x, hx, rfl⟩ := List.mem_map.mp hd
  exact h x hx
theorem al_tupI {n : Nat} {c : List Int} (h : c.length ≤ 100000) : Al (n + 2) (tupI c) := al_tup (by show (c.map PyData.int).length ≤ _; rw [List.length_map]; exact h) (al_map fun _ _ => al_int)
theorem al_wd {n : Nat} {b : Bool} : Al (n + 1) (.str (wd b)) := sh_wd
theorem al_two {n : Nat} {a b : Da} (ha : Al n a) (hb : Al n b) : ∀ x ∈ [a, b], Al n x := fun x hx => by
  rcases List.mem_cons.mp hx with z | z
  · subst z
    exact ha
  · rcases List.mem_cons.mp z with y | y
    · subst y
      exact hb
    · cases y
theorem al_one {n : Nat} {a : Da} (ha : Al n a) : ∀ x ∈ [a], Al n x := fun x hx => by
  rcases List.mem_cons.mp hx with z | z
  · subst z
    exact ha
  · cases z
theorem al_rule {n : Nat} {r : Bool × Bool} : Al (n + 2) (ruleD r) := al_tup (by decide : 2 ≤ 100000) (al_two al_wd al_wd)
theorem al_rules {n : Nat} {rs : List (Bool × Bool)} (h : rs.length ≤ 100000) : Al (n + 3) (.tuple (rs.map ruleD)) := al_tup (by rw [List.length_map]; exact h) (al_map fun _ _ => al_rule)
theorem al_breach {n : Nat} {cs : List (List Int)} {r : Bool × Bool} (h : ∀ c ∈ cs, c.length ≤ 1000) : Al (n + 3) (breachD cs r) := by
  have big : ∀ {c : List Int}, c ∈ cs → Al (n + 2) (tupI c) := fun hc => al_tupI (Nat.le_trans (h _ hc) (by decide))
  unfold breachD
  cases e : firstWrong cs r.1 with
  | some c => exact al_tup (by decide : 1 ≤ 100000) (al_one (big (List.mem_of_find?_eq_some e)))
  | none =>
    have sh : ∀ {b : Bool} {ds : List (List Int)} {p : List Int × List Int}, firstShare b ds = some p → p.1 ∈ ds ∧ p.2 ∈ ds := by
      intro b ds
      induction ds with
      | nil => intro p hp; cases hp
      | cons c r ih =>
        intro p hp
        have hp : (match r.find? (fun d => !(odd (both c d).length == b)) with | some d => some (c, d) | none => firstShare b r) = some p := hp
        cases z : r.find? (fun d => !(odd (both c d).length == b)) with
        | some d =>
          rw [z] at hp
          cases hp
          exact ⟨List.mem_cons_self, List.mem_cons_of_mem _ (List.mem_of_find?_eq_some z)⟩
        | none =>
          rw [z] at hp
          have := ih hp
          exact ⟨List.mem_cons_of_mem _ this.1, List.mem_cons_of_mem _ this.2⟩
    cases e2 : firstShare r.2 cs with
    | none => exact True.intro
    | some p => exact al_tup (by decide : 2 ≤ 100000) (al_two (big (sh e2).1) (big (sh e2).2))
end Ft

/-! part: K07t -/
set_option Elab.async false
set_option linter.all false
set_option maxRecDepth 100000
namespace Ft
open PySem L2
local macro_rules | `(tactic| walk_at "nr") => `(tactic| first | (intro h; cases h; done) | exact jk_nr)
local macro_rules | `(tactic| walk_at "sh") => `(tactic| first | exact sh_int | exact sh_bl | exact sh_non | exact sh_wd | exact sh_odd | exact sh_tupI | exact sh_clubsT | exact sh_clubsL | exact sh_nilL | exact sh_rule | exact sh_rules | assumption)
local macro_rules | `(tactic| walk_at "fb1") => `(tactic| with_reducible first
  | (refine so_seq ?_)
  | (refine so_next ?_)
  | (refine so_ret ?_)
  | (refine so_retN ?_)
  | (refine so_if ?_)
  | (refine' so_append ?he ?_; (case he => (with_unfolding_all exact rfl)))
  | (refine so_drop ?_)
  | (refine thenO_nx ?_)
  | (refine thenO_rt ?_)
  | (refine retO_rt ?_)
  | (refine retO_nx ?_)
  | (refine loopO_nx ?_)
  | (refine loopO_rt ?_)
  | (refine thenO_ct ?_)
  | (refine thenO_bk ?_)
  | (refine loopO_ct ?_)
  | (refine loopO_bk ?_)
  | (refine so_break ?_)
  | (refine so_cont ?_)
  | (refine' so_asg2 ?h2 ?hn ?hm ?_; (case h2 => (with_unfolding_all exact rfl)); (case hn => (with_unfolding_all walk_at "nr")); (case hm => (with_unfolding_all walk_at "nr")))
  | (refine' ae_var ?hv ?_; (case hv => (with_unfolding_all exact rfl)))
  | (refine ae_int ?_)
  | (refine ae_str ?_)
  | (refine ae_bl ?_)
  | (refine ae_non ?_)
  | (refine ae_globD ?_)
  | (refine ae_isI ?_)
  | (refine ae_isB ?_)
  | (refine ae_isT ?_)
  | (refine ae_isL ?_)
  | (refine ae_isS ?_)
  | (refine ae_isTL ?_)
  | (refine ae_op ?_)
  | (refine ae_un ?_)
  | (refine ae_call ?_)
  | (refine ae_cb ?_)
  | (refine ae_tup0 ?_)
  | (refine ae_tup1 ?_)
  | (refine ae_tup2 ?_)
  | (refine ae_lst0 ?_)
  | (refine ae_lst1 ?_)
  | (refine ae_lst2 ?_)
  | (refine ae_tup ?_)
  | (refine ae_andV ?_)
  | (refine ae_orV ?_)
  | (refine ae_notV ?_)
  | (refine ae_ifE ?_)
  | (refine ae_chain ?_)
  | (refine aa_nil ?_)
  | (refine aa_cons ?_)
  | (refine ab_test ?_)
  | (refine ab_val ?_)
  | (refine ab_and ?_)
  | (refine ab_or ?_)
  | (refine ab_not ?_)
  | (refine ab_yes ?_)
  | (refine rr_ltI ?_)
  | (refine rr_ltT ?_)
  | (refine rr_ib ?_)
  | (refine rr_ii ?_)
  | (refine rr_addI ?_)
  | (refine ru_neg ?_)
  | (refine rr_isN ?_)
  | (refine rr_notN ?_)
  | (refine rr_notB ?_)
  | (refine rc_lenL ?_)
  | (refine rc_lenT ?_)
  | (refine rc_tupleL ?_)
  | (refine rc_tupleT ?_)
  | (refine rc_intI ?_)
  | (refine rc_intB ?_)
  | (refine' rr_eqD ?ha ?hb ?_; (case ha => (with_unfolding_all walk_at "sh")); (case hb => (with_unfolding_all walk_at "sh")))
  | (refine' rr_neD ?ha ?hb ?_; (case ha => (with_unfolding_all walk_at "sh")); (case hb => (with_unfolding_all walk_at "sh")))
  | (refine' rr_inT ?ha ?hb ?_; (case ha => (with_unfolding_all walk_at "sh")); (case hb => (with_unfolding_all walk_at "sh")))
  | (refine' rr_inL ?ha ?hb ?_; (case ha => (with_unfolding_all walk_at "sh")); (case hb => (with_unfolding_all walk_at "sh")))
  | (refine' rr_ixT ?ha ?_; (case ha => (with_unfolding_all exact rfl)))
  | (refine' rr_ixL ?ha ?_; (case ha => (with_unfolding_all exact rfl)))
  | (refine' rr_ci ?ha ?_; (case ha => (with_unfolding_all decide)))
  | (refine rf_rc (rf_sortAT ?_))
  | (refine rf_rc (rf_sortAI ?_))
  | (refine ae_callS ?_)
  | (refine ae_dict0 ?_)
  | (refine ⟨_, rfl, ?_⟩)
  | (refine ⟨_, _, rfl, ?_⟩))
local macro_rules | `(tactic| walk_at "fs1") => `(tactic| with_reducible (refine' so_set ?hn ?_; (case hn => (with_unfolding_all walk_at "nr"))))
local macro_rules | `(tactic| walk_at "fb") => `(tactic| repeat (walk_at "fb1"))
local macro_rules | `(tactic| walk_at "ft") => `(tactic| repeat (first | walk_at "fb1" | walk_at "fs1"))
local macro_rules | `(tactic| walk_at "fb1") => `(tactic| with_reducible first
  | (refine use_is_number ?_)
  | (refine use_is_club ?_)
  | (refine use_are_clubs ?_)
  | (refine use_wrong_part ?_)
  | (refine use_is_town ?_)
  | (refine use_check_rule ?_)
  | (refine use_suits ?_)
  | (refine use_wrong_size ?_)
  | (refine use_all_rules ?_))

local macro_rules | `(tactic| walk_at "fb1") => `(tactic| with_reducible first
  | (refine use__law_is_so ?_)
  | (refine use__law_rules ?_)
  | (refine ae_callR ?hr ?_; (case hr => (with_unfolding_all exact rfl))))
/-! ### towns drawn -/
section
variable {P : Program} {w : World} {K : Frg} {mg : Str → Option Value} {base : Heap}
theorem def__law_any_town (F : FunAt K mg "_law_any_town" ["row", "most"] s__law_any_town) (B : Blt mg) (d__law_clubs : DefAt P w K mg base 1 "_law_clubs" ["people"] (spW K W__law_clubs)) (d__law_pick : DefAt P w K mg base 2 "_law_pick" ["row", "things"] (spR K W__law_pick)) (d__law_taken : DefAt P w K mg base 1 "_law_taken" ["row", "many"] (spR K W__law_taken)) : DefAt P w K mg base 3 "_law_any_town" ["row", "most"] (spR K W__law_any_town) := by
  have nd := sc__law_any_town.nd
  refine mk_defR (W := W__law_any_town) F sc__law_any_town (fun ds P hw => len__law_any_town ds P hw) (fun f cdv A outer s H E hr => ⟨_, (pss_cons (ps_set (i := 2) nd rfl (by first | exact Or.inl rfl | exact Or.inr rfl) (pe_op (op_addK (K := K) (by rfl)) pe_int (pe_def d__law_taken (by exact hr.mono (by decide)) (by rfl) (pa_cons (pv 0) (pa_cons (pv 1) pa_nil)))))
    (pss_cons (ps_par (i := 3) (j := 4) rfl nd rfl rfl (by decide) rfl rfl (pa_cons (pe_def d__law_clubs (by exact hr.mono (by decide)) (by rfl) (pa_cons (pv 2) pa_nil)) (pa_cons (pe_lst pa_nil) pa_nil)) (by rfl))
    (pss_cons (ps_for PassesOwn.never rfl (pi_range1 (by rfl) B.m_range (pa_cons (pe_def d__law_taken (by exact hr.mono (by decide)) (by rfl) (pa_cons (pv 0) (pa_cons pe_int pa_nil))) pa_nil)) (pg_name (i := 5) nd rfl (by first | exact Or.inl rfl | exact Or.inr rfl))
    (pss_cons (ps_set (i := 6) nd rfl (by first | exact Or.inl rfl | exact Or.inr rfl) (pe_def d__law_pick (by exact hr.mono (by decide)) (by rfl) (pa_cons (pv 0) (pa_cons (pv 3) pa_nil))))
    (pss_one (ps_set (i := 4) nd rfl (by first | exact Or.inl rfl | exact Or.inr rfl) (pe_op (op_addK (K := K) (by rfl)) (pv 4) (pe_ifExp (pt_cmpR (op_notInK (K := K) (by rfl) (by exact un65 hr)) (pv 6) (pv 4) (by rfl)) (pe_lst (pa_cons (pv 6) pa_nil)) (pe_lst pa_nil)))))))
    (pss_one (ps_ret (pe_tup (pa_cons (pv 2) (pa_cons (pe_callTy (call_tupK (K := K) (by rfl)) (by rfl) B.m_tuple (by decide +kernel) (pa_cons (pe_callB (call_sortAK (K := K) (by rfl) (by exact hr.units)) (by rfl) B.m_sorted (by decide +kernel) (pa_cons (pv 4) pa_nil)) pa_nil)) pa_nil)))))))), fun ds P hw => ?_⟩)
  try dsimp only [cxOf]
  obtain ⟨m, rfl, m1, m6, p⟩ := hw
  show SO K _ [.row, .dat (.int m), .un, .un, .un, .un, .un] _
  walk_at "ft"
  refine ⟨_, rfl, by omega, by omega, fun i i0 i1 => ?_⟩
  walk_at "ft"
  obtain ⟨k, ek, k1, km⟩ : ∃ k : Nat, 1 + i = (k : Int) ∧ 1 ≤ k ∧ (k : Int) ≤ m := ⟨(1 + i).toNat, by omega, by omega, by omega⟩
  rw [ek]
  refine so_par (by walk_at "nr") (by walk_at "nr") (by decide) ?_
  walk_at "ft"
  refine ⟨k, rfl, by omega, ?_⟩
  walk_at "ft"
  refine so_for (is := [5]) (ai_rng1 ?_)
  walk_at "ft"
  refine ⟨_, rfl, by decide, by decide, fun j j0 j1 => ?_⟩
  walk_at "ft"
  refine ⟨by omega, ?_⟩
  have h2 : 2 ^ k ≤ 2 ^ 8 := Nat.pow_le_pow_right (by decide) (by omega)
  have hlen : (clubs (allC k)).length = 2 ^ k := by rw [List.length_map, allC_len]
  refine loop_by (fun i : Nat => PyData.int (i : Int)) (fun xs ρ => ∃ cs o1 o2, ρ = [.row, .dat (.int m), .dat (.int (k : Int)), .dat (.list (clubs (allC k))), .dat (.list (clubs cs)), jk o1, jk o2] ∧ (∀ c ∈ cs, c ∈ allC k) ∧ cs.Nodup ∧ cs.length + xs.length ≤ 5) ?_ ?_ _ _ ⟨[], none, none, rfl, fun c h => absurd h (by simp), List.nodup_nil, by rw [List.length_range]; simp; omega⟩
  · rintro x xs _ ⟨cs, o1, o2, rfl, hs, hn, hl⟩
    rw [List.length_cons] at hl
    refine ⟨_, at_name (by walk_at "nr"), ?_⟩
    show SO K _ [.row, .dat (.int m), .dat (.int (k : Int)), .dat (.list (clubs (allC k))), .dat (.list (clubs cs)), .dat (.int (x : Int)), jk o2] _
    walk_at "ft"
    have pos : 0 < 2 ^ k := Nat.pow_pos (by decide)
    refine ⟨_, rfl, by rw [hlen]; exact pos, by rw [hlen]; omega, fun d hd => ?_⟩
    obtain ⟨c, hc, rfl⟩ := List.mem_map.mp hd
    walk_at "ft"
    rw [any_club]
    have small : ∀ {n : Nat}, n ≤ 1000 → n ≤ sizeLine := fun h => Nat.le_trans h (by decide)
    by_cases hm : c ∈ cs
    · refine wayF (by simp [hm]) ?_
      walk_at "ft"
      refine rr_addL (small (by rw [List.length_map]; simp; omega)) ?_
      walk_at "ft"
      rw [List.append_nil]
      exact ⟨cs, some (.int (x : Int)), some (tupI c), rfl, hs, hn, by omega⟩
    · refine wayT (by simp [hm]) ?_
      walk_at "ft"
      refine rr_addL (small (by rw [List.length_map]; simp; omega)) ?_
      walk_at "ft"
      have e3 := clubs_snoc (cs := cs) (c := c)
      rw [e3]
      refine ⟨cs ++ [c], some (.int (x : Int)), some (tupI c), rfl, fun d hd => ?_, ?_, by rw [List.length_append]; simp; omega⟩
      · rcases List.mem_append.mp hd with z | z
        · exact hs d z
        · rw [List.mem_singleton.mp z]
          exact hc
      · rw [List.nodup_append]
        exact ⟨hn, by simp, fun a ha b hb => by rw [List.mem_singleton.mp hb]; exact fun z => hm (by rw [← z]; exact ha)⟩
  · rintro _ ⟨cs, o1, o2, rfl, hs, hn, hl⟩
    walk_at "ft"
    intro out pm pw
    walk_at "ft"
    exact p (k : Int) out km (mk_town k1 (by omega) hs hn pm pw) (by rw [pm.length_eq]; simp at hl; omega)
end
end Ft

/-! part: K07s -/
set_option Elab.async false
set_option linter.all false
set_option maxRecDepth 100000
namespace Ft
open PySem L2
/-! ### what a text tells -/
abbrev BadAt := Int × Int
abbrev Told (α : Type) := Sum BadAt α
def figIx (w : Sg) : Option Nat := match w with
  | [c] => if 48 ≤ c ∧ c ≤ 56 then some (c - 48) else none
  | _ => none
def inFig (w : Sg) (a b : Nat) : Option Nat := match figIx w with
  | some j => if a ≤ j ∧ j < b then some j else none
  | none => none
def peopleW : Sg := [112, 101, 111, 112, 108, 101]
def clubW : Sg := [99, 108, 117, 98]
def dig (j : Nat) : Sg := [48 + j]
def peopleT (k : Int) : List Sg → Told Nat
  | [] => .inl (k, 1)
  | w :: r => if w = peopleW then match r with
      | [] => .inl (k, 2)
      | x :: y => match inFig x 1 9 with
        | none => .inl (k, 2)
        | some j => if y.isEmpty then .inr j else .inl (k, 3)
    else .inl (k, 1)
def clubGo (k : Int) (n : Nat) : Nat → Nat → List Int → List Sg → Told (List Int)
  | _, _, acc, [] => .inr acc
  | p, lo, acc, w :: r => match inFig w lo n with
    | none => .inl (k, p)
    | some j => clubGo k n (p + 1) (j + 1) (acc ++ [(j : Int)]) r
def clubT (k : Int) (n : Nat) : List Sg → Told (List Int)
  | [] => .inl (k, 1)
  | w :: r => if w = clubW then clubGo k n 2 0 [] r else .inl (k, 1)
def lastLt (ch : List (List Int)) (c : List Int) : Bool := match ch.getLast? with
  | none => true
  | some d => HT.lexLt d c
def clubsT (n : Nat) : List (Nat × List Sg) → List (List Int) → Told (List (List Int))
  | [], acc => .inr acc
  | (k, ws) :: r, acc => match clubT k n ws with
    | .inl e => .inl e
    | .inr c => if lastLt acc c = true then clubsT n r (acc ++ [c]) else .inl (k, 1)
def readT (t : Sg) : Told (Nat × List (List Int)) := match linesL t with
  | [] => .inl (((splitL 10 t).length + 1 : Nat), 1)
  | (k, ws) :: r => match peopleT k ws with
    | .inl e => .inl e
    | .inr n => match clubsT n r [] with
      | .inl e => .inl e
      | .inr cs => .inr (n, cs)
/-! ### the text of a town -/
def lineP (n : Nat) : List Sg := [peopleW, dig n]
def lineC (c : List Int) : List Sg := clubW :: c.map fun p => dig p.toNat
def textL (n : Nat) (cs : List (List Int)) : Sg := joinL 10 (joinL 32 (lineP n) :: cs.map fun c => joinL 32 (lineC c))
/-- a word that may be written -/
structure Wd (w : Sg) : Prop where
  sp : 32 ∉ w
  nl : 10 ∉ w
  ne : w ≠ []
theorem wd_dig (j : Nat) : Wd (dig j) := ⟨by simp [dig]; omega, by simp [dig]; omega, by simp [dig]⟩
theorem wd_people : Wd peopleW := ⟨by decide, by decide, by decide⟩
theorem wd_club : Wd clubW := ⟨by decide, by decide, by decide⟩
theorem wd_lineP (n : Nat) : ∀ w ∈ lineP n, Wd w := fun w h => by
  simp only [lineP, List.mem_cons, List.not_mem_nil, or_false] at h
  rcases h with rfl | rfl
  · exact wd_people
  · exact wd_dig n
theorem wd_lineC (c : List Int) : ∀ w ∈ lineC c, Wd w := fun w h => by
  rcases List.mem_cons.mp h with rfl | h
  · exact wd_club
  · obtain ⟨p, _, rfl⟩ := List.mem_map.mp h
    exact wd_dig _
theorem mem_joinL {c x : Nat} : ∀ {ps : List Sg}, x ∈ joinL c ps → x = c ∨ ∃ p ∈ ps, x ∈ p
  | [], h => by cases h
  | [p], h => .inr ⟨p, List.mem_cons_self, h⟩
  | p :: q :: r, h => by
    rcases List.mem_append.mp (show x ∈ p ++ c :: joinL c (q :: r) from h) with z | z
    · exact .inr ⟨p, List.mem_cons_self, z⟩
    · rcases List.mem_cons.mp z with rfl | z
      · exact .inl rfl
      · rcases mem_joinL z with e | ⟨p', hp, y⟩
        · exact .inl e
        · exact .inr ⟨p', List.mem_cons_of_mem _ hp, y⟩
theorem words_join {ws : List Sg} (n : ws ≠ []) (h : ∀ w ∈ ws, Wd w) : wordsL (joinL 32 ws) = ws := by
  unfold wordsL
  rw [split_joinL n fun w hw => (h w hw).sp, List.filter_eq_self]
  intro w hw
  have := (h w hw).ne
  cases w with
  | nil => exact absurd rfl this
  | cons a b => rfl
theorem nl_join {ws : List Sg} (h : ∀ w ∈ ws, Wd w) : 10 ∉ joinL 32 ws := fun z => by
  rcases mem_joinL z with e | ⟨p, hp, y⟩
  · cases e
  · exact (h p hp).nl y
theorem wlines_text (n : Nat) (cs : List (List Int)) : wlines (textL n cs) = lineP n :: cs.map lineC := by
  unfold wlines textL
  rw [split_joinL (by simp) fun p hp => ?_]
  · rw [List.map_cons, List.map_map, words_join (by simp [lineP]) (wd_lineP n)]
    have e : cs.map (wordsL ∘ fun c => joinL 32 (lineC c)) = cs.map lineC := List.map_congr_left fun c _ => words_join (by simp [lineC]) (wd_lineC c)
    rw [e, List.filter_eq_self]
    intro ws hw
    rcases List.mem_cons.mp hw with rfl | hw
    · rfl
    · obtain ⟨c, _, rfl⟩ := List.mem_map.mp hw
      rfl
  · rcases List.mem_cons.mp hp with rfl | hp
    · exact nl_join (wd_lineP n)
    · obtain ⟨c, _, rfl⟩ := List.mem_map.mp hp
      exact nl_join (wd_lineC c)
/-! ### what is written is read -/
theorem inFig_dig {j a b : Nat} (h : j ≤ 8) (ha : a ≤ j) (hb : j < b) : inFig (dig j) a b = some j := by
  have e : figIx (dig j) = some j := by
    show (if 48 ≤ 48 + j ∧ 48 + j ≤ 56 then some (48 + j - 48) else none) = some j
    rw [if_pos ⟨by omega, by omega⟩, Nat.add_sub_cancel_left]
  unfold inFig
  rw [e]
  exact if_pos ⟨ha, hb⟩
theorem clubGo_is {k : Int} {n : Nat} (hn : n ≤ 8) : ∀ (c : List Int) (p lo : Nat) (acc : List Int), ascI c ((lo : Int) - 1) (n : Int) = true → clubGo k n p lo acc (c.map fun p => dig p.toNat) = .inr (acc ++ c)
  | [], _, _, acc, _ => by rw [List.append_nil]; rfl
  | q :: r, p, lo, acc, h => by
    simp only [ascI, Bool.and_eq_true, decide_eq_true_eq] at h
    obtain ⟨⟨h1, h2⟩, h3⟩ := h
    have ih := clubGo_is (k := k) hn r (p + 1) (q.toNat + 1) (acc ++ [q]) (by
      have e : ((q.toNat + 1 : Nat) : Int) - 1 = q := by omega
      rw [e]
      exact h3)
    rw [List.map_cons, clubGo, inFig_dig (j := q.toNat) (by omega) (by omega) (by omega)]
    have e : ((q.toNat : Nat) : Int) = q := by omega
    show clubGo k n (p + 1) (q.toNat + 1) (acc ++ [((q.toNat : Nat) : Int)]) _ = _
    rw [e, ih, List.append_assoc]
    rfl
theorem clubT_is {k : Int} {n : Nat} (hn : n ≤ 8) {c : List Int} (h : ascI c (-1) (n : Int) = true) : clubT k n (lineC c) = .inr c := by
  unfold clubT lineC
  dsimp only
  rw [if_pos rfl, clubGo_is hn c 2 0 [] h]
  rfl
theorem lastLt_snoc (acc : List (List Int)) (c d : List Int) : lastLt (acc ++ [c]) d = HT.lexLt c d := by
  unfold lastLt
  rw [List.getLast?_append]
  rfl
theorem clubsT_is {n : Nat} (hn : n ≤ 8) : ∀ (cs : List (List Int)) (r : List (Nat × List Sg)) (acc : List (List Int)), r.map (·.2) = cs.map lineC → (∀ c ∈ cs, ascI c (-1) (n : Int) = true) → ascL cs = true → (∀ c t, cs = c :: t → lastLt acc c = true) → clubsT n r acc = .inr (acc ++ cs)
  | [], r, acc, e, _, _, _ => by
    have er : r = [] := by simpa using e
    subst er
    rw [List.append_nil]
    rfl
  | c :: cs, r, acc, e, hc, ha, hl => by
    cases r with
    | nil => cases e
    | cons p r =>
      obtain ⟨k, ws⟩ := p
      rw [List.map_cons, List.map_cons] at e
      obtain ⟨e1, e2⟩ := List.cons.inj e
      have e1 : ws = lineC c := e1
      subst e1
      have ha' : ascL cs = true ∧ ∀ d t, cs = d :: t → HT.lexLt c d = true := by
        cases cs with
        | nil => exact ⟨rfl, fun d t z => by cases z⟩
        | cons d t =>
          have h : (HT.lexLt c d && ascL (d :: t)) = true := ha
          rw [Bool.and_eq_true] at h
          exact ⟨h.2, fun d' t' z => by cases z; exact h.1⟩
      have ih := clubsT_is hn cs r (acc ++ [c]) e2 (fun d hd => hc d (List.mem_cons_of_mem _ hd)) ha'.1 (fun d t z => by rw [lastLt_snoc]; exact ha'.2 d t z)
      rw [clubsT, clubT_is hn (hc c List.mem_cons_self)]
      dsimp only
      rw [if_pos (hl c cs rfl), ih, List.append_assoc]
      rfl
theorem read_of {t : Sg} {n : Nat} {cs : List (List Int)} (T : Town (n : Int) cs) (h : wlines t = lineP n :: cs.map lineC) : readT t = .inr (n, cs) := by
  have h8 : n ≤ 8 := by have := T.hi; omega
  have h1 : 1 ≤ n := by have := T.lo; omega
  have e := lines_snd t
  rw [h] at e
  unfold readT
  cases hl : linesL t with
  | nil => rw [hl] at e; cases e
  | cons p r =>
    obtain ⟨k, ws⟩ := p
    rw [hl, List.map_cons] at e
    obtain ⟨e1, e2⟩ := List.cons.inj e
    have e1 : ws = lineP n := e1
    subst e1
    have ep : peopleT k (lineP n) = .inr n := by
      unfold peopleT lineP
      dsimp only
      rw [if_pos rfl, inFig_dig h8 h1 (by omega)]
      rfl
    dsimp only
    rw [ep]
    dsimp only
    rw [clubsT_is h8 cs r [] e2 T.all T.asc fun c t _ => rfl]
    rfl
theorem read_text {n : Nat} {cs : List (List Int)} (T : Town (n : Int) cs) : readT (textL n cs) = .inr (n, cs) := read_of T (wlines_text n cs)
theorem read_loose {n : Nat} {cs : List (List Int)} {a b c d : Sg} (T : Town (n : Int) cs) (ha : a ∈ [[], [32], [10], [32, 10, 32]]) (hb : b ∈ [[32], [32, 32, 32]]) (hc : c ∈ [[10], [32, 10], [10, 10], [10, 32, 32]]) (hd : d ∈ [[], [32], [10]]) : readT (looseT a b c d (textL n cs)) = .inr (n, cs) :=
  read_of T ((wlines_loose ha hb hc hd).trans (wlines_text n cs))
end Ft

/-! part: K07p -/
set_option Elab.async false
set_option linter.all false
set_option maxRecDepth 100000
set_option pp.maxSteps 1500
set_option maxHeartbeats 0
namespace Ft
open PySem L2
local macro_rules | `(tactic| walk_at "nr") => `(tactic| first | (intro h; cases h; done) | exact jk_nr)
local macro_rules | `(tactic| walk_at "sh") => `(tactic| first | exact sh_int | exact sh_bl | exact sh_non | exact sh_wd | exact sh_odd | exact sh_tupI | exact sh_clubsT | exact sh_clubsL | exact sh_nilL | exact sh_rule | exact sh_rules | assumption)
local macro_rules | `(tactic| walk_at "fb1") => `(tactic| with_reducible first
  | (refine so_seq ?_)
  | (refine so_next ?_)
  | (refine so_ret ?_)
  | (refine so_retN ?_)
  | (refine so_if ?_)
  | (refine' so_append ?he ?_; (case he => (with_unfolding_all exact rfl)))
  | (refine so_drop ?_)
  | (refine thenO_nx ?_)
  | (refine thenO_rt ?_)
  | (refine retO_rt ?_)
  | (refine retO_nx ?_)
  | (refine loopO_nx ?_)
  | (refine loopO_rt ?_)
  | (refine thenO_ct ?_)
  | (refine thenO_bk ?_)
  | (refine loopO_ct ?_)
  | (refine loopO_bk ?_)
  | (refine so_break ?_)
  | (refine so_cont ?_)
  | (refine' so_asg2 ?h2 ?hn ?hm ?_; (case h2 => (with_unfolding_all exact rfl)); (case hn => (with_unfolding_all walk_at "nr")); (case hm => (with_unfolding_all walk_at "nr")))
  | (refine' ae_var ?hv ?_; (case hv => (with_unfolding_all exact rfl)))
  | (refine ae_int ?_)
  | (refine ae_str ?_)
  | (refine ae_bl ?_)
  | (refine ae_non ?_)
  | (refine ae_globD ?_)
  | (refine ae_isI ?_)
  | (refine ae_isB ?_)
  | (refine ae_isT ?_)
  | (refine ae_isL ?_)
  | (refine ae_isS ?_)
  | (refine ae_isTL ?_)
  | (refine ae_op ?_)
  | (refine ae_un ?_)
  | (refine ae_call ?_)
  | (refine ae_cb ?_)
  | (refine ae_tup0 ?_)
  | (refine ae_tup1 ?_)
  | (refine ae_tup2 ?_)
  | (refine ae_lst0 ?_)
  | (refine ae_lst1 ?_)
  | (refine ae_lst2 ?_)
  | (refine ae_tup ?_)
  | (refine ae_andV ?_)
  | (refine ae_orV ?_)
  | (refine ae_notV ?_)
  | (refine ae_ifE ?_)
  | (refine ae_chain ?_)
  | (refine aa_nil ?_)
  | (refine aa_cons ?_)
  | (refine ab_test ?_)
  | (refine ab_val ?_)
  | (refine ab_and ?_)
  | (refine ab_or ?_)
  | (refine ab_not ?_)
  | (refine ab_yes ?_)
  | (refine rr_ltI ?_)
  | (refine rr_ltT ?_)
  | (refine rr_ib ?_)
  | (refine rr_ii ?_)
  | (refine rr_addI ?_)
  | (refine ru_neg ?_)
  | (refine rr_isN ?_)
  | (refine rr_notN ?_)
  | (refine rr_notB ?_)
  | (refine rc_lenL ?_)
  | (refine rc_lenT ?_)
  | (refine rc_tupleL ?_)
  | (refine rc_tupleT ?_)
  | (refine rc_intI ?_)
  | (refine rc_intB ?_)
  | (refine' rr_eqD ?ha ?hb ?_; (case ha => (with_unfolding_all walk_at "sh")); (case hb => (with_unfolding_all walk_at "sh")))
  | (refine' rr_neD ?ha ?hb ?_; (case ha => (with_unfolding_all walk_at "sh")); (case hb => (with_unfolding_all walk_at "sh")))
  | (refine' rr_inT ?ha ?hb ?_; (case ha => (with_unfolding_all walk_at "sh")); (case hb => (with_unfolding_all walk_at "sh")))
  | (refine' rr_inL ?ha ?hb ?_; (case ha => (with_unfolding_all walk_at "sh")); (case hb => (with_unfolding_all walk_at "sh")))
  | (refine' rr_ixT ?ha ?_; (case ha => (with_unfolding_all exact rfl)))
  | (refine' rr_ixL ?ha ?_; (case ha => (with_unfolding_all exact rfl)))
  | (refine' rr_ci ?ha ?_; (case ha => (with_unfolding_all decide)))
  | (refine rf_rc (rf_sortAT ?_))
  | (refine rf_rc (rf_sortAI ?_))
  | (refine ae_callS ?_)
  | (refine ae_dict0 ?_)
  | (refine ⟨_, rfl, ?_⟩)
  | (refine ⟨_, _, rfl, ?_⟩))
local macro_rules | `(tactic| walk_at "fs1") => `(tactic| with_reducible (refine' so_set ?hn ?_; (case hn => (with_unfolding_all walk_at "nr"))))
local macro_rules | `(tactic| walk_at "fb") => `(tactic| repeat (walk_at "fb1"))
local macro_rules | `(tactic| walk_at "ft") => `(tactic| repeat (first | walk_at "fb1" | walk_at "fs1"))
local macro_rules | `(tactic| walk_at "fb1") => `(tactic| with_reducible first
  | (refine use_is_number ?_)
  | (refine use_is_club ?_)
  | (refine use_are_clubs ?_)
  | (refine use_wrong_part ?_)
  | (refine use_is_town ?_)
  | (refine use_check_rule ?_)
  | (refine use_suits ?_)
  | (refine use_wrong_size ?_)
  | (refine use_all_rules ?_))

/-! ### strings as data -/
def encW (w : Sg) : Da := .str (ofL w)
def encWs (ws : List Sg) : Da := .list (ws.map encW)
def encLine (p : Nat × List Sg) : Da := .tuple [.int (p.1 : Int), encWs p.2]
def FIGS : List Str := ["0", "1", "2", "3", "4", "5", "6", "7", "8"]
abbrev C_FIGURES : Da := .tuple (FIGS.map .str)
theorem figs_is : FIGS = (List.range 9).map fun j => ofL (dig j) := by decide +kernel
theorem sp_is : ((" " : Str)) = ⟨#[32]⟩ := by decide +kernel
theorem nl_is : (("\n" : Str)) = ⟨#[10]⟩ := by decide +kernel
theorem club_is : (("club" : Str)) = ofL clubW := by decide +kernel
theorem people_is : (("people" : Str)) = ofL peopleW := by decide +kernel
theorem peopleS_is : (("people " : Str)) = ofL (peopleW ++ [32]) := by decide +kernel
theorem empty_is : (("" : Str)) = ofL [] := by decide +kernel
theorem str_digs : ∀ j : _root_.Fin 9, ((toString ((j.val : Nat) : Int) : String) : Str) = ofL (dig j.val) := by decide +kernel
theorem str_dig {p : Int} (h0 : 0 ≤ p) (h8 : p ≤ 8) : ((toString p : String) : Str) = ofL (dig p.toNat) := by
  have h := str_digs ⟨p.toNat, by omega⟩
  have e : ((p.toNat : Nat) : Int) = p := by omega
  simpa only [e] using h
theorem small_log {p : Int} (h0 : 0 ≤ p) (h8 : p ≤ 8) : p.natAbs.log2 < 1920 := by
  have : p.natAbs ≤ 8 := by omega
  have h := Nat.log2_le_self p.natAbs
  omega
theorem len_dig (j : Nat) : (dig j).length = 1 := rfl
theorem map_enc (ws : List Sg) : ws.map encW = (ws.map ofL).map .str := by rw [List.map_map]; rfl
theorem joinL_len (c : Nat) : ∀ ps : List Sg, (joinL c ps).length ≤ (ps.map (·.length)).sum + ps.length
  | [] => Nat.le_refl _
  | [p] => by simp [joinL]
  | p :: q :: r => by
    have ih := joinL_len c (q :: r)
    show (p ++ c :: joinL c (q :: r)).length ≤ _
    rw [List.length_append, List.length_cons, List.map_cons, List.sum_cons, List.length_cons]
    omega
theorem lineC_len (c : List Int) : (joinL 32 (lineC c)).length ≤ 5 + 2 * c.length := by
  refine Nat.le_trans (joinL_len 32 _) ?_
  have e : ((lineC c).map (·.length)).sum = 4 + c.length := by
    show (clubW.length + ((c.map fun p => dig p.toNat).map (·.length)).sum) = _
    rw [List.map_map, show ((fun x : Sg => x.length) ∘ fun p : Int => dig p.toNat) = fun _ => 1 from rfl, List.map_const', List.sum_replicate_nat]
    show 4 + _ = _
    omega
  rw [e]
  show 4 + c.length + (c.map fun p => dig p.toNat).length.succ ≤ _
  rw [List.length_map]
  omega
theorem sum_le (k : Nat) : ∀ ns : List Nat, (∀ n ∈ ns, n ≤ k) → ns.sum ≤ ns.length * k
  | [], _ => by simp
  | n :: ns, h => by
    have ih := sum_le k ns fun m hm => h m (List.mem_cons_of_mem _ hm)
    have := h n List.mem_cons_self
    rw [List.sum_cons, List.length_cons, Nat.succ_mul]
    omega
section
variable {P : Program} {w : World} {K : Frg} {mg : Str → Option Value} {base : Heap}
def W_club_line : WP := fun ds P => ∃ c : List Int, ds = [tupI c] ∧ (∀ p ∈ c, 0 ≤ p ∧ p ≤ 8) ∧ c.length ≤ 100 ∧ P (encW (joinL 32 (lineC c)))
theorem len_club_line : ∀ ds P, W_club_line ds P → ds.length = 1 := by rintro ds P ⟨c, rfl, -⟩; rfl
theorem def_club_line (F : FunAt K mg "club_line" ["club"] s_club_line) (B : Blt mg)  : DefAt P w K mg base 1 "club_line" ["club"] (spW K W_club_line) := by
  have nd := sc_club_line.nd
  refine mk_def (W := W_club_line) F sc_club_line (fun ds P hw => len_club_line ds P hw) (fun f cdv A outer s H E hr => ⟨_, (pss_one (ps_ret (pe_joinK (K := K) (by rfl) pe_str (pe_op (op_addK (K := K) (by rfl)) (pe_lst (pa_cons pe_str pa_nil)) (pe_lc (own := [("person", 1)]) rfl nd (pi_seqK (K := K) (by rfl) (pv 0)) (blkOk_by (N := N_club_line) (sc := (defScope s_club_line)) (by decide +kernel)) (fun _ _ _ _ _ => (pg_name (i := 1) nd rfl (by first | exact Or.inl rfl | exact Or.inr rfl))) (fun _ _ _ _ _ => pts_nil) (fun _ _ _ _ _ => (pe_callTy call_strI (by rfl) B.m_str (by decide +kernel) (pa_cons (pv 1) pa_nil)))))))), fun ds P hw => ?_⟩)
  try dsimp only [cxOf]
  obtain ⟨c, rfl, hc, hl, p⟩ := hw
  show SO K _ [.dat (tupI c), .un] _
  refine so_ret (ae_join (ae_str ⟨_, rfl, ?_⟩))
  refine ae_op (ae_lst1 (ae_str ?_))
  refine af_ae (af_lc (is := [1]) (ai_seqT ?_) (by decide))
  walk_at "ft"
  refine ⟨by simp only [nums, List.length_map]; omega, ?_⟩
  refine comp_fm PyData.int (fun _ => true) (fun p => .str (ofL (dig p.toNat))) c (fun x hx => ⟨_, at_name (by walk_at "nr"), ab_yes rfl, fun _ => ?_⟩) ?_
  · show AE K _ [.dat (tupI c), .dat (.int x)] _
    refine ae_cb (aa_cons (ae_var (i := 1) rfl (aa_nil (rc_strI (small_log (hc x hx).1 (hc x hx).2) ?_))))
    rw [str_dig (hc x hx).1 (hc x hx).2]
  · rw [List.filter_eq_self.mpr fun _ _ => rfl]
    have e : [PyData.str "club"] ++ c.map (fun p => PyData.str (ofL (dig p.toNat))) = ((lineC c).map ofL).map .str := by
      rw [club_is, List.map_map]
      show _ = PyData.str (ofL clubW) :: (c.map fun p => dig p.toNat).map _
      rw [List.map_map]
      rfl
    refine rr_addL (by rw [List.length_map]; show 1 + c.length ≤ 16777216; omega) ?_
    rw [e]
    refine ⟨_, rfl, ?_, ?_⟩
    · have h := sum_le 4 (((lineC c).map ofL).map (·.length)) (fun n hn => by
        rw [List.map_map] at hn
        obtain ⟨w, hw, rfl⟩ := List.mem_map.mp hn
        show (ofL w).length ≤ 4
        rw [len_ofL]
        rcases List.mem_cons.mp hw with rfl | hw
        · decide
        · obtain ⟨q, _, rfl⟩ := List.mem_map.mp hw
          exact Nat.le_trans (Nat.le_of_eq (len_dig _)) (by decide))
      have h2 : ((lineC c).map ofL).length = c.length + 1 := by simp [lineC]
      rw [List.length_map, h2] at h
      rw [h2, sp_is]
      show _ + (c.length + 1) * 1 ≤ _
      omega
    · rw [sp_is, join_list]
      exact p
def W_write_town : WP := fun ds P => ∃ (n : Nat) (cs : List (List Int)), ds = [townD (n : Int) cs] ∧ Town (n : Int) cs ∧ cs.length ≤ 60 ∧ P (encW (textL n cs))
theorem len_write_town : ∀ ds P, W_write_town ds P → ds.length = 1 := by rintro ds P ⟨n, cs, rfl, -⟩; rfl
theorem def_write_town (F : FunAt K mg "write_town" ["town"] s_write_town) (B : Blt mg) (d_check_town : DefAt P w K mg base 5 "check_town" ["value"] (spW K W_check_town)) (d_club_line : DefAt P w K mg base 1 "club_line" ["club"] (spW K W_club_line)) : DefAt P w K mg base 6 "write_town" ["town"] (spW K W_write_town) := by
  have nd := sc_write_town.nd
  refine mk_def (W := W_write_town) F sc_write_town (fun ds P hw => len_write_town ds P hw) (fun f cdv A outer s H E hr => ⟨_, (pss_cons (ps_expr (pe_def d_check_town (by exact hr.mono (by decide)) (by rfl) (pa_cons (pv 0) pa_nil)))
    (pss_cons (ps_asg (pv 0) (pg_tupK (K := K) (n := 2) (by rfl) rfl (pgs_cons (pg_name (i := 1) nd rfl (by first | exact Or.inl rfl | exact Or.inr rfl)) (pgs_cons (pg_name (i := 2) nd rfl (by first | exact Or.inl rfl | exact Or.inr rfl)) pgs_nil))))
    (pss_one (ps_ret (pe_joinK (K := K) (by rfl) pe_str (pe_op (op_addK (K := K) (by rfl)) (pe_lst (pa_cons (pe_joined (PJ.cons pe_str (PJ.cons (pe_fmt (pv 1)) PJ.nil))) pa_nil)) (pe_lc (own := [("club", 3)]) rfl nd (pi_seqK (K := K) (by rfl) (pv 2)) (blkOk_by (N := N_write_town) (sc := (defScope s_write_town)) (by decide +kernel)) (fun _ _ _ _ _ => (pg_name (i := 3) nd rfl (by first | exact Or.inl rfl | exact Or.inr rfl))) (fun _ _ _ _ _ => pts_nil) (fun _ _ _ _ _ => (pe_def d_club_line (by exact hr.mono (by decide)) (by rfl) (pa_cons (pv 3) pa_nil)))))))))), fun ds P hw => ?_⟩)
  try dsimp only [cxOf]
  obtain ⟨n, cs, rfl, T, hl, p⟩ := hw
  have n1 := T.lo
  have n8 := T.hi
  have small : ∀ c ∈ cs, (∀ p ∈ c, 0 ≤ p ∧ p ≤ 8) ∧ c.length ≤ 9 := fun c hc => ⟨fun p hp => by
    have := ascI_mem (T.all c hc) hp
    omega, by
    have := ascI_len (T.all c hc) (by omega)
    omega⟩
  show SO K _ [.dat (townD (n : Int) cs), .un, .un, .un] _
  refine so_seq (so_drop (ae_call ?_))
  walk_at "ft"
  refine ⟨_, rfl, T.ok, ?_⟩
  refine thenO_nx ?_
  walk_at "ft"
  refine ae_join (ae_str ⟨_, rfl, ?_⟩)
  refine ae_op (ae_lst1 (ae_two (ae_str ⟨_, rfl, by decide +kernel, ?_⟩)))
  refine ae_fmtI (ae_var (i := 1) rfl ⟨_, rfl, small_log (by omega) n8, ?_⟩)
  rw [str_dig (by omega) n8, peopleS_is, show ((n : Int)).toNat = n by omega]
  refine ⟨_, rfl, by rw [ofL_app, len_ofL]; exact (show 8 ≤ 16777216 by decide), ?_⟩
  rw [ofL_app]
  refine af_ae (af_lc (is := [3]) (ai_seqT ?_) (by decide))
  walk_at "ft"
  refine ⟨by rw [List.length_map]; omega, ?_⟩
  refine comp_fm tupI (fun _ => true) (fun c => encW (joinL 32 (lineC c))) cs (fun x hx => ⟨_, at_name (by walk_at "nr"), ab_yes rfl, fun _ => ?_⟩) ?_
  · show AE K _ [.dat (townD (n : Int) cs), .dat (.int (n : Int)), .dat (.tuple (clubs cs)), .dat (tupI x)] _
    refine ae_call (aa_cons (ae_var (i := 3) rfl (aa_nil ⟨x, rfl, (small x hx).1, by have := (small x hx).2; omega, rfl⟩)))
  · rw [List.filter_eq_self.mpr fun _ _ => rfl]
    have e : [PyData.str (ofL (peopleW ++ [32] ++ dig n))] ++ cs.map (fun c => encW (joinL 32 (lineC c))) = ((joinL 32 (lineP n) :: cs.map fun c => joinL 32 (lineC c)).map ofL).map .str := by
      rw [List.map_cons, List.map_cons, List.map_map, List.map_map]
      rfl
    refine rr_addL (by rw [List.length_map]; show 1 + cs.length ≤ 16777216; omega) ?_
    rw [e]
    refine ⟨_, rfl, ?_, ?_⟩
    · have h := sum_le 23 (((joinL 32 (lineP n) :: cs.map fun c => joinL 32 (lineC c)).map ofL).map (·.length)) (fun m hm => by
        rw [List.map_map] at hm
        obtain ⟨w, hw, rfl⟩ := List.mem_map.mp hm
        show (ofL w).length ≤ 23
        rw [len_ofL]
        rcases List.mem_cons.mp hw with rfl | hw
        · show 8 ≤ 23
          decide
        · obtain ⟨c, hc, rfl⟩ := List.mem_map.mp hw
          have := lineC_len c
          have := (small c hc).2
          omega)
      have h2 : ((joinL 32 (lineP n) :: cs.map fun c => joinL 32 (lineC c)).map ofL).length = cs.length + 1 := by simp
      rw [List.length_map, h2] at h
      rw [h2, nl_is]
      show _ + (cs.length + 1) * 1 ≤ _
      omega
    · rw [nl_is, join_list]
      exact p
end
end Ft

/-! part: K07q -/
set_option Elab.async false
set_option linter.all false
set_option maxRecDepth 100000
set_option pp.maxSteps 1500
set_option maxHeartbeats 0
namespace Ft
open PySem L2
local macro_rules | `(tactic| walk_at "nr") => `(tactic| first | (intro h; cases h; done) | exact jk_nr)
local macro_rules | `(tactic| walk_at "sh") => `(tactic| first | exact sh_int | exact sh_bl | exact sh_non | exact sh_wd | exact sh_odd | exact sh_tupI | exact sh_clubsT | exact sh_clubsL | exact sh_nilL | exact sh_rule | exact sh_rules | assumption)
local macro_rules | `(tactic| walk_at "fb1") => `(tactic| with_reducible first
  | (refine so_seq ?_)
  | (refine so_next ?_)
  | (refine so_ret ?_)
  | (refine so_retN ?_)
  | (refine so_if ?_)
  | (refine' so_append ?he ?_; (case he => (with_unfolding_all exact rfl)))
  | (refine so_drop ?_)
  | (refine thenO_nx ?_)
  | (refine thenO_rt ?_)
  | (refine retO_rt ?_)
  | (refine retO_nx ?_)
  | (refine loopO_nx ?_)
  | (refine loopO_rt ?_)
  | (refine thenO_ct ?_)
  | (refine thenO_bk ?_)
  | (refine loopO_ct ?_)
  | (refine loopO_bk ?_)
  | (refine so_break ?_)
  | (refine so_cont ?_)
  | (refine' so_asg2 ?h2 ?hn ?hm ?_; (case h2 => (with_unfolding_all exact rfl)); (case hn => (with_unfolding_all walk_at "nr")); (case hm => (with_unfolding_all walk_at "nr")))
  | (refine' ae_var ?hv ?_; (case hv => (with_unfolding_all exact rfl)))
  | (refine ae_int ?_)
  | (refine ae_str ?_)
  | (refine ae_bl ?_)
  | (refine ae_non ?_)
  | (refine ae_globD ?_)
  | (refine ae_isI ?_)
  | (refine ae_isB ?_)
  | (refine ae_isT ?_)
  | (refine ae_isL ?_)
  | (refine ae_isS ?_)
  | (refine ae_isTL ?_)
  | (refine ae_op ?_)
  | (refine ae_un ?_)
  | (refine ae_call ?_)
  | (refine ae_cb ?_)
  | (refine ae_tup0 ?_)
  | (refine ae_tup1 ?_)
  | (refine ae_tup2 ?_)
  | (refine ae_lst0 ?_)
  | (refine ae_lst1 ?_)
  | (refine ae_lst2 ?_)
  | (refine ae_tup ?_)
  | (refine ae_andV ?_)
  | (refine ae_orV ?_)
  | (refine ae_notV ?_)
  | (refine ae_ifE ?_)
  | (refine ae_chain ?_)
  | (refine aa_nil ?_)
  | (refine aa_cons ?_)
  | (refine ab_test ?_)
  | (refine ab_val ?_)
  | (refine ab_and ?_)
  | (refine ab_or ?_)
  | (refine ab_not ?_)
  | (refine ab_yes ?_)
  | (refine rr_ltI ?_)
  | (refine rr_ltT ?_)
  | (refine rr_ib ?_)
  | (refine rr_ii ?_)
  | (refine rr_addI ?_)
  | (refine ru_neg ?_)
  | (refine rr_isN ?_)
  | (refine rr_notN ?_)
  | (refine rr_notB ?_)
  | (refine rc_lenL ?_)
  | (refine rc_lenT ?_)
  | (refine rc_tupleL ?_)
  | (refine rc_tupleT ?_)
  | (refine rc_intI ?_)
  | (refine rc_intB ?_)
  | (refine' rr_eqD ?ha ?hb ?_; (case ha => (with_unfolding_all walk_at "sh")); (case hb => (with_unfolding_all walk_at "sh")))
  | (refine' rr_neD ?ha ?hb ?_; (case ha => (with_unfolding_all walk_at "sh")); (case hb => (with_unfolding_all walk_at "sh")))
  | (refine' rr_inT ?ha ?hb ?_; (case ha => (with_unfolding_all walk_at "sh")); (case hb => (with_unfolding_all walk_at "sh")))
  | (refine' rr_inL ?ha ?hb ?_; (case ha => (with_unfolding_all walk_at "sh")); (case hb => (with_unfolding_all walk_at "sh")))
  | (refine' rr_ixT ?ha ?_; (case ha => (with_unfolding_all exact rfl)))
  | (refine' rr_ixL ?ha ?_; (case ha => (with_unfolding_all exact rfl)))
  | (refine' rr_ci ?ha ?_; (case ha => (with_unfolding_all decide)))
  | (refine rf_rc (rf_sortAT ?_))
  | (refine rf_rc (rf_sortAI ?_))
  | (refine ae_callS ?_)
  | (refine ae_dict0 ?_)
  | (refine ⟨_, rfl, ?_⟩)
  | (refine ⟨_, _, rfl, ?_⟩))
local macro_rules | `(tactic| walk_at "fs1") => `(tactic| with_reducible (refine' so_set ?hn ?_; (case hn => (with_unfolding_all walk_at "nr"))))
local macro_rules | `(tactic| walk_at "fb") => `(tactic| repeat (walk_at "fb1"))
local macro_rules | `(tactic| walk_at "ft") => `(tactic| repeat (first | walk_at "fb1" | walk_at "fs1"))
local macro_rules | `(tactic| walk_at "fb1") => `(tactic| with_reducible first
  | (refine use_is_number ?_)
  | (refine use_is_club ?_)
  | (refine use_are_clubs ?_)
  | (refine use_wrong_part ?_)
  | (refine use_is_town ?_)
  | (refine use_check_rule ?_)
  | (refine use_suits ?_)
  | (refine use_wrong_size ?_)
  | (refine use_all_rules ?_))

/-! ### lines and words -/
def OkL (l : Sg) : Prop := ∀ c ∈ l, c < 0x110000
theorem gd_encW {n : Nat} {w : Sg} (h : OkL w) : Gd n (encW w) := ⟨by simp only [encW, PyData.canLay0]; exact strOk_ofL.mpr h, by simp [encW, PyData.depth]⟩
theorem gd_encWs {n : Nat} {ws : List Sg} (h : ∀ w ∈ ws, OkL w) : Gd (n + 1) (encWs ws) := gd_lst (gd_map fun w hw => gd_encW (h w hw))
theorem gd_encLine {n : Nat} {p : Nat × List Sg} (h : ∀ w ∈ p.2, OkL w) : Gd (n + 2) (encLine p) := gd_tup (gd_cons gd_int (gd_cons (gd_encWs h) gd_nil))
theorem ok_nil : OkL [] := fun c h => by cases h
theorem sh_W {w : Sg} (h : OkL w) : SeqAt.shaped (.str (ofL w)) = true := (gd_encW (n := 0) h).sh (by decide)
theorem eqv_W (a b : Sg) : PyData.eqv (encW a) (.str (ofL b)) = decide (a = b) := by
  show (ofL a == ofL b) = _
  by_cases h : a = b
  · subst h
    simp
  · rw [decide_eq_false h]
    exact beq_eq_false_iff_ne.mpr fun z => h (ofL_inj z)
theorem ok_split {c : Nat} {l p : Sg} (h : OkL l) (hp : p ∈ splitL c l) : OkL p := fun x hx => h x (splitL_mem hp x hx)
theorem ok_words {l w : Sg} (h : OkL l) (hw : w ∈ wordsL l) : OkL w := ok_split h (List.mem_filter.mp hw).1
/-- with their numbers, from k on -/
def nbr {α : Type} : Nat → List α → List (Nat × α)
  | _, [] => []
  | k, x :: r => (k, x) :: nbr (k + 1) r
theorem nbr_len {α : Type} : ∀ (l : List α) (k : Nat), (nbr k l).length = l.length
  | [], _ => rfl
  | x :: r, k => congrArg (· + 1) (nbr_len r (k + 1))
theorem nbr_snd {α : Type} : ∀ (l : List α) (k : Nat), (nbr k l).map (·.2) = l
  | [], _ => rfl
  | x :: r, k => congrArg (x :: ·) (nbr_snd r (k + 1))
theorem nbr_mem {α : Type} {l : List α} {k : Nat} {p : Nat × α} (h : p ∈ nbr k l) : p.2 ∈ l := by
  have := List.mem_map_of_mem (f := (·.2)) h
  rwa [nbr_snd] at this
def encN (p : Nat × Sg) : Da := .tuple [.int (p.1 : Int), encW p.2]
theorem zip_nbr (c : Nat) : ∀ (ls : List Sg) (s : Nat), List.zipWith (fun (i : Nat) (x : Da) => PyData.tuple [.int ((c : Int) + (i : Int)), x]) (List.range' s ls.length) (ls.map encW) = (nbr (c + s) ls).map encN
  | [], _ => rfl
  | l :: ls, s => by
    have ih := zip_nbr c ls (s + 1)
    rw [List.length_cons, List.range'_succ, List.map_cons, List.zipWith_cons_cons, ih, nbr, List.map_cons]
    have e : ((c : Int) + (s : Int)) = ((c + s : Nat) : Int) := by omega
    rw [e]
    rfl
theorem zip_nbr0 (c : Nat) (ls : List Sg) : List.zipWith (fun (i : Nat) (x : Da) => PyData.tuple [.int ((c : Int) + (i : Int)), x]) (List.range (ls.map encW).length) (ls.map encW) = (nbr c ls).map encN := by
  rw [List.length_map, List.range_eq_range']
  exact zip_nbr c ls 0
def lineW (p : Nat × Sg) : Nat × List Sg := (p.1, wordsL p.2)
theorem numL_nbr : ∀ (ls : List Sg) (k : Nat), numL k (ls.map wordsL) = ((nbr k ls).map lineW).filter fun q => !q.2.isEmpty
  | [], _ => rfl
  | l :: ls, k => by
    have ih := numL_nbr ls (k + 1)
    rw [List.map_cons, numL, ih, nbr, List.map_cons, List.filter_cons]
    show (if (wordsL l).isEmpty = true then _ else _) = if (!(wordsL l).isEmpty) = true then _ else _
    cases (wordsL l).isEmpty <;> rfl
theorem lines_nbr (t : Sg) : linesL t = ((nbr 1 (splitL 10 t)).map lineW).filter fun q => !q.2.isEmpty := numL_nbr _ 1
theorem lines_len (t : Sg) : (linesL t).length ≤ t.length + 1 := by
  rw [lines_nbr]
  refine Nat.le_trans (List.length_filter_le _ _) ?_
  rw [List.length_map, nbr_len]
  exact splitL_len 10 t
theorem splitL_part {c : Nat} : ∀ {l p : Sg}, p ∈ splitL c l → p.length ≤ l.length
  | [], p, h => by
    have e : p = [] := by simpa [splitL] using h
    rw [e]
    exact Nat.le_refl _
  | d :: l, p, h => by
    by_cases n : d = c
    · subst n
      rw [splitL_hit] at h
      rcases List.mem_cons.mp h with rfl | h
      · exact Nat.zero_le _
      · exact Nat.le_succ_of_le (splitL_part h)
    · obtain ⟨h', t, e⟩ := splitL_cons (c := c) l
      rw [splitL_miss n e] at h
      rcases List.mem_cons.mp h with rfl | h
      · exact Nat.succ_le_succ (splitL_part (by rw [e]; exact List.mem_cons_self))
      · exact Nat.le_succ_of_le (splitL_part (by rw [e]; exact List.mem_cons_of_mem _ h))
section
variable {P : Program} {w : World} {K : Frg} {mg : Str → Option Value} {base : Heap}
def W_told_lines : WP := fun ds P => ∃ x : Sg, ds = [encW x] ∧ x.length ≤ 50000 ∧ OkL x ∧ P (.list ((linesL x).map encLine))
theorem len_told_lines : ∀ ds P, W_told_lines ds P → ds.length = 1 := by rintro ds P ⟨c, rfl, -⟩; rfl
theorem def_told_lines (F : FunAt K mg "told_lines" ["text"] s_told_lines) (B : Blt mg)  : DefAt P w K mg base 1 "told_lines" ["text"] (spW K W_told_lines) := by
  have nd := sc_told_lines.nd
  refine mk_def (W := W_told_lines) F sc_told_lines (fun ds P hw => len_told_lines ds P hw) (fun f cdv A outer s H E hr => ⟨_, (pss_cons (ps_set (i := 1) nd rfl (by first | exact Or.inl rfl | exact Or.inr rfl) (pe_lst pa_nil))
    (pss_cons (ps_for PassesOwn.never rfl (pi_enumSK (K := K) (c := 1) (by rfl) (by rfl) B.m_enumerate (pa_cons (pe_splitS (pv 0) pe_str) pa_nil) (by decide) (by decide)) (pg_tupK (K := K) (n := 2) (by rfl) rfl (pgs_cons (pg_name (i := 2) nd rfl (by first | exact Or.inl rfl | exact Or.inr rfl)) (pgs_cons (pg_name (i := 3) nd rfl (by first | exact Or.inl rfl | exact Or.inr rfl)) pgs_nil)))
    (pss_cons (ps_setLc (i := 4) (own := [("word", 5)]) rfl nd rfl rfl (sw_true rfl rfl rfl (by decide +kernel)) (pi_seqK (K := K) (by rfl) (pe_splitS (pv 3) pe_str)) (blkOk_by (N := N_told_lines) (sc := (defScope s_told_lines)) (by decide +kernel)) (fun _ _ _ _ _ => (pg_name (i := 5) nd rfl (by first | exact Or.inl rfl | exact Or.inr rfl))) (fun _ _ _ _ _ => (pts_one (pt_cmpR (op_neK (K := K) (by rfl) (by exact hr.units)) (pv 5) pe_str (nomark _)))) (fun _ _ _ _ _ => (pv 5)))
    (pss_one (ps_if (pt_cmpR (op_neK (K := K) (by rfl) (by exact hr.units)) (pv 4) (pe_lst pa_nil) (nomark _)) (pss_one (ps_expr (pe_bmK (K := K) (by rfl) (pe_bm PySem.F.plainAttrs_list PySem.F.slot_list_append PySem.F.type_list_append mt_append (pv 1) (pa_cons (pe_tup (pa_cons (pv 2) (pa_cons (pv 4) pa_nil))) pa_nil))))) pss_nil))))
    (pss_one (ps_ret (pv 1))))), fun ds P hw => ?_⟩)
  try dsimp only [cxOf]
  obtain ⟨x, rfl, hl, ok, p⟩ := hw
  show SO K _ [.dat (encW x), .un, .un, .un, .un, .un] _
  refine so_seq (so_own (by walk_at "nr") (af_lst0 ?_))
  refine thenO_nx (so_seq (so_for (is := [2] ++ ([3] ++ [])) (ai_enumK (aa_cons (af_ae (af_split (ae_var (i := 0) rfl ⟨ofL x, rfl, ae_str ⟨_, rfl, ?_⟩⟩))) ))))
  refine ⟨by decide +kernel, by rw [len_ofL]; show x.length + 2 ≤ 16777216; omega, ?_⟩
  refine aa_nil ⟨_, rfl, ?_⟩
  rw [nl_is, split_list, toL_ofL, show ((splitL 10 x).map ofL).map PyData.str = (splitL 10 x).map encW by rw [List.map_map]; rfl]
  have hz := zip_nbr0 1 (splitL 10 x)
  rw [show ((1 : Nat) : Int) = 1 from rfl] at hz
  rw [hz]
  refine loop_by encN (fun xs ρ => ∃ acc o2 o3 o4, ρ = [.dat (encW x), .own (acc.map encLine), jk o2, jk o3, jk o4, .un] ∧ acc ++ (xs.map lineW).filter (fun q => !q.2.isEmpty) = linesL x ∧ ∀ p ∈ xs, p.2 ∈ splitL 10 x) ?_ ?_ _ _ ⟨[], none, none, none, rfl, (lines_nbr x).symm, fun p hp => nbr_mem hp⟩
  · rintro ⟨k, l⟩ xs _ ⟨acc, o2, o3, o4, rfl, hacc, hm⟩
    have hlm : l ∈ splitL 10 x := hm (k, l) List.mem_cons_self
    have okl : OkL l := ok_split ok hlm
    have hll := splitL_part hlm
    refine ⟨_, at_tup rfl (ats_cons (at_name (by walk_at "nr")) (ats_cons (at_name (by walk_at "nr")) ats_nil)), ?_⟩
    show SO K _ [.dat (encW x), .own (acc.map encLine), .dat (.int (k : Int)), .dat (encW l), jk o4, .un] _
    refine so_seq (so_set (by walk_at "nr") (af_ae (af_lc (is := [5]) (ai_seqL (af_ae (af_split (ae_var (i := 3) rfl ⟨ofL l, rfl, ae_str ⟨_, rfl, ?_⟩⟩)))) (by decide))))
    refine ⟨by decide +kernel, by rw [len_ofL]; show l.length + 2 ≤ 16777216; omega, _, rfl, ?_⟩
    rw [sp_is, split_list, toL_ofL, show ((splitL 32 l).map ofL).map PyData.str = (splitL 32 l).map encW by rw [List.map_map]; rfl]
    refine ⟨by rw [List.length_map]; have := splitL_len 32 l; omega, ?_⟩
    refine comp_fm encW (fun w => !w.isEmpty) encW (splitL 32 l) (fun y hy => ⟨_, at_name (by walk_at "nr"), ?_, fun _ => ?_⟩) ?_
    · show AB K _ [.dat (encW x), .own (acc.map encLine), .dat (.int (k : Int)), .dat (encW l), jk o4, .dat (encW y)] _
      refine ab_test (ae_op (ae_var (i := 5) rfl (ae_str (rr_neD (sh_W (ok_split okl hy)) (by rw [empty_is]; exact sh_W ok_nil) ⟨_, rfl, ?_⟩))))
      rw [empty_is]
      show (!PyData.eqv (encW y) (.str (ofL []))) = _
      rw [eqv_W]
      cases y <;> rfl
    · show AE K _ [.dat (encW x), .own (acc.map encLine), .dat (.int (k : Int)), .dat (encW l), jk o4, .dat (encW y)] _
      exact ae_var (i := 5) rfl rfl
    show thenO K _ _ (.nx [.dat (encW x), .own (acc.map encLine), .dat (.int (k : Int)), .dat (encW l), .dat (encWs (wordsL l)), .un])
    refine thenO_nx ?_
    rw [List.map_cons, List.filter_cons] at hacc
    refine so_if (ab_test (ae_op (ae_var (i := 4) rfl (ae_lst0 (rr_neD ((gd_encWs (n := 0) fun w hw => ok_words okl hw).sh (by decide)) (by walk_at "sh") ⟨_, rfl, ?_⟩)))))
    have e : PyData.eqv (encWs (wordsL l)) (.list []) = (wordsL l).isEmpty := by
      show PyData.eqv (.list _) _ = _
      rw [eqv_nil, List.isEmpty_map]
    rw [e]
    cases he : (wordsL l).isEmpty with
    | true =>
      have hacc' : acc ++ (xs.map lineW).filter (fun q => !q.2.isEmpty) = linesL x := by
        rw [← hacc]
        show _ = acc ++ if (!(wordsL l).isEmpty) = true then _ else _
        rw [he]
        rfl
      refine wayF rfl (so_next ?_)
      refine ⟨acc, some (.int (k : Int)), some (encW l), some (encWs (wordsL l)), rfl, hacc', fun p hp => hm p (List.mem_cons_of_mem _ hp)⟩
    | false =>
      have hacc' : (acc ++ [(k, wordsL l)]) ++ (xs.map lineW).filter (fun q => !q.2.isEmpty) = linesL x := by
        rw [← hacc, List.append_assoc]
        show _ = acc ++ if (!(wordsL l).isEmpty) = true then _ else _
        rw [he]
        rfl
      refine wayT rfl (so_append (i := 1) rfl ?_)
      refine ae_tup2 (ae_var (i := 2) rfl (ae_var (i := 4) rfl ?_))
      refine ⟨?_, ?_⟩
      · have h1 := lines_len x
        rw [← hacc', List.length_append, List.length_append] at h1
        rw [List.length_map]
        show acc.length < 16777216
        omega
      · refine ⟨acc ++ [(k, wordsL l)], some (.int (k : Int)), some (encW l), some (encWs (wordsL l)), ?_, hacc', fun p hp => hm p (List.mem_cons_of_mem _ hp)⟩
        rw [List.map_append]
        rfl
  · rintro _ ⟨acc, o2, o3, o4, rfl, hacc, -⟩
    rw [List.map_nil, List.filter_nil, List.append_nil] at hacc
    refine thenO_nx (so_freeze (i := 1) rfl ?_)
    rw [hacc]
    exact so_ret (ae_var (i := 1) rfl p)
end
end Ft

/-! part: K07y -/
set_option Elab.async false
set_option linter.all false
set_option maxRecDepth 100000
set_option pp.maxSteps 1500
set_option maxHeartbeats 0
namespace Ft
open PySem L2
local macro_rules | `(tactic| walk_at "nr") => `(tactic| first | (intro h; cases h; done) | exact jk_nr)
local macro_rules | `(tactic| walk_at "sh") => `(tactic| first | exact sh_int | exact sh_bl | exact sh_non | exact sh_wd | exact sh_odd | exact sh_tupI | exact sh_clubsT | exact sh_clubsL | exact sh_nilL | exact sh_rule | exact sh_rules | assumption)
local macro_rules | `(tactic| walk_at "fb1") => `(tactic| with_reducible first
  | (refine so_seq ?_)
  | (refine so_next ?_)
  | (refine so_ret ?_)
  | (refine so_retN ?_)
  | (refine so_if ?_)
  | (refine' so_append ?he ?_; (case he => (with_unfolding_all exact rfl)))
  | (refine so_drop ?_)
  | (refine thenO_nx ?_)
  | (refine thenO_rt ?_)
  | (refine retO_rt ?_)
  | (refine retO_nx ?_)
  | (refine loopO_nx ?_)
  | (refine loopO_rt ?_)
  | (refine thenO_ct ?_)
  | (refine thenO_bk ?_)
  | (refine loopO_ct ?_)
  | (refine loopO_bk ?_)
  | (refine so_break ?_)
  | (refine so_cont ?_)
  | (refine' so_asg2 ?h2 ?hn ?hm ?_; (case h2 => (with_unfolding_all exact rfl)); (case hn => (with_unfolding_all walk_at "nr")); (case hm => (with_unfolding_all walk_at "nr")))
  | (refine' ae_var ?hv ?_; (case hv => (with_unfolding_all exact rfl)))
  | (refine ae_int ?_)
  | (refine ae_str ?_)
  | (refine ae_bl ?_)
  | (refine ae_non ?_)
  | (refine ae_globD ?_)
  | (refine ae_isI ?_)
  | (refine ae_isB ?_)
  | (refine ae_isT ?_)
  | (refine ae_isL ?_)
  | (refine ae_isS ?_)
  | (refine ae_isTL ?_)
  | (refine ae_op ?_)
  | (refine ae_un ?_)
  | (refine ae_call ?_)
  | (refine ae_cb ?_)
  | (refine ae_tup0 ?_)
  | (refine ae_tup1 ?_)
  | (refine ae_tup2 ?_)
  | (refine ae_lst0 ?_)
  | (refine ae_lst1 ?_)
  | (refine ae_lst2 ?_)
  | (refine ae_tup ?_)
  | (refine ae_andV ?_)
  | (refine ae_orV ?_)
  | (refine ae_notV ?_)
  | (refine ae_ifE ?_)
  | (refine ae_chain ?_)
  | (refine aa_nil ?_)
  | (refine aa_cons ?_)
  | (refine ab_test ?_)
  | (refine ab_val ?_)
  | (refine ab_and ?_)
  | (refine ab_or ?_)
  | (refine ab_not ?_)
  | (refine ab_yes ?_)
  | (refine rr_ltI ?_)
  | (refine rr_ltT ?_)
  | (refine rr_ib ?_)
  | (refine rr_ii ?_)
  | (refine rr_addI ?_)
  | (refine ru_neg ?_)
  | (refine rr_isN ?_)
  | (refine rr_notN ?_)
  | (refine rr_notB ?_)
  | (refine rc_lenL ?_)
  | (refine rc_lenT ?_)
  | (refine rc_tupleL ?_)
  | (refine rc_tupleT ?_)
  | (refine rc_intI ?_)
  | (refine rc_intB ?_)
  | (refine' rr_eqD ?ha ?hb ?_; (case ha => (with_unfolding_all walk_at "sh")); (case hb => (with_unfolding_all walk_at "sh")))
  | (refine' rr_neD ?ha ?hb ?_; (case ha => (with_unfolding_all walk_at "sh")); (case hb => (with_unfolding_all walk_at "sh")))
  | (refine' rr_inT ?ha ?hb ?_; (case ha => (with_unfolding_all walk_at "sh")); (case hb => (with_unfolding_all walk_at "sh")))
  | (refine' rr_inL ?ha ?hb ?_; (case ha => (with_unfolding_all walk_at "sh")); (case hb => (with_unfolding_all walk_at "sh")))
  | (refine' rr_ixT ?ha ?_; (case ha => (with_unfolding_all exact rfl)))
  | (refine' rr_ixL ?ha ?_; (case ha => (with_unfolding_all exact rfl)))
  | (refine' rr_ci ?ha ?_; (case ha => (with_unfolding_all decide)))
  | (refine rf_rc (rf_sortAT ?_))
  | (refine rf_rc (rf_sortAI ?_))
  | (refine ae_callS ?_)
  | (refine ae_dict0 ?_)
  | (refine ⟨_, rfl, ?_⟩)
  | (refine ⟨_, _, rfl, ?_⟩))
local macro_rules | `(tactic| walk_at "fs1") => `(tactic| with_reducible (refine' so_set ?hn ?_; (case hn => (with_unfolding_all walk_at "nr"))))
local macro_rules | `(tactic| walk_at "fb") => `(tactic| repeat (walk_at "fb1"))
local macro_rules | `(tactic| walk_at "ft") => `(tactic| repeat (first | walk_at "fb1" | walk_at "fs1"))
local macro_rules | `(tactic| walk_at "fb1") => `(tactic| with_reducible first
  | (refine use_is_number ?_)
  | (refine use_is_club ?_)
  | (refine use_are_clubs ?_)
  | (refine use_wrong_part ?_)
  | (refine use_is_town ?_)
  | (refine use_check_rule ?_)
  | (refine use_suits ?_)
  | (refine use_wrong_size ?_)
  | (refine use_all_rules ?_))

/-! ### figures -/
theorem figIx_iff {w : Sg} {j : Nat} : figIx w = some j ↔ j ≤ 8 ∧ w = dig j := by
  unfold figIx dig
  constructor
  · intro h
    split at h
    · split at h
      · cases h
        exact ⟨by omega, congrArg (fun x => [x]) (by omega)⟩
      · cases h
    · cases h
  · rintro ⟨h, rfl⟩
    show (if 48 ≤ 48 + j ∧ 48 + j ≤ 56 then some (48 + j - 48) else none) = some j
    rw [if_pos ⟨by omega, by omega⟩, Nat.add_sub_cancel_left]
theorem dig_inj {a b : Nat} (h : dig a = dig b) : a = b := by
  have : 48 + a = 48 + b := by simpa [dig] using h
  omega
theorem cut_map (f : Nat → Da) (l : List Nat) (a b : Option Int) : cutD (l.map f) a b = ((l.drop (HT.sIx l.length 0 a)).take (HT.sIx l.length l.length b - HT.sIx l.length 0 a)).map f := by
  unfold cutD
  rw [List.length_map, List.map_take, List.map_drop]
theorem figD_is : FIGS.map PyData.str = (List.range 9).map fun j => encW (dig j) := by rw [figs_is, List.map_map]; rfl
theorem cuts_are : ∀ a b : _root_.Fin 10, ((List.range 9).drop (HT.sIx 9 0 (some (a.val : Int)))).take (HT.sIx 9 9 (some (b.val : Int)) - HT.sIx 9 0 (some (a.val : Int))) = (List.range 9).filter fun j => decide (a.val ≤ j ∧ j < b.val) := by decide +kernel
theorem cut_figs {a b : Nat} (ha : a ≤ 9) (hb : b ≤ 9) : cutD (FIGS.map PyData.str) (some (a : Int)) (some (b : Int)) = ((List.range 9).filter fun j => decide (a ≤ j ∧ j < b)).map fun j => encW (dig j) := by
  rw [figD_is, cut_map, List.length_range]
  exact congrArg _ (cuts_are ⟨a, by omega⟩ ⟨b, by omega⟩)
theorem cut_figs1 : cutD (FIGS.map PyData.str) (some 1) none = ((List.range 9).filter fun j => decide (1 ≤ j ∧ j < 9)).map fun j => encW (dig j) := by
  rw [figD_is, cut_map, List.length_range]
  exact congrArg _ (show ((List.range 9).drop (HT.sIx 9 0 (some 1))).take (HT.sIx 9 9 none - HT.sIx 9 0 (some 1)) = _ by decide +kernel)
theorem ok_dig {j : Nat} (h : j ≤ 100) : OkL (dig j) := fun c hc => by
  have e : c = 48 + j := by simpa [dig] using hc
  omega
theorem any_figs {a b : Nat} (hb : b ≤ 9) (w : Sg) : (((List.range 9).filter fun j => decide (a ≤ j ∧ j < b)).map fun j => encW (dig j)).any (fun z => PyData.eqv z (encW w)) = (inFig w a b).isSome := by
  rw [Bool.eq_iff_iff, List.any_map, List.any_eq_true]
  constructor
  · rintro ⟨j, hj, e⟩
    rw [Function.comp_apply, show PyData.eqv (encW (dig j)) (encW w) = decide (dig j = w) from eqv_W _ _] at e
    have hf := List.mem_filter.mp hj
    have hr := List.mem_range.mp hf.1
    have hd := of_decide_eq_true hf.2
    have e := of_decide_eq_true e
    unfold inFig
    rw [figIx_iff.mpr ⟨by omega, e.symm⟩]
    show (if a ≤ j ∧ j < b then some j else none).isSome = true
    rw [if_pos hd]
    rfl
  · intro h
    unfold inFig at h
    cases e : figIx w with
    | none => rw [e] at h; cases h
    | some j =>
      rw [e] at h
      replace h : (if a ≤ j ∧ j < b then some j else none).isSome = true := h
      by_cases hd : a ≤ j ∧ j < b
      · obtain ⟨h8, rfl⟩ := figIx_iff.mp e
        exact ⟨j, List.mem_filter.mpr ⟨List.mem_range.mpr (by omega), decide_eq_true hd⟩, (eqv_W (dig j) (dig j)).trans (decide_eq_true rfl)⟩
      · rw [if_neg hd] at h
        cases h
theorem sh_figs {f : Nat → Bool} : SeqAt.shaped (.tuple (((List.range 9).filter f).map fun j => encW (dig j))) = true :=
  (gd_tup (n := 0) (gd_map fun j hj => gd_encW (ok_dig (by have := List.mem_range.mp (List.mem_filter.mp hj).1; omega)))).sh (by decide)
theorem inFig_some {w : Sg} {a b j : Nat} (h : inFig w a b = some j) : j ≤ 8 ∧ w = dig j ∧ a ≤ j ∧ j < b := by
  unfold inFig at h
  cases e : figIx w with
  | none => rw [e] at h; cases h
  | some i =>
    rw [e] at h
    replace h : (if a ≤ i ∧ i < b then some i else none) = some j := h
    obtain ⟨h8, hw⟩ := figIx_iff.mp e
    by_cases hd : a ≤ i ∧ i < b
    · rw [if_pos hd] at h
      cases h
      exact ⟨h8, hw, hd.1, hd.2⟩
    · rw [if_neg hd] at h
      cases h
theorem figs_at {j : Nat} (h : j ≤ 8) : FIGS[j]? = some (ofL (dig j)) ∧ ∀ m, m < j → FIGS[m]? ≠ some (ofL (dig j)) := by
  have g : ∀ m, m ≤ 8 → FIGS[m]? = some (ofL (dig m)) := fun m hm => by
    rw [figs_is, List.getElem?_map, List.getElem?_range (by omega)]
    rfl
  refine ⟨g j h, fun m hm e => ?_⟩
  rw [g m (by omega)] at e
  have := dig_inj (ofL_inj (Option.some.inj e))
  omega
theorem at0 {w : Sg} {r : List Sg} : atI ((w :: r).map encW) 0 = some (encW w) := atI_nat (j := 0) rfl
theorem at1 {w x : Sg} {r : List Sg} : atI ((w :: x :: r).map encW) 1 = some (encW x) := atI_nat (j := 1) rfl
theorem sh_people : SeqAt.shaped (.str "people") = true := by
  rw [people_is]
  exact sh_W (show ∀ c ∈ peopleW, c < 0x110000 by decide)
theorem sh_club : SeqAt.shaped (.str "club") = true := by
  rw [club_is]
  exact sh_W (show ∀ c ∈ clubW, c < 0x110000 by decide)
theorem eqv_people (w : Sg) : PyData.eqv (encW w) (.str "people") = decide (w = peopleW) := by
  rw [people_is]
  exact eqv_W _ _
theorem eqv_club (w : Sg) : PyData.eqv (encW w) (.str "club") = decide (w = clubW) := by
  rw [club_is]
  exact eqv_W _ _
/-! ### what is promised -/
def Tells {α : Type} (C : Addr) (P : α → Prop) (R : RL) : Told α → Prop
  | .inl e => R (.ref C) (some e)
  | .inr a => P a
def OkW (ws : List Sg) : Prop := ∀ w ∈ ws, OkL w
def WY_told_people (C : Addr) : WPY := fun ds P R => ∃ (k : Int) (w : Sg) (r : List Sg), ds = [.int k, encWs (w :: r)] ∧ OkW (w :: r) ∧ Tells C (fun n : Nat => P (.int (n : Int))) R (peopleT k (w :: r))
def WY_told_club (C : Addr) : WPY := fun ds P R => ∃ (k : Int) (w : Sg) (r : List Sg) (n : Nat), ds = [.int k, encWs (w :: r), .int (n : Int)] ∧ OkW (w :: r) ∧ r.length ≤ 60000 ∧ n ≤ 8 ∧ Tells C (fun c : List Int => P (tupI c)) R (clubT k n (w :: r))
section
variable {P : Program} {w : World} {K : Frg} {mg : Str → Option Value} {base : Heap}
theorem defY_told_people (F : FunAt K mg "told_people" ["number", "words"] s_told_people) (B : Blt mg) {C rF : Addr} (e_BadLine : ErrL P w K mg base C) (t_FIGURES : TupG K mg "FIGURES" rF FIGS) : DefY P w K mg base 3 "told_people" ["number", "words"] (WY_told_people C) := by
  have nd := sc_told_people.nd
  have c_FIGURES : GlobC K mg "FIGURES" C_FIGURES := t_FIGURES.glob
  refine mk_defY (W := WY_told_people C) F sc_told_people (fun ds P R hw => by obtain ⟨k, w, r, rfl, -⟩ := hw; rfl) (fun f cdv A outer s H E hr => ⟨_, (pss_cons (ps_if (pt_cmpR (op_neK (K := K) (by rfl) (by exact hr.units)) (pe_ix (ix_K (K := K) (by rfl)) (pv 1) pe_int (fun _ _ => rfl)) pe_str (nomark _)) (pss_one (ps_raiseL rfl (L2N.takes_of rfl rfl rfl rfl) e_BadLine (by exact hr.mono (by decide)) (by rfl) (pa_cons (pv 0) (pa_cons pe_int pa_nil)))) pss_nil)
    (pss_cons (ps_if (PW.pt (pw_or (pt_cmpR (op_ltK (K := K) (by rfl) (by exact hr.units0)) (pe_callB (call_lenK (K := K) (by rfl)) (by rfl) B.m_len PySem.boot_len (pa_cons (pv 1) pa_nil)) pe_int (nomark _)) (pw_or1 (pt_cmpR (op_notInK (K := K) (by rfl) (by exact un65 hr)) (pe_ix (ix_K (K := K) (by rfl)) (pv 1) pe_int (fun _ _ => rfl)) (pe_slice (sl_K (K := K) (by rfl)) (pe_globK (K := K) (by rfl) c_FIGURES (by rfl)) (po_some pe_int) po_none) (by rfl))))) (pss_one (ps_raiseL rfl (L2N.takes_of rfl rfl rfl rfl) e_BadLine (by exact hr.mono (by decide)) (by rfl) (pa_cons (pv 0) (pa_cons pe_int pa_nil)))) pss_nil)
    (pss_cons (ps_if (pt_cmpR op_gt (pe_callB (call_lenK (K := K) (by rfl)) (by rfl) B.m_len PySem.boot_len (pa_cons (pv 1) pa_nil)) pe_int (nomark _)) (pss_one (ps_raiseL rfl (L2N.takes_of rfl rfl rfl rfl) e_BadLine (by exact hr.mono (by decide)) (by rfl) (pa_cons (pv 0) (pa_cons pe_int pa_nil)))) pss_nil)
    (pss_one (ps_ret (pe_tixG (K := K) (by rfl) t_FIGURES (by rfl) (pe_ix (ix_K (K := K) (by rfl)) (pv 1) pe_int (fun _ _ => rfl)))))))), fun ds P R hw => ?_⟩)
  obtain ⟨k, w1, r, rfl, ok, tl⟩ := hw
  show SY K _ _ [.dat (.int k), .dat (encWs (w1 :: r))] _ _
  have okw := ok w1 List.mem_cons_self
  refine sy_seq (sy_if (ab_test (ae_op (ae_op (ae_var (i := 1) rfl (ae_int (rr_ixL at0 (ae_str (rr_neD (sh_W okw) sh_people ⟨_, rfl, ?_⟩)))))))))
  rw [eqv_people]
  by_cases h1 : w1 = peopleW
  · subst h1
    refine wayF (by simp) (sy_pure (so_next (thenY_nx ?_)))
    refine sy_seq (sy_if (ab_or (ab_test (ae_op (ae_cb (aa_cons (ae_var (i := 1) rfl (aa_nil (rc_lenL (ae_int (rr_ltI ⟨_, rfl, ?_⟩)))))))))))
    cases r with
    | nil =>
      refine wayT' (by decide) (wayT rfl (sy_raiseL (aa_cons (ae_var (i := 0) rfl (aa_cons (ae_int (aa_nil ⟨k, 2, rfl, tl⟩)))))))
    | cons x y =>
      refine wayF' (decide_eq_false (by simp only [List.map_cons, List.length_cons]; omega)) (ab_test (ae_op (ae_op (ae_var (i := 1) rfl (ae_int (rr_ixL at1 (ae_slT (ae_globD ⟨_, rfl, ao_some (ae_int ⟨1, rfl, ao_none ?_⟩)⟩))))))))
      have okx := ok x (List.mem_cons_of_mem _ List.mem_cons_self)
      rw [cut_figs1]
      refine rr_inT (f := not) (sh_W okx) sh_figs ⟨_, rfl, ?_⟩
      rw [any_figs (a := 1) (b := 9) (by decide) x]
      cases e : inFig x 1 9 with
      | none =>
        refine wayT rfl (sy_raiseL (aa_cons (ae_var (i := 0) rfl (aa_cons (ae_int (aa_nil ⟨k, 2, rfl, ?_⟩))))))
        unfold peopleT at tl
        dsimp only at tl
        rw [if_pos rfl, e] at tl
        exact tl
      | some j =>
        obtain ⟨h8, rfl, hj1, hj9⟩ := inFig_some e
        refine wayF rfl (sy_pure (so_next (thenY_nx ?_)))
        unfold peopleT at tl
        dsimp only at tl
        rw [if_pos rfl, e] at tl
        dsimp only at tl
        refine sy_seq (sy_if (ab_test (ae_op (ae_cb (aa_cons (ae_var (i := 1) rfl (aa_nil (rc_lenL (ae_int (rr_ib ⟨_, rfl, ?_⟩))))))))))
        cases y with
        | cons y0 y =>
          exact wayT (decide_eq_true (by simp only [List.map_cons, List.length_cons]; omega)) (sy_raiseL (aa_cons (ae_var (i := 0) rfl (aa_cons (ae_int (aa_nil ⟨k, 3, rfl, tl⟩))))))
        | nil =>
          refine wayF (decide_eq_false (by simp)) (sy_pure (so_next (thenY_nx ?_)))
          exact sy_ret (ay_pure (ae_tixG t_FIGURES (ae_op (ae_var (i := 1) rfl (ae_int (rr_ixL at1 ⟨_, j, rfl, (figs_at h8).1, (figs_at h8).2, tl⟩))))))
  · refine wayT (by simp [h1]) (sy_raiseL (aa_cons (ae_var (i := 0) rfl (aa_cons (ae_int (aa_nil ⟨k, 1, rfl, ?_⟩))))))
    unfold peopleT at tl
    dsimp only at tl
    rw [if_neg h1] at tl
    exact tl
theorem defY_told_club (F : FunAt K mg "told_club" ["number", "words", "people"] s_told_club) (B : Blt mg) {C rF : Addr} (e_BadLine : ErrL P w K mg base C) (t_FIGURES : TupG K mg "FIGURES" rF FIGS) : DefY P w K mg base 3 "told_club" ["number", "words", "people"] (WY_told_club C) := by
  have nd := sc_told_club.nd
  have c_FIGURES : GlobC K mg "FIGURES" C_FIGURES := t_FIGURES.glob
  refine mk_defY (W := WY_told_club C) F sc_told_club (fun ds P R hw => by obtain ⟨k, w, r, n, rfl, -⟩ := hw; rfl) (fun f cdv A outer s H E hr => ⟨_, (pss_cons (ps_if (pt_cmpR (op_neK (K := K) (by rfl) (by exact hr.units)) (pe_ix (ix_K (K := K) (by rfl)) (pv 1) pe_int (fun _ _ => rfl)) pe_str (nomark _)) (pss_one (ps_raiseL rfl (L2N.takes_of rfl rfl rfl rfl) e_BadLine (by exact hr.mono (by decide)) (by rfl) (pa_cons (pv 0) (pa_cons pe_int pa_nil)))) pss_nil)
    (pss_cons (ps_set (i := 3) nd rfl (by first | exact Or.inl rfl | exact Or.inr rfl) (pe_tup pa_nil))
    (pss_cons (ps_set (i := 4) nd rfl (by first | exact Or.inl rfl | exact Or.inr rfl) pe_int)
    (pss_cons (ps_for (passesX rfl) rfl (pi_enumSK (K := K) (c := 2) (by rfl) (by rfl) B.m_enumerate (pa_cons (pe_slice (sl_K (K := K) (by rfl)) (pv 1) (po_some pe_int) po_none) pa_nil) (by decide) (by decide)) (pg_tupK (K := K) (n := 2) (by rfl) rfl (pgs_cons (pg_name (i := 5) nd rfl (by first | exact Or.inl rfl | exact Or.inr rfl)) (pgs_cons (pg_name (i := 6) nd rfl (by first | exact Or.inl rfl | exact Or.inr rfl)) pgs_nil)))
    (pss_cons (ps_if (pt_cmpR (op_notInK (K := K) (by rfl) (by exact un65 hr)) (pv 6) (pe_slice (sl_K (K := K) (by rfl)) (pe_globK (K := K) (by rfl) c_FIGURES (by rfl)) (po_some (pv 4)) (po_some (pv 2))) (by rfl)) (pss_one (ps_raiseL rfl (L2N.takes_of rfl rfl rfl rfl) e_BadLine (by exact hr.mono (by decide)) (by rfl) (pa_cons (pv 0) (pa_cons (pv 5) pa_nil)))) pss_nil)
    (pss_cons (ps_set (i := 7) nd rfl (by first | exact Or.inl rfl | exact Or.inr rfl) (pe_tixG (K := K) (by rfl) t_FIGURES (by rfl) (pv 6)))
    (pss_cons (ps_set (i := 3) nd rfl (by first | exact Or.inl rfl | exact Or.inr rfl) (pe_op (op_addK (K := K) (by rfl)) (pv 3) (pe_tup (pa_cons (pv 7) pa_nil))))
    (pss_one (ps_set (i := 4) nd rfl (by first | exact Or.inl rfl | exact Or.inr rfl) (pe_op (op_addK (K := K) (by rfl)) (pv 7) pe_int)))))))
    (pss_one (ps_ret (pv 3))))))), fun ds P R hw => ?_⟩)
  obtain ⟨k, w1, r, n, rfl, ok, hl, n8, tl⟩ := hw
  show SY K _ _ [.dat (.int k), .dat (encWs (w1 :: r)), .dat (.int (n : Int)), .un, .un, .un, .un, .un] _ _
  have okw := ok w1 List.mem_cons_self
  refine sy_seq (sy_if (ab_test (ae_op (ae_op (ae_var (i := 1) rfl (ae_int (rr_ixL at0 (ae_str (rr_neD (sh_W okw) sh_club ⟨_, rfl, ?_⟩)))))))))
  rw [eqv_club]
  by_cases h1 : w1 = clubW
  · subst h1
    refine wayF (by simp) (sy_pure (so_next (thenY_nx ?_)))
    unfold clubT at tl
    dsimp only at tl
    rw [if_pos rfl] at tl
    refine sy_seqP (so_set (by walk_at "nr") (ae_tup0 (thenY_nx ?_)))
    refine sy_seqP (so_set (by walk_at "nr") (ae_int (thenY_nx ?_)))
    show SY K _ _ [.dat (.int k), .dat (encWs (clubW :: r)), .dat (.int (n : Int)), .dat (tupI []), .dat (.int 0), .un, .un, .un] _ _
    refine sy_seq (sy_for (is := [5] ++ ([6] ++ [])) (ai_enumK (aa_cons (af_ae (af_slL (ae_var (i := 1) rfl ⟨_, rfl, ao_some (ae_int ⟨1, rfl, ao_none (aa_nil ⟨_, rfl, ?_⟩)⟩)⟩))))))
    rw [show cutD ((clubW :: r).map encW) (some 1) none = r.map encW from cut_from (k := 1)]
    have hz := zip_nbr0 2 r
    rw [show ((2 : Nat) : Int) = 2 from rfl] at hz
    rw [hz]
    refine loopY_by encN (fun xs ρ => ∃ (p lo : Nat) (acc : List Int) (o5 o6 o7 : Option Da), ρ = [.dat (.int k), .dat (encWs (clubW :: r)), .dat (.int (n : Int)), .dat (tupI acc), .dat (.int (lo : Int)), jk o5, jk o6, jk o7] ∧ (∃ l : List Sg, xs = nbr p l) ∧ lo ≤ 9 ∧ acc.length + xs.length ≤ 60000 ∧ (∀ q ∈ xs, OkL q.2) ∧ Tells C (fun c : List Int => P (tupI c)) R (clubGo k n p lo acc (xs.map (·.2)))) ?_ ?_ _ _ ⟨2, 0, [], none, none, none, rfl, ⟨r, rfl⟩, by decide, by rw [nbr_len]; simpa using hl, fun q hq => ok _ (List.mem_cons_of_mem _ (nbr_mem hq)), by rw [nbr_snd]; exact tl⟩
    · rintro ⟨p', x⟩ xs _ ⟨p, lo, acc, o5, o6, o7, rfl, ⟨l, el⟩, h9, hl9, hok, ht⟩
      obtain ⟨rfl, l', rfl⟩ : p' = p ∧ ∃ l', xs = nbr (p + 1) l' := by
        cases l with
        | nil => cases el
        | cons y l' =>
          have h2 := List.cons.inj (show (p', x) :: xs = (p, y) :: nbr (p + 1) l' from el)
          exact ⟨congrArg Prod.fst h2.1, l', h2.2⟩
      rw [List.length_cons] at hl9
      have okx : OkL x := hok _ List.mem_cons_self
      refine ⟨_, at_tup rfl (ats_cons (at_name (by walk_at "nr")) (ats_cons (at_name (by walk_at "nr")) ats_nil)), ?_⟩
      show SY K _ _ [.dat (.int k), .dat (encWs (clubW :: r)), .dat (.int (n : Int)), .dat (tupI acc), .dat (.int (lo : Int)), .dat (.int (p' : Int)), .dat (encW x), jk o7] _ _
      refine sy_seq (sy_if (ab_test (ae_op (ae_var (i := 6) rfl (ae_slT (ae_globD ⟨_, rfl, ao_some (ae_var (i := 4) rfl ⟨_, rfl, ao_some (ae_var (i := 2) rfl ⟨_, rfl, ?_⟩)⟩)⟩))))))
      rw [cut_figs h9 (Nat.le_succ_of_le n8)]
      refine rr_inT (f := not) (sh_W okx) sh_figs ⟨_, rfl, ?_⟩
      rw [any_figs (Nat.le_succ_of_le n8) x]
      rw [List.map_cons, clubGo] at ht
      cases e : inFig x lo n with
      | none =>
        rw [e] at ht
        exact wayT rfl (sy_raiseL (aa_cons (ae_var (i := 0) rfl (aa_cons (ae_var (i := 5) rfl (aa_nil ⟨k, _, rfl, ht⟩))))))
      | some j =>
        rw [e] at ht
        dsimp only at ht
        obtain ⟨h8, rfl, hj1, hj2⟩ := inFig_some e
        refine wayF rfl (sy_pure (so_next (thenY_nx ?_)))
        refine sy_seqP (so_set (by walk_at "nr") (ae_tixG t_FIGURES (ae_var (i := 6) rfl ⟨_, j, rfl, (figs_at h8).1, (figs_at h8).2, thenY_nx ?_⟩)))
        show SY K _ _ [.dat (.int k), .dat (encWs (clubW :: r)), .dat (.int (n : Int)), .dat (tupI acc), .dat (.int (lo : Int)), .dat (.int (p' : Int)), .dat (encW (dig j)), .dat (.int (j : Int))] _ _
        refine sy_seqP (so_set (by walk_at "nr") (ae_op (ae_var (i := 3) rfl (ae_tup1 (ae_var (i := 7) rfl (rr_addT ?_ (thenY_nx ?_)))))))
        · show (nums acc).length + 1 ≤ 16777216
          simp only [nums, List.length_map]
          omega
        have ea : PyData.tuple (nums acc ++ [.int (j : Int)]) = tupI (acc ++ [(j : Int)]) := by
          show _ = PyData.tuple ((acc ++ [(j : Int)]).map PyData.int)
          rw [List.map_append]
          rfl
        rw [ea]
        show SY K _ _ [.dat (.int k), .dat (encWs (clubW :: r)), .dat (.int (n : Int)), .dat (tupI (acc ++ [(j : Int)])), .dat (.int (lo : Int)), .dat (.int (p' : Int)), .dat (encW (dig j)), .dat (.int (j : Int))] _ _
        refine sy_pure (so_set (by walk_at "nr") (ae_op (ae_var (i := 7) rfl (ae_int (rr_addI ?_)))))
        refine ⟨p' + 1, j + 1, acc ++ [(j : Int)], some (.int (p' : Int)), some (encW (dig j)), some (.int (j : Int)), rfl, ⟨l', rfl⟩, by omega, by rw [List.length_append, List.length_singleton]; omega, fun q hq => hok q (List.mem_cons_of_mem _ hq), ht⟩
    · rintro _ ⟨p, lo, acc, o5, o6, o7, rfl, -, -, -, -, ht⟩
      exact thenY_nx (sy_ret (ay_pure (ae_var (i := 3) rfl ht)))
  · refine wayT (by simp [h1]) (sy_raiseL (aa_cons (ae_var (i := 0) rfl (aa_cons (ae_int (aa_nil ⟨k, 1, rfl, ?_⟩))))))
    unfold clubT at tl
    dsimp only at tl
    rw [if_neg h1] at tl
    exact tl
end
end Ft

/-! part: K07v -/
set_option Elab.async false
set_option linter.all false
set_option maxRecDepth 100000
set_option pp.maxSteps 1500
set_option maxHeartbeats 0
namespace Ft
open PySem L2
local macro_rules | `(tactic| walk_at "nr") => `(tactic| first | (intro h; cases h; done) | exact jk_nr)
local macro_rules | `(tactic| walk_at "sh") => `(tactic| first | exact sh_int | exact sh_bl | exact sh_non | exact sh_wd | exact sh_odd | exact sh_tupI | exact sh_clubsT | exact sh_clubsL | exact sh_nilL | exact sh_rule | exact sh_rules | assumption)
local macro_rules | `(tactic| walk_at "fb1") => `(tactic| with_reducible first
  | (refine so_seq ?_)
  | (refine so_next ?_)
  | (refine so_ret ?_)
  | (refine so_retN ?_)
  | (refine so_if ?_)
  | (refine' so_append ?he ?_; (case he => (with_unfolding_all exact rfl)))
  | (refine so_drop ?_)
  | (refine thenO_nx ?_)
  | (refine thenO_rt ?_)
  | (refine retO_rt ?_)
  | (refine retO_nx ?_)
  | (refine loopO_nx ?_)
  | (refine loopO_rt ?_)
  | (refine thenO_ct ?_)
  | (refine thenO_bk ?_)
  | (refine loopO_ct ?_)
  | (refine loopO_bk ?_)
  | (refine so_break ?_)
  | (refine so_cont ?_)
  | (refine' so_asg2 ?h2 ?hn ?hm ?_; (case h2 => (with_unfolding_all exact rfl)); (case hn => (with_unfolding_all walk_at "nr")); (case hm => (with_unfolding_all walk_at "nr")))
  | (refine' ae_var ?hv ?_; (case hv => (with_unfolding_all exact rfl)))
  | (refine ae_int ?_)
  | (refine ae_str ?_)
  | (refine ae_bl ?_)
  | (refine ae_non ?_)
  | (refine ae_globD ?_)
  | (refine ae_isI ?_)
  | (refine ae_isB ?_)
  | (refine ae_isT ?_)
  | (refine ae_isL ?_)
  | (refine ae_isS ?_)
  | (refine ae_isTL ?_)
  | (refine ae_op ?_)
  | (refine ae_un ?_)
  | (refine ae_call ?_)
  | (refine ae_cb ?_)
  | (refine ae_tup0 ?_)
  | (refine ae_tup1 ?_)
  | (refine ae_tup2 ?_)
  | (refine ae_lst0 ?_)
  | (refine ae_lst1 ?_)
  | (refine ae_lst2 ?_)
  | (refine ae_tup ?_)
  | (refine ae_andV ?_)
  | (refine ae_orV ?_)
  | (refine ae_notV ?_)
  | (refine ae_ifE ?_)
  | (refine ae_chain ?_)
  | (refine aa_nil ?_)
  | (refine aa_cons ?_)
  | (refine ab_test ?_)
  | (refine ab_val ?_)
  | (refine ab_and ?_)
  | (refine ab_or ?_)
  | (refine ab_not ?_)
  | (refine ab_yes ?_)
  | (refine rr_ltI ?_)
  | (refine rr_ltT ?_)
  | (refine rr_ib ?_)
  | (refine rr_ii ?_)
  | (refine rr_addI ?_)
  | (refine ru_neg ?_)
  | (refine rr_isN ?_)
  | (refine rr_notN ?_)
  | (refine rr_notB ?_)
  | (refine rc_lenL ?_)
  | (refine rc_lenT ?_)
  | (refine rc_tupleL ?_)
  | (refine rc_tupleT ?_)
  | (refine rc_intI ?_)
  | (refine rc_intB ?_)
  | (refine' rr_eqD ?ha ?hb ?_; (case ha => (with_unfolding_all walk_at "sh")); (case hb => (with_unfolding_all walk_at "sh")))
  | (refine' rr_neD ?ha ?hb ?_; (case ha => (with_unfolding_all walk_at "sh")); (case hb => (with_unfolding_all walk_at "sh")))
  | (refine' rr_inT ?ha ?hb ?_; (case ha => (with_unfolding_all walk_at "sh")); (case hb => (with_unfolding_all walk_at "sh")))
  | (refine' rr_inL ?ha ?hb ?_; (case ha => (with_unfolding_all walk_at "sh")); (case hb => (with_unfolding_all walk_at "sh")))
  | (refine' rr_ixT ?ha ?_; (case ha => (with_unfolding_all exact rfl)))
  | (refine' rr_ixL ?ha ?_; (case ha => (with_unfolding_all exact rfl)))
  | (refine' rr_ci ?ha ?_; (case ha => (with_unfolding_all decide)))
  | (refine rf_rc (rf_sortAT ?_))
  | (refine rf_rc (rf_sortAI ?_))
  | (refine ae_callS ?_)
  | (refine ae_dict0 ?_)
  | (refine ⟨_, rfl, ?_⟩)
  | (refine ⟨_, _, rfl, ?_⟩))
local macro_rules | `(tactic| walk_at "fs1") => `(tactic| with_reducible (refine' so_set ?hn ?_; (case hn => (with_unfolding_all walk_at "nr"))))
local macro_rules | `(tactic| walk_at "fb") => `(tactic| repeat (walk_at "fb1"))
local macro_rules | `(tactic| walk_at "ft") => `(tactic| repeat (first | walk_at "fb1" | walk_at "fs1"))
local macro_rules | `(tactic| walk_at "fb1") => `(tactic| with_reducible first
  | (refine use_is_number ?_)
  | (refine use_is_club ?_)
  | (refine use_are_clubs ?_)
  | (refine use_wrong_part ?_)
  | (refine use_is_town ?_)
  | (refine use_check_rule ?_)
  | (refine use_suits ?_)
  | (refine use_wrong_size ?_)
  | (refine use_all_rules ?_))

/-! ### read_town -/
theorem lines_mem {t : Sg} {p : Nat × List Sg} (ok : OkL t) (h : p ∈ linesL t) : OkW p.2 ∧ p.2 ≠ [] ∧ p.2.length ≤ t.length + 1 := by
  rw [lines_nbr] at h
  obtain ⟨h1, h2⟩ := List.mem_filter.mp h
  obtain ⟨q, hq, rfl⟩ := List.mem_map.mp h1
  have hs := nbr_mem hq
  refine ⟨fun w hw => ok_words (ok_split ok hs) hw, fun e => ?_, ?_⟩
  · rw [e] at h2
    cases h2
  · have h3 := splitL_part hs
    have h4 := splitL_len 32 q.2
    have h5 := List.length_filter_le (fun w : Sg => !w.isEmpty) (splitL 32 q.2)
    show (wordsL q.2).length ≤ _
    unfold wordsL
    omega
theorem peopleT_le {k : Int} {ws : List Sg} {n : Nat} (h : peopleT k ws = .inr n) : n ≤ 8 := by
  unfold peopleT at h
  split at h
  · cases h
  · split at h
    · split at h
      · cases h
      · split at h
        · cases h
        · rename_i e
          split at h
          · cases h
            exact (inFig_some e).1
          · cases h
    · cases h
theorem cut_last {ch : List (List Int)} : cutD (clubs ch) (some (-1)) none = clubs (ch.drop (ch.length - 1)) := by
  unfold cutD
  have l : (clubs ch).length = ch.length := List.length_map _
  have e1 : HT.sIx (clubs ch).length 0 (some (-1)) = ch.length - 1 := by
    show (if (-1 : Int) < 0 then ((-1 : Int) + ((clubs ch).length : Int)).toNat else min (-1 : Int).toNat (clubs ch).length) = _
    rw [if_pos (by decide), l]
    omega
  rw [e1, HT.sIx_none]
  rw [List.take_of_length_le (by rw [List.length_drop]; exact Nat.le_refl _)]
  exact List.map_drop.symm
theorem last_lt {ch : List (List Int)} {c : List Int} : PySem.W.dataLt (.tuple (clubs (ch.drop (ch.length - 1)))) (.tuple [tupI c]) = lastLt ch c := by
  show ltC (ch.drop (ch.length - 1)) [c] = _
  rcases List.eq_nil_or_concat ch with rfl | ⟨pre, d, rfl⟩
  · exact ltC_nil_cons c []
  · rw [List.concat_eq_append, List.length_append, List.length_singleton, show pre.length + 1 - 1 = pre.length by omega, List.drop_left' rfl, ltC_cons]
    unfold lastLt
    rw [List.getLast?_append]
    show (if d = c then ltC [] [] else _) = HT.lexLt d c
    split
    · rename_i e
      subst e
      rw [ltC_self, lex_irr]
    · rfl
def WY_read_town (C CT : Addr) : WPY := fun ds P R => (∃ x : Sg, ds = [encW x] ∧ x.length ≤ 50000 ∧ OkL x ∧ Tells C (fun p : Nat × List (List Int) => P (townD (p.1 : Int) p.2)) R (readT x)) ∨ ∃ d : Da, ds = [d] ∧ isSt d = false ∧ R (.ref CT) none
section
variable {P : Program} {w : World} {K : Frg} {mg : Str → Option Value} {base : Heap}
theorem defY_read_town (F : FunAt K mg "read_town" ["text"] s_read_town) (B : Blt mg) {C CT : Addr} (e_BadLine : ErrL P w K mg base C) (e_BadText : ExcAt K mg "BadText" CT)
    (d_told_lines : DefAt P w K mg base 1 "told_lines" ["text"] (spW K W_told_lines)) (y_told_people : DefY P w K mg base 3 "told_people" ["number", "words"] (WY_told_people C)) (y_told_club : DefY P w K mg base 3 "told_club" ["number", "words", "people"] (WY_told_club C)) :
    DefY P w K mg base 4 "read_town" ["text"] (WY_read_town C CT) := by
  have nd := sc_read_town.nd
  refine mk_defY (W := WY_read_town C CT) F sc_read_town (fun ds P R hw => by rcases hw with ⟨x, rfl, -⟩ | ⟨d, rfl, -⟩ <;> rfl) (fun f cdv A outer s H E hr => ⟨_, (pss_cons (ps_if (pt_not (pt_val (pe_callB (call_isiK (K := K) (by rfl)) (by rfl) B.m_isinstance (by decide +kernel) (pa_cons (pv 0) (pa_cons (pe_bltn (v := .ty "str") (by rfl) B.m_str (by decide +kernel) rfl) pa_nil))))) (pss_one (ps_raiseC rfl (L2N.takes_of rfl rfl rfl rfl) e_BadText (by rfl))) pss_nil)
    (pss_cons (ps_set (i := 1) nd rfl (by first | exact Or.inl rfl | exact Or.inr rfl) (pe_def d_told_lines (by exact hr.mono (by decide)) (by rfl) (pa_cons (pv 0) pa_nil)))
    (pss_cons (ps_if (pt_cmpR (op_eqK (K := K) (by rfl) (by exact hr.units)) (pv 1) (pe_lst pa_nil) (nomark _)) (pss_one (ps_raiseL rfl (L2N.takes_of rfl rfl rfl rfl) e_BadLine (by exact hr.mono (by decide)) (by rfl) (pa_cons (pe_op (op_addK (K := K) (by rfl)) (pe_callB (call_lenK (K := K) (by rfl)) (by rfl) B.m_len PySem.boot_len (pa_cons (pe_splitS (pv 0) pe_str) pa_nil)) pe_int) (pa_cons pe_int pa_nil)))) pss_nil)
    (pss_cons (ps_asg (pe_ix (ix_K (K := K) (by rfl)) (pv 1) pe_int (fun _ _ => rfl)) (pg_tupK (K := K) (n := 2) (by rfl) rfl (pgs_cons (pg_name (i := 2) nd rfl (by first | exact Or.inl rfl | exact Or.inr rfl)) (pgs_cons (pg_name (i := 3) nd rfl (by first | exact Or.inl rfl | exact Or.inr rfl)) pgs_nil))))
    (pss_cons (ps_set (i := 4) nd rfl (by first | exact Or.inl rfl | exact Or.inr rfl) (pe_defY ⟨rfl, rfl, rfl, rfl, rfl⟩ y_told_people (by exact hr.mono (by decide)) (by rfl) (L2N.takes_of rfl rfl rfl rfl) (pa_cons (pv 2) (pa_cons (pv 3) pa_nil))))
    (pss_cons (ps_set (i := 5) nd rfl (by first | exact Or.inl rfl | exact Or.inr rfl) (pe_tup pa_nil))
    (pss_cons (ps_for (passesX rfl) rfl (pi_seqK (K := K) (by rfl) (pe_slice (sl_K (K := K) (by rfl)) (pv 1) (po_some pe_int) po_none)) (pg_tupK (K := K) (n := 2) (by rfl) rfl (pgs_cons (pg_name (i := 6) nd rfl (by first | exact Or.inl rfl | exact Or.inr rfl)) (pgs_cons (pg_name (i := 7) nd rfl (by first | exact Or.inl rfl | exact Or.inr rfl)) pgs_nil)))
    (pss_cons (ps_set (i := 8) nd rfl (by first | exact Or.inl rfl | exact Or.inr rfl) (pe_defY ⟨rfl, rfl, rfl, rfl, rfl⟩ y_told_club (by exact hr.mono (by decide)) (by rfl) (L2N.takes_of rfl rfl rfl rfl) (pa_cons (pv 6) (pa_cons (pv 7) (pa_cons (pv 4) pa_nil)))))
    (pss_cons (ps_if (pt_cmpR (op_geD (K := K) (by rfl) (by exact hr.units)) (pe_slice (sl_K (K := K) (by rfl)) (pv 5) (po_some (pe_un un_neg pe_int)) po_none) (pe_tup (pa_cons (pv 8) pa_nil)) (nomark _)) (pss_one (ps_raiseL rfl (L2N.takes_of rfl rfl rfl rfl) e_BadLine (by exact hr.mono (by decide)) (by rfl) (pa_cons (pv 6) (pa_cons pe_int pa_nil)))) pss_nil)
    (pss_one (ps_set (i := 5) nd rfl (by first | exact Or.inl rfl | exact Or.inr rfl) (pe_op (op_addK (K := K) (by rfl)) (pv 5) (pe_tup (pa_cons (pv 8) pa_nil))))))))
    (pss_one (ps_ret (pe_tup (pa_cons (pv 4) (pa_cons (pv 5) pa_nil)))))))))))), fun ds P R hw => ?_⟩)
  rcases hw with ⟨x, rfl, hl, ok, tl⟩ | ⟨d, rfl, hd, rc⟩
  · show SY K _ _ [.dat (encW x), .un, .un, .un, .un, .un, .un, .un, .un] _ _
    refine sy_seq (sy_if (ab_not (ab_val (ae_isS (ae_var (i := 0) rfl ⟨_, rfl, ?_⟩)))))
    refine wayF rfl (sy_pure (so_next (thenY_nx ?_)))
    refine sy_seqP (so_set (by walk_at "nr") (ae_call (aa_cons (ae_var (i := 0) rfl (aa_nil ⟨x, rfl, hl, ok, thenY_nx ?_⟩)))))
    show SY K _ _ [.dat (encW x), .dat (.list ((linesL x).map encLine)), .un, .un, .un, .un, .un, .un, .un] _ _
    have hsh : SeqAt.shaped (.list ((linesL x).map encLine)) = true := (gd_lst (n := 2) (gd_map fun p hp => gd_encLine (n := 0) (lines_mem ok hp).1)).sh (by decide)
    refine sy_seq (sy_if (ab_test (ae_op (ae_var (i := 1) rfl (ae_lst0 (rr_eqD hsh (by walk_at "sh") ⟨_, rfl, ?_⟩))))))
    rw [eqv_nil, List.isEmpty_map]
    unfold readT at tl
    have hmem : ∀ p ∈ linesL x, OkW p.2 ∧ p.2 ≠ [] ∧ p.2.length ≤ x.length + 1 := fun p hp => lines_mem ok hp
    have hlen := lines_len x
    cases hL : linesL x with
    | nil =>
      rw [hL] at tl
      dsimp only at tl
      refine wayT rfl (sy_raiseL (aa_cons (ae_op (ae_cb (aa_cons (af_ae (af_split (ae_var (i := 0) rfl ⟨ofL x, rfl, ae_str ⟨_, rfl, by decide +kernel, ?_, aa_nil (rc_lenL (ae_int (rr_addI (aa_cons (ae_int (aa_nil ⟨_, 1, rfl, ?_⟩))))))⟩⟩))))))))
      · rw [len_ofL]
        show x.length + 2 ≤ 16777216
        omega
      · rw [nl_is, split_list, toL_ofL, List.length_map, List.length_map]
        exact tl
    | cons p0 rest =>
      obtain ⟨k, ws⟩ := p0
      rw [hL] at tl hmem hlen
      dsimp only at tl
      obtain ⟨okW, neW, lenW⟩ := hmem (k, ws) List.mem_cons_self
      obtain ⟨w1, r, rfl⟩ : ∃ w1 r, ws = w1 :: r := by
        cases ws with
        | nil => exact absurd rfl neW
        | cons a b => exact ⟨a, b, rfl⟩
      refine wayF rfl (sy_pure (so_next (thenY_nx ?_)))
      refine sy_seqP (so_asg (is := [2] ++ ([3] ++ [])) (ae_op (ae_var (i := 1) rfl (ae_int (rr_ixL (d := encLine (k, w1 :: r)) (atI_nat (j := 0) rfl) ⟨_, at_tup rfl (ats_cons (at_name (by walk_at "nr")) (ats_cons (at_name (by walk_at "nr")) ats_nil)), thenY_nx ?_⟩)))))
      show SY K _ _ [.dat (encW x), .dat (.list (((k, w1 :: r) :: rest).map encLine)), .dat (.int (k : Int)), .dat (encWs (w1 :: r)), .un, .un, .un, .un, .un] _ _
      refine sy_seq (sy_set (by walk_at "nr") (ay_call (aa_cons (ae_var (i := 2) rfl (aa_cons (ae_var (i := 3) rfl (aa_nil ⟨(k : Int), w1, r, rfl, okW, ?_⟩)))))))
      cases eP : peopleT (k : Int) (w1 :: r) with
      | inl e =>
        rw [eP] at tl
        exact tl
      | inr n =>
        rw [eP] at tl
        dsimp only at tl
        have n8 := peopleT_le eP
        refine thenY_nx ?_
        show SY K _ _ [.dat (encW x), .dat (.list (((k, w1 :: r) :: rest).map encLine)), .dat (.int (k : Int)), .dat (encWs (w1 :: r)), .dat (.int (n : Int)), .un, .un, .un, .un] _ _
        refine sy_seqP (so_set (by walk_at "nr") (ae_tup0 (thenY_nx ?_)))
        show SY K _ _ [.dat (encW x), .dat (.list (((k, w1 :: r) :: rest).map encLine)), .dat (.int (k : Int)), .dat (encWs (w1 :: r)), .dat (.int (n : Int)), .dat (.tuple (clubs [])), .un, .un, .un] _ _
        refine sy_seq (sy_for (is := [6] ++ ([7] ++ [])) (ai_seqL (af_ae (af_slL (ae_var (i := 1) rfl ⟨_, rfl, ao_some (ae_int ⟨1, rfl, ao_none ⟨_, rfl, ?_⟩⟩)⟩)))))
        rw [show cutD (((k, w1 :: r) :: rest).map encLine) (some 1) none = rest.map encLine from cut_from (k := 1)]
        refine loopY_by encLine (fun xs ρ => ∃ (acc : List (List Int)) (o6 o7 o8 : Option Da), ρ = [.dat (encW x), .dat (.list (((k, w1 :: r) :: rest).map encLine)), .dat (.int (k : Int)), .dat (encWs (w1 :: r)), .dat (.int (n : Int)), .dat (.tuple (clubs acc)), jk o6, jk o7, jk o8] ∧ acc.length + xs.length ≤ 60000 ∧ (∀ p ∈ xs, OkW p.2 ∧ p.2 ≠ [] ∧ p.2.length ≤ x.length + 1) ∧ Tells C (fun cs : List (List Int) => P (townD (n : Int) cs)) R (clubsT n xs acc)) ?_ ?_ _ _ ⟨[], none, none, none, rfl, by rw [List.length_cons] at hlen; simp only [List.length_nil]; omega, fun p hp => hmem p (List.mem_cons_of_mem _ hp), ?_⟩
        · rintro ⟨k2, ws2⟩ xs _ ⟨acc, o6, o7, o8, rfl, hl6, hok, ht⟩
          obtain ⟨okW2, neW2, lenW2⟩ := hok (k2, ws2) List.mem_cons_self
          obtain ⟨w2, r2, rfl⟩ : ∃ w2 r2, ws2 = w2 :: r2 := by
            cases ws2 with
            | nil => exact absurd rfl neW2
            | cons a b => exact ⟨a, b, rfl⟩
          rw [List.length_cons] at hl6
          refine ⟨_, at_tup rfl (ats_cons (at_name (by walk_at "nr")) (ats_cons (at_name (by walk_at "nr")) ats_nil)), ?_⟩
          show SY K _ _ [.dat (encW x), .dat (.list (((k, w1 :: r) :: rest).map encLine)), .dat (.int (k : Int)), .dat (encWs (w1 :: r)), .dat (.int (n : Int)), .dat (.tuple (clubs acc)), .dat (.int (k2 : Int)), .dat (encWs (w2 :: r2)), jk o8] _ _
          refine sy_seq (sy_set (by walk_at "nr") (ay_call (aa_cons (ae_var (i := 6) rfl (aa_cons (ae_var (i := 7) rfl (aa_cons (ae_var (i := 4) rfl (aa_nil ⟨(k2 : Int), w2, r2, n, rfl, okW2, ?_, n8, ?_⟩)))))))))
          · have : (w2 :: r2).length ≤ x.length + 1 := lenW2
            rw [List.length_cons] at this
            omega
          rw [clubsT] at ht
          cases eC : clubT (k2 : Int) n (w2 :: r2) with
          | inl e =>
            rw [eC] at ht
            exact ht
          | inr c =>
            rw [eC] at ht
            dsimp only at ht
            refine thenY_nx ?_
            show SY K _ _ [.dat (encW x), .dat (.list (((k, w1 :: r) :: rest).map encLine)), .dat (.int (k : Int)), .dat (encWs (w1 :: r)), .dat (.int (n : Int)), .dat (.tuple (clubs acc)), .dat (.int (k2 : Int)), .dat (encWs (w2 :: r2)), .dat (tupI c)] _ _
            refine sy_seq (sy_if (ab_test (ae_op (ae_slT (ae_var (i := 5) rfl ⟨_, rfl, ao_some (ae_un (ae_int (ru_neg ⟨_, rfl, ao_none ?_⟩)))⟩)))))
            rw [cut_last]
            refine ae_tup1 (ae_var (i := 8) rfl (rr_geD sh_clubsT ((gd_tup (gd_cons gd_tupI gd_nil)).sh (by decide)) (by rw [PySem.W.alike]; exact alike_clubs _ [c]) (fun z => by cases z) (Nat.le_trans (gd_tup gd_clubs).2 (by decide)) ⟨_, rfl, ?_⟩))
            rw [last_lt]
            cases hlt : lastLt acc c with
            | false =>
              rw [hlt, if_neg (by decide)] at ht
              exact wayT rfl (sy_raiseL (aa_cons (ae_var (i := 6) rfl (aa_cons (ae_int (aa_nil ⟨_, 1, rfl, ht⟩))))))
            | true =>
              rw [hlt, if_pos rfl] at ht
              refine wayF rfl (sy_pure (so_next (thenY_nx ?_)))
              refine sy_pure (so_set (by walk_at "nr") (ae_op (ae_var (i := 5) rfl (ae_tup1 (ae_var (i := 8) rfl (rr_addT ?_ ?_))))))
              · show (clubs acc).length + 1 ≤ 16777216
                rw [List.length_map]
                omega
              rw [clubs_snoc]
              refine ⟨acc ++ [c], some (.int (k2 : Int)), some (encWs (w2 :: r2)), some (tupI c), rfl, by rw [List.length_append, List.length_singleton]; omega, fun p hp => hok p (List.mem_cons_of_mem _ hp), ht⟩
        · rintro _ ⟨acc, o6, o7, o8, rfl, -, -, ht⟩
          exact thenY_nx (sy_ret (ay_pure (ae_tup2 (ae_var (i := 4) rfl (ae_var (i := 5) rfl ht)))))
        · cases eC : clubsT n rest [] with
          | inl e => rw [eC] at tl; exact tl
          | inr cs => rw [eC] at tl; exact tl
  · show SY K _ _ [.dat d, .un, .un, .un, .un, .un, .un, .un, .un] _ _
    refine sy_seq (sy_if (ab_not (ab_val (ae_isS (ae_var (i := 0) rfl ⟨_, rfl, ?_⟩)))))
    rw [hd]
    exact wayT rfl (sy_raiseC rc)
/-- outside of a try, where all is well -/
def W_read_town : WP := fun ds P => ∃ (x : Sg) (n : Nat) (cs : List (List Int)), ds = [encW x] ∧ x.length ≤ 50000 ∧ OkL x ∧ readT x = .inr (n, cs) ∧ P (townD (n : Int) cs)
theorem def_read_town {C CT : Addr} (y : DefY P w K mg base 4 "read_town" ["text"] (WY_read_town C CT)) : DefAt P w K mg base 4 "read_town" ["text"] (spW K W_read_town) :=
  y.calm fun ds Q ⟨x, n, cs, ed, hl, ok, e, q⟩ => .inl ⟨x, ed, hl, ok, by rw [e]; exact q⟩
end
end Ft

/-! part: K07w -/
set_option Elab.async false
set_option linter.all false
set_option maxRecDepth 100000
set_option pp.maxSteps 1500
set_option maxHeartbeats 0
namespace Ft
open PySem L2
local macro_rules | `(tactic| walk_at "nr") => `(tactic| first | (intro h; cases h; done) | exact jk_nr)
local macro_rules | `(tactic| walk_at "sh") => `(tactic| first | exact sh_int | exact sh_bl | exact sh_non | exact sh_wd | exact sh_odd | exact sh_tupI | exact sh_clubsT | exact sh_clubsL | exact sh_nilL | exact sh_rule | exact sh_rules | assumption)
local macro_rules | `(tactic| walk_at "fb1") => `(tactic| with_reducible first
  | (refine so_seq ?_)
  | (refine so_next ?_)
  | (refine so_ret ?_)
  | (refine so_retN ?_)
  | (refine so_if ?_)
  | (refine' so_append ?he ?_; (case he => (with_unfolding_all exact rfl)))
  | (refine so_drop ?_)
  | (refine thenO_nx ?_)
  | (refine thenO_rt ?_)
  | (refine retO_rt ?_)
  | (refine retO_nx ?_)
  | (refine loopO_nx ?_)
  | (refine loopO_rt ?_)
  | (refine thenO_ct ?_)
  | (refine thenO_bk ?_)
  | (refine loopO_ct ?_)
  | (refine loopO_bk ?_)
  | (refine so_break ?_)
  | (refine so_cont ?_)
  | (refine' so_asg2 ?h2 ?hn ?hm ?_; (case h2 => (with_unfolding_all exact rfl)); (case hn => (with_unfolding_all walk_at "nr")); (case hm => (with_unfolding_all walk_at "nr")))
  | (refine' ae_var ?hv ?_; (case hv => (with_unfolding_all exact rfl)))
  | (refine ae_int ?_)
  | (refine ae_str ?_)
  | (refine ae_bl ?_)
  | (refine ae_non ?_)
  | (refine ae_globD ?_)
  | (refine ae_isI ?_)
  | (refine ae_isB ?_)
  | (refine ae_isT ?_)
  | (refine ae_isL ?_)
  | (refine ae_isS ?_)
  | (refine ae_isTL ?_)
  | (refine ae_op ?_)
  | (refine ae_un ?_)
  | (refine ae_call ?_)
  | (refine ae_cb ?_)
  | (refine ae_tup0 ?_)
  | (refine ae_tup1 ?_)
  | (refine ae_tup2 ?_)
  | (refine ae_lst0 ?_)
  | (refine ae_lst1 ?_)
  | (refine ae_lst2 ?_)
  | (refine ae_tup ?_)
  | (refine ae_andV ?_)
  | (refine ae_orV ?_)
  | (refine ae_notV ?_)
  | (refine ae_ifE ?_)
  | (refine ae_chain ?_)
  | (refine aa_nil ?_)
  | (refine aa_cons ?_)
  | (refine ab_test ?_)
  | (refine ab_val ?_)
  | (refine ab_and ?_)
  | (refine ab_or ?_)
  | (refine ab_not ?_)
  | (refine ab_yes ?_)
  | (refine rr_ltI ?_)
  | (refine rr_ltT ?_)
  | (refine rr_ib ?_)
  | (refine rr_ii ?_)
  | (refine rr_addI ?_)
  | (refine ru_neg ?_)
  | (refine rr_isN ?_)
  | (refine rr_notN ?_)
  | (refine rr_notB ?_)
  | (refine rc_lenL ?_)
  | (refine rc_lenT ?_)
  | (refine rc_tupleL ?_)
  | (refine rc_tupleT ?_)
  | (refine rc_intI ?_)
  | (refine rc_intB ?_)
  | (refine' rr_eqD ?ha ?hb ?_; (case ha => (with_unfolding_all walk_at "sh")); (case hb => (with_unfolding_all walk_at "sh")))
  | (refine' rr_neD ?ha ?hb ?_; (case ha => (with_unfolding_all walk_at "sh")); (case hb => (with_unfolding_all walk_at "sh")))
  | (refine' rr_inT ?ha ?hb ?_; (case ha => (with_unfolding_all walk_at "sh")); (case hb => (with_unfolding_all walk_at "sh")))
  | (refine' rr_inL ?ha ?hb ?_; (case ha => (with_unfolding_all walk_at "sh")); (case hb => (with_unfolding_all walk_at "sh")))
  | (refine' rr_ixT ?ha ?_; (case ha => (with_unfolding_all exact rfl)))
  | (refine' rr_ixL ?ha ?_; (case ha => (with_unfolding_all exact rfl)))
  | (refine' rr_ci ?ha ?_; (case ha => (with_unfolding_all decide)))
  | (refine rf_rc (rf_sortAT ?_))
  | (refine rf_rc (rf_sortAI ?_))
  | (refine ae_callS ?_)
  | (refine ae_dict0 ?_)
  | (refine ⟨_, rfl, ?_⟩)
  | (refine ⟨_, _, rfl, ?_⟩))
local macro_rules | `(tactic| walk_at "fs1") => `(tactic| with_reducible (refine' so_set ?hn ?_; (case hn => (with_unfolding_all walk_at "nr"))))
local macro_rules | `(tactic| walk_at "fb") => `(tactic| repeat (walk_at "fb1"))
local macro_rules | `(tactic| walk_at "ft") => `(tactic| repeat (first | walk_at "fb1" | walk_at "fs1"))
local macro_rules | `(tactic| walk_at "fb1") => `(tactic| with_reducible first
  | (refine use_is_number ?_)
  | (refine use_is_club ?_)
  | (refine use_are_clubs ?_)
  | (refine use_wrong_part ?_)
  | (refine use_is_town ?_)
  | (refine use_check_rule ?_)
  | (refine use_suits ?_)
  | (refine use_wrong_size ?_)
  | (refine use_all_rules ?_))

/-! ### what the law makes of an error -/
structure ErrW (K : Frg) (mg : Str → Option Value) (C CT : Addr) : Prop where
  T : XfC K C
  no1 : PySem.W.findIn K (.ref C) "line" = some none
  no2 : PySem.W.findIn K (.ref C) "word" = some none
  g1 : mg "BadLine" = some (.ref C)
  g2 : mg "BadText" = some (.ref CT)
  m1 : PySem.W.exmOne K (.ref C) (.ref C) = some true
  m2 : PySem.W.exmOne K (.ref CT) (.ref C) = some false
  m3 : PySem.W.exmOne K (.ref CT) (.ref CT) = some true
def outD {α : Type} : Told α → Da
  | .inl (l, m) => .tuple [.int l, .int m]
  | .inr _ => .str ""
def W__law_refusal : WP := fun ds P => (∃ x : Sg, ds = [encW x] ∧ x.length ≤ 50000 ∧ OkL x ∧ P (outD (readT x))) ∨ ∃ d : Da, ds = [d] ∧ isSt d = false ∧ P (.str "text")
theorem len__law_refusal : ∀ ds P, W__law_refusal ds P → ds.length = 1 := by rintro ds P (⟨c, rfl, -⟩ | ⟨d, rfl, -⟩) <;> rfl
/-- the texts that are refused, or not -/
def REFS : List (Str × Option (Int × Int)) := [("", some (2, 1)), ("people", some (1, 2)), ("peoples 2", some (1, 1)), ("people 0", some (1, 2)), ("people 9", some (1, 2)), ("people 02", some (1, 2)), ("people 2 2", some (1, 3)), ("people 2", none), ("people 2\nclub", none),
  ("people 2\nclubs 0", some (2, 1)), ("people 2\nclub 2", some (2, 2)), ("people 2\nclub 1 0", some (2, 3)), ("people 2\nclub 0 0", some (2, 3)), ("people 2\nclub 01", some (2, 2)), ("people 2\nclub 0 x", some (2, 3)),
  ("people 2\nclub 0\nclub 0", some (3, 1)), ("people 2\nclub 0\nclub", some (3, 1)), ("people 3\nclub 1\nclub 0 2", some (3, 1)), ("people 3\nclub 1\nclub 0 3", some (3, 3)), ("\n", some (3, 1)), ("\n\npeople 3\n\nclub 1 1", some (5, 3)), ("people x", some (1, 2)),
  ("people 8\nclub\nclub 0 7\nclub 7", none), ("people 1\nclub 0\npeople 1", some (3, 1)), ("people 2\nclub 00", some (2, 2))]
def dueX : Option (Int × Int) → Da
  | some (l, m) => .tuple [.int l, .int m]
  | none => .str ""
def encR (p : Str × Option (Int × Int)) : Da := .tuple [.str p.1, dueX p.2]
def W__law_refused : WP := fun ds P => ds = [] ∧ P (.list (REFS.map encR))
theorem len__law_refused : ∀ ds P, W__law_refused ds P → ds.length = 0 := by rintro ds P ⟨rfl, -⟩; rfl
def dueOf {α : Type} : Told α → Option (Int × Int)
  | .inl e => some e
  | .inr _ => none
/-- all of them, worked out -/
theorem refs_ok : REFS.all (fun p => decide (dueOf (readT (toL p.1)) = p.2) && decide ((toL p.1).length ≤ 50000) && (toL p.1).all (· < 0x110000)) = true := by decide +kernel
theorem wy_mono {C CT : Addr} {ds : List Da} {P P' : Da → Prop} {R : RL} (h : WY_read_town C CT ds P R) (i : ∀ d, P d → P' d) : WY_read_town C CT ds P' R := by
  rcases h with ⟨x, e, hl, ok, t⟩ | h
  · refine .inl ⟨x, e, hl, ok, ?_⟩
    revert t
    cases readT x with
    | inl q => exact fun t => t
    | inr q => exact fun t => i _ t
  · exact .inr h
section
variable {P : Program} {w : World} {K : Frg} {mg : Str → Option Value} {base : Heap}
theorem def__law_refusal (F : FunAt K mg "_law_refusal" ["text"] s__law_refusal) (B : Blt mg) {C CT : Addr} (y_read_town : DefY P w K mg base 4 "read_town" ["text"] (WY_read_town C CT)) (W : ErrW K mg C CT) : DefAt P w K mg base 5 "_law_refusal" ["text"] (spW K W__law_refusal) := by
  have nd := sc__law_refusal.nd
  refine mk_def (W := W__law_refusal) F sc__law_refusal (fun ds P hw => len__law_refusal ds P hw) (fun f cdv A outer s H E hr => ⟨_, pss_cons (L2N.ps_try_2 (i := 1) rfl rfl nd (by rfl) (by rfl) ⟨by rfl, by decide, .inl W.g1⟩ ⟨by rfl, by decide, .inl W.g2⟩
    (fun Wx pn xe tk _ => pss_one (ps_expr (pe_defY ⟨rfl, rfl, rfl, rfl, rfl⟩ y_read_town (by exact hr.mono (by decide)) (by rfl) tk (pa_cons (pv 0) pa_nil))))
    (fun a oe cls d pn hz hd => pss_one (ps_ret (pe_tup (pa_cons (pe_xf W.T W.no1 hz.zc hd (pv 1)) (pa_cons (pe_xf W.T W.no2 hz.zc hd (pv 1)) pa_nil)))))
    (fun a oe cls d pn hz hd => pss_one (ps_ret pe_str))) (pss_one (ps_ret pe_str)), fun ds Q hw => ?_⟩)
  try dsimp only [cxOf]
  have hw' : ∃ d : Da, ds = [d] ∧ WY_read_town C CT [d] (fun _ => Q (.str "")) (fun c o => (c = .ref C ∧ ∃ p, o = some p ∧ Q (.tuple [.int p.1, .int p.2])) ∨ (c = .ref CT ∧ Q (.str "text"))) := by
    rcases hw with ⟨x, rfl, hl, ok, p⟩ | ⟨d, rfl, hd, p⟩
    · refine ⟨_, rfl, .inl ⟨x, rfl, hl, ok, ?_⟩⟩
      cases e : readT x with
      | inl q => rw [e] at p; exact .inl ⟨rfl, q, rfl, p⟩
      | inr q => rw [e] at p; exact p
    · exact ⟨d, rfl, .inr ⟨d, rfl, hd, .inr ⟨rfl, p⟩⟩⟩
  obtain ⟨d, rfl, hy⟩ := hw'
  show SO K _ [.dat d, .un] _
  refine so_seq (so_tryY (i := 1) (R := fun c o => (c = .ref C ∧ ∃ p, o = some p ∧ Q (.tuple [.int p.1, .int p.2])) ∨ (c = .ref CT ∧ Q (.str "text"))) (te := fun Wx => tCallS (spY K (WY_read_town C CT)) (L2.WE Wx) (tCons (tVar 0) tNil)) (fun Wx => ay_call (aa_cons (ae_var (i := 0) rfl (aa_nil (wy_mono hy fun d' p => thenO_nx (so_ret (ae_str p))))))) ?_)
  rintro c o rc B' Hs H1s H' H1' σ D dx st fin ea
  rcases rc with ⟨rfl, ⟨l, m⟩, rfl, q⟩ | ⟨rfl, q⟩
  · exact .inl ⟨W.m1, fun a _ => ret_two (i := 1) st fin ea (show 1 < 2 by decide) q⟩
  · exact .inr ⟨W.m2, .inl ⟨W.m3, fun a _ => ret_word (i := 1) (τ := σ.set 1 (some (.ref a))) (D := D) st fin q⟩⟩
theorem def__law_refused (F : FunAt K mg "_law_refused" [] s__law_refused) (B : Blt mg)  : DefAt P w K mg base 1 "_law_refused" [] (spW K W__law_refused) := by
  have nd := sc__law_refused.nd
  refine mk_def (W := W__law_refused) F sc__law_refused (fun ds P hw => len__law_refused ds P hw) (fun f cdv A outer s H E hr => ⟨_, (pss_cons (ps_set (i := 0) nd rfl (by first | exact Or.inl rfl | exact Or.inr rfl) (pe_lst (pa_cons (pe_tup (pa_cons pe_str (pa_cons (pe_tup (pa_cons pe_int (pa_cons pe_int pa_nil))) pa_nil))) (pa_cons (pe_tup (pa_cons pe_str (pa_cons (pe_tup (pa_cons pe_int (pa_cons pe_int pa_nil))) pa_nil))) (pa_cons (pe_tup (pa_cons pe_str (pa_cons (pe_tup (pa_cons pe_int (pa_cons pe_int pa_nil))) pa_nil))) pa_nil)))))
    (pss_cons (ps_set (i := 0) nd rfl (by first | exact Or.inl rfl | exact Or.inr rfl) (pe_op (op_addK (K := K) (by rfl)) (pv 0) (pe_lst (pa_cons (pe_tup (pa_cons pe_str (pa_cons (pe_tup (pa_cons pe_int (pa_cons pe_int pa_nil))) pa_nil))) (pa_cons (pe_tup (pa_cons pe_str (pa_cons (pe_tup (pa_cons pe_int (pa_cons pe_int pa_nil))) pa_nil))) (pa_cons (pe_tup (pa_cons pe_str (pa_cons (pe_tup (pa_cons pe_int (pa_cons pe_int pa_nil))) pa_nil))) pa_nil))))))
    (pss_cons (ps_set (i := 0) nd rfl (by first | exact Or.inl rfl | exact Or.inr rfl) (pe_op (op_addK (K := K) (by rfl)) (pv 0) (pe_lst (pa_cons (pe_tup (pa_cons pe_str (pa_cons (pe_tup (pa_cons pe_int (pa_cons pe_int pa_nil))) pa_nil))) (pa_cons (pe_tup (pa_cons pe_str (pa_cons pe_str pa_nil))) (pa_cons (pe_tup (pa_cons pe_str (pa_cons pe_str pa_nil))) pa_nil))))))
    (pss_cons (ps_set (i := 0) nd rfl (by first | exact Or.inl rfl | exact Or.inr rfl) (pe_op (op_addK (K := K) (by rfl)) (pv 0) (pe_lst (pa_cons (pe_tup (pa_cons pe_str (pa_cons (pe_tup (pa_cons pe_int (pa_cons pe_int pa_nil))) pa_nil))) (pa_cons (pe_tup (pa_cons pe_str (pa_cons (pe_tup (pa_cons pe_int (pa_cons pe_int pa_nil))) pa_nil))) pa_nil)))))
    (pss_cons (ps_set (i := 0) nd rfl (by first | exact Or.inl rfl | exact Or.inr rfl) (pe_op (op_addK (K := K) (by rfl)) (pv 0) (pe_lst (pa_cons (pe_tup (pa_cons pe_str (pa_cons (pe_tup (pa_cons pe_int (pa_cons pe_int pa_nil))) pa_nil))) (pa_cons (pe_tup (pa_cons pe_str (pa_cons (pe_tup (pa_cons pe_int (pa_cons pe_int pa_nil))) pa_nil))) pa_nil)))))
    (pss_cons (ps_set (i := 0) nd rfl (by first | exact Or.inl rfl | exact Or.inr rfl) (pe_op (op_addK (K := K) (by rfl)) (pv 0) (pe_lst (pa_cons (pe_tup (pa_cons pe_str (pa_cons (pe_tup (pa_cons pe_int (pa_cons pe_int pa_nil))) pa_nil))) (pa_cons (pe_tup (pa_cons pe_str (pa_cons (pe_tup (pa_cons pe_int (pa_cons pe_int pa_nil))) pa_nil))) pa_nil)))))
    (pss_cons (ps_set (i := 0) nd rfl (by first | exact Or.inl rfl | exact Or.inr rfl) (pe_op (op_addK (K := K) (by rfl)) (pv 0) (pe_lst (pa_cons (pe_tup (pa_cons pe_str (pa_cons (pe_tup (pa_cons pe_int (pa_cons pe_int pa_nil))) pa_nil))) (pa_cons (pe_tup (pa_cons pe_str (pa_cons (pe_tup (pa_cons pe_int (pa_cons pe_int pa_nil))) pa_nil))) pa_nil)))))
    (pss_cons (ps_set (i := 0) nd rfl (by first | exact Or.inl rfl | exact Or.inr rfl) (pe_op (op_addK (K := K) (by rfl)) (pv 0) (pe_lst (pa_cons (pe_tup (pa_cons pe_str (pa_cons (pe_tup (pa_cons pe_int (pa_cons pe_int pa_nil))) pa_nil))) pa_nil))))
    (pss_cons (ps_set (i := 0) nd rfl (by first | exact Or.inl rfl | exact Or.inr rfl) (pe_op (op_addK (K := K) (by rfl)) (pv 0) (pe_lst (pa_cons (pe_tup (pa_cons pe_str (pa_cons (pe_tup (pa_cons pe_int (pa_cons pe_int pa_nil))) pa_nil))) (pa_cons (pe_tup (pa_cons pe_str (pa_cons (pe_tup (pa_cons pe_int (pa_cons pe_int pa_nil))) pa_nil))) pa_nil)))))
    (pss_cons (ps_set (i := 0) nd rfl (by first | exact Or.inl rfl | exact Or.inr rfl) (pe_op (op_addK (K := K) (by rfl)) (pv 0) (pe_lst (pa_cons (pe_tup (pa_cons pe_str (pa_cons (pe_tup (pa_cons pe_int (pa_cons pe_int pa_nil))) pa_nil))) (pa_cons (pe_tup (pa_cons pe_str (pa_cons (pe_tup (pa_cons pe_int (pa_cons pe_int pa_nil))) pa_nil))) pa_nil)))))
    (pss_cons (ps_set (i := 0) nd rfl (by first | exact Or.inl rfl | exact Or.inr rfl) (pe_op (op_addK (K := K) (by rfl)) (pv 0) (pe_lst (pa_cons (pe_tup (pa_cons pe_str (pa_cons pe_str pa_nil))) pa_nil))))
    (pss_one (ps_ret (pe_op (op_addK (K := K) (by rfl)) (pv 0) (pe_lst (pa_cons (pe_tup (pa_cons pe_str (pa_cons (pe_tup (pa_cons pe_int (pa_cons pe_int pa_nil))) pa_nil))) (pa_cons (pe_tup (pa_cons pe_str (pa_cons (pe_tup (pa_cons pe_int (pa_cons pe_int pa_nil))) pa_nil))) pa_nil))))))))))))))))), fun ds P hw => ?_⟩)
  try dsimp only [cxOf]
  obtain ⟨rfl, p⟩ := hw
  show SO K _ [.un] _
  repeat (first | walk_at "fb1" | walk_at "fs1" | (refine af_ae (af_lst ?_)) | (refine rr_addL (by show _ + _ ≤ 16777216; simp only [List.length_append, List.length_cons, List.length_nil]; omega) ?_) | (refine ⟨by show _ ≤ 16777216; simp only [List.length_cons, List.length_nil]; omega, ?_⟩))
  exact p
end
end Ft

/-! part: K07x -/
set_option Elab.async false
set_option linter.all false
set_option maxRecDepth 100000
set_option pp.maxSteps 1500
set_option maxHeartbeats 0
namespace Ft
open PySem L2 PyProof.Rows
/-! ### a pick of a written text: the value itself -/
structure Cn where
  x : Str
  j : Nat
  p : Pos
abbrev Cn.e (c : Cn) : Expr := .Constant (.str c.x) c.j c.p
def itsOf (t : Nat) : List Cn → List Value
  | [] => []
  | c :: r => .str c.x t :: itsOf (t + 1) r
theorem its_len : ∀ (cs : List Cn) (t : Nat), (itsOf t cs).length = cs.length
  | [], _ => rfl
  | c :: r, t => congrArg (· + 1) (its_len r (t + 1))
theorem its_get : ∀ {cs : List Cn} {t j : Nat} {u : Value}, (itsOf t cs)[j]? = some u → ∃ c, cs[j]? = some c ∧ u = .str c.x (t + j)
  | [], _, _, _, h => by simp [itsOf] at h
  | c :: r, t, 0, u, h => by
    have e : Value.str c.x t = u := Option.some.inj h
    exact ⟨c, rfl, e.symm⟩
  | c :: r, t, j + 1, u, h => by
    obtain ⟨c', h1, h2⟩ := its_get (cs := r) (t := t + 1) (j := j) (u := u) h
    exact ⟨c', h1, by rw [h2, show t + 1 + j = t + (j + 1) from by omega]⟩
theorem its_vals : ∀ (cs : List Cn) (t : Nat), Vals (cs.map fun c => V.str c.x) (itsOf t cs)
  | [], _ => .nil
  | c :: r, t => .cons ⟨t, rfl⟩ (its_vals r (t + 1))
theorem consts_run {M : Model} {A : Around} {env : Env} {pos : Pos} {E : Value → Shared → Prop} : ∀ (cs : List Cn) (s : Shared) (Q : List Value → Shared → Prop), Q (itsOf s.toks cs) { s with toks := s.toks + cs.length } → wpAny M A (spliced (backTo pos (starEach (cs.map Cn.e) env))) Q E s
  | [], s, Q, h => Calls.spliced_nil h
  | c :: r, s, Q, h => by
    show wpAny M A (spliced ((false, eval (.Constant (.str c.x) c.j c.p) env) :: backTo pos (starEach (r.map Cn.e) env))) Q E s
    refine Calls.spliced_cons (Calls.Constant_str (consts_run r _ _ ?_))
    have e : s.toks + 1 + r.length = s.toks + (r.length + 1) := by omega
    show Q (.str c.x s.toks :: itsOf (s.toks + 1) r) { s with toks := s.toks + 1 + r.length }
    rw [e]
    exact h
section
variable {P : Program} {w : World} {K : Frg} {mg : Str → Option Value} {base : Heap}
/-- it gives a value -/
def onlyRet (R : Value → Shared → Prop) : Result → Shared → Prop := fun r s' => match r with
  | .ok (.ret u) => R u s'
  | .ok _ => False
  | .error _ => False
def PickAt (P : Program) (w : World) (K : Frg) (mg : Str → Option Value) (base : Heap) (ga : Addr) : Prop :=
  mg "_law_pick" = some (.ref ga) ∧ PySem.W.keepIn K (.ref ga) = true ∧ ∀ (A : Around) (outer : List Env) (s : Shared) (H H0 : Hp) (r a : Addr) (o : Obj) (us : Array Value) (n : Nat) (xs : List V) (R : Value → Shared → Prop),
    Room 2 A → Env0 P w K mg base A outer s H → Ex H0 H → RowAt K H0 H r → H a = some (.frz o (.lst xs)) → o.cls = .type "list" → o.data = .seq us n → 0 < us.size → us.size ≤ 1000 → Vals xs us.toList →
    (∀ (j : Nat) (u : Value) (v : V) (s' : Shared) (H' H2 : Hp), us[j]? = some u → xs[j]? = some v → RelV v u → Gr K (fun b => b = r) H0 H H' H2 → CE outer P w H s (fun y G => y = v ∧ G = H2) u s' → R u s') →
    codeAny (model P w) A (.call (.ref ga) ⟨[.ref r, .ref a], []⟩) (onlyRet R) s
theorem pick_run (F : FunAt K mg "_law_pick" ["row", "things"] s__law_pick) (B : Blt mg) (d : DefAt P w K mg base 1 "_law_taken" ["row", "many"] (spR K W__law_taken)) : ∃ ga, PickAt P w K mg base ga := by
  obtain ⟨f, fd, Fn, b, m⟩ := F.ex
  have kp := Fn.kp
  obtain ⟨oc, od, kV, doc, pm, an, cdv, ct, osl, rfl, lk, hcd⟩ := Fn.ex
  refine ⟨f, m, kp, fun A outer s H H0 r a o us n xs R hr e0 e rx ha hc hd hpos hbig hv hR => ?_⟩
  have S := sc__law_pick
  have nd := sc__law_pick.nd
  have KX : K.In s.heap := e0.mod.kin.keeps fun b o e => (e0.bs b o e).1
  have lim : s.heap.NoLimit := e0.mod.nolimit.keeps fun b o e => (e0.bs b o e).1
  have hkind : ∀ y ∈ (["row", "things"] : List Str).zip [Value.ref r, .ref a], (defScope s__law_pick).names.lookup y.1 = some .local ∨ ((defScope s__law_pick).names.lookup y.1 = some .cell ∧ ((cellsFrom (s.heap.objs.size + 1) (defScope s__law_pick).names []).lookup y.1).isSome = true) := fun ⟨n, v⟩ hy => by
    rcases S.par n (List.of_mem_zip hy).1 with q | q
    · exact .inl q
    · exact .inr ⟨q, PySem.W.cellsFrom_some _ _ _ (.inl q)⟩
  have bb := b s [Value.ref r, .ref a] KX rfl
  rw [List.append_nil] at bb
  refine codeAny_call_function hr.depth (KX _ _ lk) rfl S.co S.gen rfl (PySem.W.codeRec_of KX hcd) (bb _ _ _ _ ?_)
  refine wpAny_newFunctionEnv_cells S.kind hkind fun env he s1 x => ?_
  subst he
  refine ⟨lim.keeps x.toInCall.keep, codeAny_func ?_⟩
  have hr' := hr.deeper (PyProof.Rows.envOfC "_law_pick" (defScope s__law_pick) s.heap.objs.size f cdv)
  have I : Inv (cxOf CX0 P w K mg base N__law_pick "_law_pick" (defScope s__law_pick) f cdv A outer s H E0) [] (start N__law_pick [.ref r, .ref a]) H s1 := inv_start S hr.hd e0 rfl (.cons rfl (.cons rfl .nil)) x
  refine wpAny_execs_cons (wpAny_Return_some (Subscript_ (raw_name (X := cxOf CX0 P w K mg base N__law_pick "_law_pick" (defScope s__law_pick) f cdv A outer s H E0) (i := 1) (v := .ref a) rfl (.inl (by rfl)) I rfl (fun v rv => ?_))))
  have e1 : v = Value.ref a := rv
  subst e1
  have hfr : SqL K H a xs := .inl (.inr ⟨o, ha⟩)
  have hxs : xs.length = us.size := by rw [hv.length, Array.length_toList]
  have ne : a ≠ r := fun z => by
    obtain ⟨_, _, _, _, _, _, hr2, _⟩ := rx
    rw [z, hr2] at ha
    cases ha
  refine thn ((pe_def (X := cxOf CX0 P w K mg base N__law_pick "_law_pick" (defScope s__law_pick) f cdv A outer s H E0) d (hr'.mono (by decide)) (by rfl) (pa_cons (pv 0) (pa_cons (pe_callB (call_lenK (K := K) (by rfl)) (by rfl) B.m_len PySem.boot_len (pa_cons (pv 1) pa_nil)) pa_nil))).run [] s1 _ H
    (fun y H2 => ∃ (i : Int) (H' : Hp), y = .int i ∧ 0 ≤ i ∧ i < (xs.length : Int) ∧ Gr K (fun b => b = r) H0 H H' H2) I ?_) fun iv s2 hi => ?_
  · exact ⟨V.ref r, rfl, V.ref a, rfl, a, xs, rfl, .inl hfr, r, [.int xs.length], [.int xs.length], fun d => ∃ i : Int, d = .int i ∧ 0 ≤ i ∧ i < (xs.length : Int), H0, rfl, e, rx, .cons (.int _) .nil, ⟨_, rfl, by omega, by omega, fun i i0 i1 => ⟨i, rfl, i0, i1⟩⟩, fun d ⟨i, ed, i0, i1⟩ v H' H2 g dv => by subst ed; cases dv; exact ⟨i, H', rfl, i0, i1, g⟩⟩
  · obtain ⟨y, H2, I2, ry, i, H', rfl, i0, i1, gr⟩ := hi
    obtain ⟨ti, rfl⟩ := ry
    have h2a := gr.c a _ ne ha
    obtain ⟨h5, _⟩ := I2.hok a _ h2a
    have hi : i.toNat < xs.length := by omega
    obtain ⟨u, hu, ru⟩ := Vals.get hv (List.getElem?_eq_getElem hi)
    have hu' : us[i.toNat]? = some u := by rw [← Array.getElem?_toList]; exact hu
    exact item_listR (⟨o, h5, hc, n, hd⟩) i0 (by omega) hu' (hR i.toNat u _ s2 H' H2 hu' (List.getElem?_eq_getElem hi) ru gr ⟨_, H2, I2.os, I2.bare, I2.base, I2.hok, ru, rfl, rfl⟩) rfl
/-- the call with a written list -/
theorem pk_run {X : Cx} {ga : Addr} {ir : Nat} {pins : List (Addr × Obj)} {σ : L2.St} {H H0 : Hp} {s : Shared} {r : Addr} {cs : List Cn} {p p2 lp pos : Pos} {Q : Value → Shared → Prop} (hX : X.prog = P ∧ X.w = w ∧ X.K = K ∧ X.mg = mg ∧ X.base = base) (pk : PickAt P w K mg base ga) (hg : Gl X "_law_pick") (hr : Room 2 X.A)
    (hN : X.N[ir]? = some ("row" : Str)) (hv : Vis X.env.scope "row") (I : Inv X pins σ H s) (hσ : σ[ir]? = some (some (.ref r))) (e : Ex H0 H) (rx : RowAt K H0 H r) (n0 : cs ≠ []) (n1 : cs.length ≤ 1000)
    (fin : ∀ (c : Cn) (t : Tok) (s' : Shared) (H' H2 : Hp), c ∈ cs → s.toks ≤ t → s.toks + cs.length ≤ s'.toks → Gr K (fun b => b = r) H0 H H' H2 → Inv X pins σ H2 s' → Q (.str c.x t) s')
    (he : starEach [.Name "row" p2, .List (cs.map Cn.e) lp] X.env = (false, eval (.Name "row" p2) X.env) :: starEach [.List (cs.map Cn.e) lp] X.env := by rfl) (hpl : (backTo pos (starEach [.List (cs.map Cn.e) lp] X.env)).any (·.1) = false := by rfl) :
    wpAny (model X.prog X.w) X.A (eval (.Call (.Name "_law_pick" p) [.Name "row" p2, .List (cs.map Cn.e) lp] [] pos) X.env) Q X.xe s := by
  obtain ⟨e1, e2, e3, e4, e5⟩ := hX
  subst e1 e2 e3 e4 e5
  obtain ⟨m, kp, run⟩ := pk
  refine wpAny_Call_Name_kw (ld_glob I hg m ?_ (by decide))
  refine PySem.W.callWith_K (h₀ := X.base) I.ok.mod.kin kp ?_ he hpl
  show wpAny _ _ (spliced ((false, eval (.Name "row" p2) X.env) :: backTo pos (starEach [.List (cs.map Cn.e) lp] X.env))) _ _ s
  refine Calls.spliced_cons (raw_name hN hv I hσ (fun v rv => ?_))
  have e1 : v = Value.ref r := rv
  subst e1
  show wpAny _ _ (spliced ((false, eval (.List (cs.map Cn.e) lp) X.env) :: backTo pos (starEach [] X.env))) _ _ s
  refine Calls.spliced_cons (wpAny_List_spliced (consts_run cs s _ ?_))
  have hlen := its_len cs s.toks
  refine ⟨by rw [hlen]; exact Nat.le_trans n1 (by decide), ?_⟩
  have hf : H s.heap.objs.size = none := I.hok.fresh (Nat.le_refl _)
  have hz : (cs.map fun c => V.str c.x).length ≤ sizeLine := by rw [List.length_map]; exact Nat.le_trans n1 (by decide)
  have hvals := its_vals cs s.toks
  have hzi : (itsOf s.toks cs).length ≤ sizeLine := by rw [hlen]; exact Nat.le_trans n1 (by decide)
  have I1 : Inv X pins σ (upd H s.heap.objs.size (.frz { cls := .type "list", data := .seq (itsOf s.toks cs).toArray } (.lst (cs.map fun c => V.str c.x)))) { s with toks := s.toks + cs.length, heap := s.heap.push { cls := .type "list", data := .seq (itsOf s.toks cs).toArray } } :=
    I.laid (t' := s.toks + cs.length) (fun b u e => Heap.get?_push_of_some _ e) (Nat.le_refl _) ⟨Heap.get?_push_size _ rfl, hz, itsOf s.toks cs, _, hvals, Heap.get?_push_size _ rfl⟩
  refine Calls.spliced_nil ⟨I1.kIn, ?_⟩
  have ex1 : Ex H (upd H s.heap.objs.size (.frz { cls := .type "list", data := .seq (itsOf s.toks cs).toArray } (.lst (cs.map fun c => V.str c.x)))) := Evl.Ex.new hf
  have pos0 : 0 < cs.length := by
    cases cs with
    | nil => exact absurd rfl n0
    | cons c r => simp
  have rc := run X.A X.stack _ _ H0 r s.heap.objs.size _ (itsOf s.toks cs).toArray _ _ (fun u s' => s.toks + cs.length ≤ s'.toks → Q u s') hr I1.env0 (e.trans ex1) (rx.keep (Evl.Ex.refl _) rx.1 fun o q => by rw [upd_ne (ne_of_none q hf)]; exact q) upd_same rfl rfl (by rw [List.size_toArray, hlen]; exact pos0) (by rw [List.size_toArray, hlen]; exact n1) hvals
    (fun j u v s' H' H2 hu hv rv gr ce hk => by
      obtain ⟨c, hc, rfl⟩ := its_get (cs := cs) (t := s.toks) (j := j) (u := u) (by simpa using hu)
      obtain ⟨y, G, J, ry, rfl, rfl⟩ := I1.after ce
      refine fin c _ s' H' G (List.mem_of_getElem? hc) (Nat.le_add_right _ _) hk ⟨gr.a, gr.b, fun x o nx q => gr.c x o nx ?_, fun x o q m => gr.d x o ?_ m, gr.e⟩ J
      · rw [upd_ne (ne_of_none q hf)]
        exact q
      · rw [upd_ne (ne_of_none q hf)]
        exact q)
  refine wpAny_mono (PySem.wpAny_toks (wpAny_call (Q := fun u s' => s.toks + cs.length ≤ s'.toks → Q u s') (E := X.xe) (codeAny_mono rc fun r s2 hq => ?_))) (fun u s2 hq => hq.2 hq.1) fun _ _ z => z.2
  cases r with
  | error e => exact (show False from hq).elim
  | ok fl =>
    cases fl with
    | ret u => exact hq
    | next => exact (show False from hq).elim
    | brk => exact (show False from hq).elim
    | cont => exact (show False from hq).elim
end
end Ft

/-! part: K07u -/
set_option Elab.async false
set_option linter.all false
set_option maxRecDepth 100000
set_option pp.maxSteps 1500
set_option maxHeartbeats 0
namespace Ft
open PySem L2 PyProof.Rows
theorem none_booked {X : Cx} {pins : List (Addr × Obj)} {σ : L2.St} {H : Hp} {s : Shared} (h1 : PySem.W.nsOkIn X.K cStatics = true) (h2 : PySem.W.nsIn X.K cStatics sharingNotToldKey = some none) (I : Inv X pins σ H s) : NoneBooked s.heap :=
  ⟨s.heap.nsMap cStatics, .of_isNs (PySem.W.isNs_of_in I.kIn h1), PySem.W.nsMap_none_of_in I.kIn h1 h2⟩
section
variable {P : Program} {w : World} {K : Frg} {mg : Str → Option Value} {base : Heap}
/-- e.replace(y, a pick) -/
theorem repl_run {X : Cx} {ga : Addr} {ir io : Nat} {pins : List (Addr × Obj)} {σ : L2.St} {H H0 : Hp} {s : Shared} {r : Addr} {cs : List Cn} {on x y : Str} {j : Nat} {p p1 p2 cp lp apos pos ppos : Pos} {Q : Value → Shared → Prop} (hX : X.prog = P ∧ X.w = w ∧ X.K = K ∧ X.mg = mg ∧ X.base = base) (pk : PickAt P w K mg base ga)
    (hb1 : PySem.W.nsOkIn X.K cStatics = true) (hb2 : PySem.W.nsIn X.K cStatics sharingNotToldKey = some none) (hg : Gl X "_law_pick") (hr : Room 2 X.A)
    (hN : X.N[ir]? = some ("row" : Str)) (hv : Vis X.env.scope "row") (hNo : X.N[io]? = some on) (hvo : Vis X.env.scope on) (I : Inv X pins σ H s) (hσ : σ[ir]? = some (some (.ref r))) (hσo : σ[io]? = some (some (.str x))) (e : Ex H0 H) (rx : RowAt K H0 H r) (n0 : cs ≠ []) (n1 : cs.length ≤ 1000)
    (h0 : 1 ≤ s.toks) (hl : ∀ c ∈ cs, x.length + (x.length + 1) * c.x.length ≤ 16777216)
    (fin : ∀ (c : Cn) (t : Tok) (s' : Shared) (H' H2 : Hp), c ∈ cs → Gr K (fun b => b = r) H0 H H' H2 → Inv X pins σ H2 s' → Q (.str (Txt.replace x y c.x) t) s')
    (hdo : (on == ("__debug__" : Str)) = false := by decide) (hco : (on == ("__classdict__" : Str)) = false := by decide)
    (he : starEach [.Name "row" p2, .List (cs.map Cn.e) lp] X.env = (false, eval (.Name "row" p2) X.env) :: starEach [.List (cs.map Cn.e) lp] X.env := by rfl) (hpl : (backTo ppos (starEach [.List (cs.map Cn.e) lp] X.env)).any (·.1) = false := by rfl)
    (hst : starEach [.Constant (.str y) j cp, .Call (.Name "_law_pick" p) [.Name "row" p2, .List (cs.map Cn.e) lp] [] ppos] X.env = [(false, eval (.Constant (.str y) j cp) X.env), (false, eval (.Call (.Name "_law_pick" p) [.Name "row" p2, .List (cs.map Cn.e) lp] [] ppos) X.env)] := by rfl)
    (hbase : attributeBase (.Name on p1) "replace" X.env (eval (.Name on p1) X.env) = eval (.Name on p1) X.env := by rfl) (hline : (apos.endLine == pos.line) = true := by rfl) :
    wpAny (model X.prog X.w) X.A (eval (.Call (.Attribute (.Name on p1) "replace" apos) [.Constant (.str y) j cp, .Call (.Name "_law_pick" p) [.Name "row" p2, .List (cs.map Cn.e) lp] [] ppos] [] pos) X.env) Q X.xe s := by
  refine PySem.Call_method2 hbase hst hline (raw_name hNo hvo I hσo (fun v rv => ?_) hdo hco)
  obtain ⟨tx, rfl⟩ := rv
  refine ⟨"str", _, F.plainAttrs_str, F.slot_str_replace, F.type_str_replace, typeIs_str _ _ _, (fun _ e => nomatch e), Calls.callWith_builtin rfl (Calls.evalArgs_plain (Calls.spliced_cons (Calls.Constant_str (Calls.spliced_cons ?_))))⟩
  refine pk_run hX pk hg hr hN hv (I.tok (s.toks + 1)) hσ e rx n0 n1 (fun c t s' H' H2 hc ht hs gr J => ?_) he hpl
  have ht' : s.toks + 1 ≤ t := ht
  refine Calls.spliced_nil (PySem.SC.replaceA (u := s.toks) (by show s.toks ≠ 0; omega) (by show t ≠ 0; intro z; rw [z] at ht'; exact absurd ht' (by omega)) (by show s.toks ≠ t; intro z; rw [← z] at ht'; exact absurd ht' (by omega)) (hl c hc) (fun t' k => fin c t' _ H' H2 hc gr (J.tok k)) (none_booked hb1 hb2 J))
/-- loose = pick + text.replace(' ', pick); return loose.replace('\n', pick) + pick -/
def tLoose (K : Frg) (c1 c2 c3 c4 : List Cn) (y1 y2 : Str) : TS := fun D σ H => ∃ (r : Addr) (x : Str) (H0 : Hp), σ[0]? = some (some (.ref r)) ∧ σ[1]? = some (some (.str x)) ∧ 2 < σ.length ∧ Ex H0 H ∧ RowAt K H0 H r ∧ x.length ≤ 3000 ∧
  ∀ a ∈ c1, ∀ b ∈ c2, ∀ c ∈ c3, ∀ d ∈ c4, ∀ H' H2, Gr K (fun b => b = r) H0 H H' H2 → D.rt (.str (Txt.replace (a.x ++ Txt.replace x y1 b.x) y2 c.x ++ d.x)) H2
theorem pss_loose {X : Cx} {ga : Addr} {c1 c2 c3 c4 : List Cn} {y1 y2 : Str} {j1 j2 : Nat} {a1 a2 a3 a4 a5 a6 a7 a8 a9 b1 b2 b3 b4 b5 b6 b7 b8 b9 d1 d2 d3 d4 d5 d6 d7 d8 d9 b1' b2' : Pos} (hX : X.prog = P ∧ X.w = w ∧ X.K = K ∧ X.mg = mg ∧ X.base = base) (pk : PickAt P w K mg base ga)
    (hb1 : PySem.W.nsOkIn X.K cStatics = true) (hb2 : PySem.W.nsIn X.K cStatics sharingNotToldKey = some none) (hg : Gl X "_law_pick") (hr : Room 2 X.A) (nd : X.N.Nodup)
    (hN0 : X.N[0]? = some ("row" : Str)) (hv0 : Vis X.env.scope "row") (hN1 : X.N[1]? = some ("text" : Str)) (hv1 : Vis X.env.scope "text") (hN2 : X.N[2]? = some ("loose" : Str)) (hv2 : Vis X.env.scope "loose") (hl2 : Loc X.env.scope "loose") (hf2 : X.fn "loose" = true ∨ X.env.scope.names.lookup ("loose" : Str) = some .local)
    (n1 : c1 ≠ [] ∧ c1.length ≤ 1000 ∧ ∀ c ∈ c1, c.x.length ≤ 3) (n2 : c2 ≠ [] ∧ c2.length ≤ 1000 ∧ ∀ c ∈ c2, c.x.length ≤ 3) (n3 : c3 ≠ [] ∧ c3.length ≤ 1000 ∧ ∀ c ∈ c3, c.x.length ≤ 3) (n4 : c4 ≠ [] ∧ c4.length ≤ 1000 ∧ ∀ c ∈ c4, c.x.length ≤ 3)
    (he1 : starEach [.Name "row" a2, .List (c1.map Cn.e) a3] X.env = (false, eval (.Name "row" a2) X.env) :: starEach [.List (c1.map Cn.e) a3] X.env) (hp1 : (backTo a4 (starEach [.List (c1.map Cn.e) a3] X.env)).any (·.1) = false)
    (he2 : starEach [.Name "row" b2, .List (c2.map Cn.e) b3] X.env = (false, eval (.Name "row" b2) X.env) :: starEach [.List (c2.map Cn.e) b3] X.env) (hp2 : (backTo b4 (starEach [.List (c2.map Cn.e) b3] X.env)).any (·.1) = false)
    (hst2 : starEach [.Constant (.str y1) j1 b5, .Call (.Name "_law_pick" b1) [.Name "row" b2, .List (c2.map Cn.e) b3] [] b4] X.env = [(false, eval (.Constant (.str y1) j1 b5) X.env), (false, eval (.Call (.Name "_law_pick" b1) [.Name "row" b2, .List (c2.map Cn.e) b3] [] b4) X.env)])
    (hba2 : attributeBase (.Name "text" b6) "replace" X.env (eval (.Name "text" b6) X.env) = eval (.Name "text" b6) X.env) (hli2 : (b7.endLine == b8.line) = true)
    (he3 : starEach [.Name "row" d2, .List (c3.map Cn.e) d3] X.env = (false, eval (.Name "row" d2) X.env) :: starEach [.List (c3.map Cn.e) d3] X.env) (hp3 : (backTo d4 (starEach [.List (c3.map Cn.e) d3] X.env)).any (·.1) = false)
    (hst3 : starEach [.Constant (.str y2) j2 d5, .Call (.Name "_law_pick" d1) [.Name "row" d2, .List (c3.map Cn.e) d3] [] d4] X.env = [(false, eval (.Constant (.str y2) j2 d5) X.env), (false, eval (.Call (.Name "_law_pick" d1) [.Name "row" d2, .List (c3.map Cn.e) d3] [] d4) X.env)])
    (hba3 : attributeBase (.Name "loose" d6) "replace" X.env (eval (.Name "loose" d6) X.env) = eval (.Name "loose" d6) X.env) (hli3 : (d7.endLine == d8.line) = true)
    (he4 : starEach [.Name "row" a6, .List (c4.map Cn.e) a7] X.env = (false, eval (.Name "row" a6) X.env) :: starEach [.List (c4.map Cn.e) a7] X.env) (hp4 : (backTo a8 (starEach [.List (c4.map Cn.e) a7] X.env)).any (·.1) = false)
    (hs : swapsWith (.BinOp (.Call (.Name "_law_pick" a1) [.Name "row" a2, .List (c1.map Cn.e) a3] [] a4) .Add (.Call (.Attribute (.Name "text" b6) "replace" b7) [.Constant (.str y1) j1 b5, .Call (.Name "_law_pick" b1) [.Name "row" b2, .List (c2.map Cn.e) b3] [] b4] [] b8) b9) (some (.Name "loose" d9)) a9.line X.env = pure false) :
    PSs X [.Assign [.Name "loose" d9] (.BinOp (.Call (.Name "_law_pick" a1) [.Name "row" a2, .List (c1.map Cn.e) a3] [] a4) .Add (.Call (.Attribute (.Name "text" b6) "replace" b7) [.Constant (.str y1) j1 b5, .Call (.Name "_law_pick" b1) [.Name "row" b2, .List (c2.map Cn.e) b3] [] b4] [] b8) b9) a9,
      .Return (some (.BinOp (.Call (.Attribute (.Name "loose" d6) "replace" d7) [.Constant (.str y2) j2 d5, .Call (.Name "_law_pick" d1) [.Name "row" d2, .List (c3.map Cn.e) d3] [] d4] [] d8) .Add (.Call (.Name "_law_pick" a5) [.Name "row" a6, .List (c4.map Cn.e) a7] [] a8) b1')) b2'] (tLoose K c1 c2 c3 c4 y1 y2) := by
  refine ⟨fun pins s σ H D I h => ?_⟩
  obtain ⟨r, x, H0, s0, s1, sl, e, rx, hx, q⟩ := h
  have big : ∀ (x y z : Str) (m : Nat), x.length ≤ m → z.length ≤ 3 → (Txt.replace x y z).length ≤ m + (m + 1) * 3 := fun x y z m h1 h2 => by
    have h := TK.replace_len x y z
    have h3 : (x.length + 1) * z.length ≤ (m + 1) * 3 := Nat.mul_le_mul (by omega) h2
    omega
  have low : ∀ (x z : Str) (m : Nat), x.length ≤ m → z.length ≤ 3 → m ≤ 100000 → x.length + (x.length + 1) * z.length ≤ 16777216 := fun x z m h1 h2 h3 => by
    have h4 : (x.length + 1) * z.length ≤ (m + 1) * 3 := Nat.mul_le_mul (by omega) h2
    omega
  have p1 : 1 ≤ c1.length := by
    have := n1.1
    cases c1 with
    | nil => exact absurd rfl this
    | cons a b => simp
  refine wpAny_execs_cons (wpAny_Assign_Name (wpAny_BinOp (pk_run hX pk hg hr hN0 hv0 I s0 e rx n1.1 n1.2.1 (fun a ta z1 G1 G1' ha _ hk gr1 J1 => ?_) he1 hp1)) hs)
  have rx1 : RowAt K G1 G1' r := gr1.e r rfl
  refine wpAny_mono (PySem.wpAny_toks (repl_run hX pk hb1 hb2 hg hr hN0 hv0 hN1 hv1 J1 s0 s1 gr1.b rx1 n2.1 n2.2.1 (by omega) (fun c hc => low x c.x 3000 hx (n2.2.2 c hc) (by decide))
    (Q := fun u z2 => ∃ b ∈ c2, ∃ t G2 G2', u = .str (Txt.replace x y1 b.x) t ∧ Gr K (fun b => b = r) G1 G1' G2 G2' ∧ Inv X pins σ G2' z2) (fun b t z2 G2 G2' hb gr2 J2 => ⟨b, hb, t, G2, G2', rfl, gr2, J2⟩) (by decide) (by decide) he2 hp2 hst2 hba2 hli2)) (fun u z2 hu => ?_) fun _ _ z => z.2
  obtain ⟨hk2, b, hb, t2, G2, G2', rfl, gr2, J2⟩ := hu
  have hlen1 : (a.x ++ Txt.replace x y1 b.x).length ≤ 12006 := by
    rw [Str.length_append]
    have h1 := n1.2.2 a ha
    have h2 := big x y1 b.x 3000 hx (n2.2.2 b hb)
    omega
  refine wpAny_mono (PySem.wpAny_toks (op_add_str pins z2 σ G2' (.str a.x) (.str (Txt.replace x y1 b.x)) _ _ (fun y G => y = .str (a.x ++ Txt.replace x y1 b.x) ∧ G = G2') J2 ⟨ta, rfl⟩ ⟨t2, rfl⟩ ⟨_, _, rfl, rfl, by rw [← Str.length_append]; exact Nat.le_trans hlen1 (by decide), rfl, rfl⟩)) (fun v z3 hv => ?_) fun _ _ z => z.2
  obtain ⟨hk3, y, G, J3, ry, ey, eG⟩ := hv
  subst ey eG
  refine wpAny_mono (PySem.wpAny_toks (store_ok (v := V.str (a.x ++ Txt.replace x y1 b.x)) (u := v) (Q := fun _ z4 => Inv X pins (σ.set 2 (some (V.str (a.x ++ Txt.replace x y1 b.x)))) G z4) J3 nd hN2 hl2 ry (fun _ J => J) hf2)) (fun _ z4 hz => ?_) fun _ _ z => z.2
  obtain ⟨hk4, J4⟩ := hz
  have s0' : (σ.set 2 (some (V.str (a.x ++ Txt.replace x y1 b.x))))[0]? = some (some (.ref r)) := by rw [List.getElem?_set_ne (by decide)]; exact s0
  have s2' : (σ.set 2 (some (V.str (a.x ++ Txt.replace x y1 b.x))))[2]? = some (some (.str (a.x ++ Txt.replace x y1 b.x))) := by rw [List.getElem?_set_self sl]
  have gr12 := gr1.trans gr2
  have rx2 : RowAt K G2 G r := gr2.e r rfl
  refine wpAny_execs_cons (wpAny_Return_some (wpAny_BinOp (repl_run hX pk hb1 hb2 hg hr hN0 hv0 hN2 hv2 J4 s0' s2' gr12.b rx2 n3.1 n3.2.1 (by omega) (fun c hc => low _ c.x 12006 hlen1 (n3.2.2 c hc) (by decide)) (fun c t5 z5 G3 G3' hc gr3 J5 => ?_) (by decide) (by decide) he3 hp3 hst3 hba3 hli3)))
  have rx3 : RowAt K G3 G3' r := gr3.e r rfl
  refine pk_run hX pk hg hr hN0 hv0 J5 s0' gr3.b rx3 n4.1 n4.2.1 (fun d t6 z6 G4 G4' hd _ _ gr4 J6 => ?_) he4 hp4
  have hlen2 : (Txt.replace (a.x ++ Txt.replace x y1 b.x) y2 c.x ++ d.x).length ≤ sizeLine := by
    rw [Str.length_append]
    have h1 := n4.2.2 d hd
    have h2 := big _ y2 c.x 12006 hlen1 (n3.2.2 c hc)
    show _ ≤ 16777216
    omega
  refine wpAny_mono (op_add_str pins z6 _ G4' (.str (Txt.replace (a.x ++ Txt.replace x y1 b.x) y2 c.x)) (.str d.x) _ _ (fun y G => y = .str (Txt.replace (a.x ++ Txt.replace x y1 b.x) y2 c.x ++ d.x) ∧ G = G4') J6 ⟨t5, rfl⟩ ⟨t6, rfl⟩ ⟨_, _, rfl, rfl, by rw [← Str.length_append]; exact hlen2, rfl, rfl⟩) (fun v z7 hv => ?_) fun _ _ z => z
  obtain ⟨y, G5, J7, ry7, ey, eG⟩ := hv
  subst ey eG
  exact ⟨_, _, _, J7, ry7, q a ha b hb c hc d hd _ _ ((gr12.trans gr3).trans gr4)⟩
end
end Ft

/-! part: K07l -/
set_option Elab.async false
set_option linter.all false
set_option maxRecDepth 100000
set_option pp.maxSteps 1500
set_option maxHeartbeats 0
namespace Ft
open PySem L2
local macro_rules | `(tactic| walk_at "nr") => `(tactic| first | (intro h; cases h; done) | exact jk_nr)
local macro_rules | `(tactic| walk_at "sh") => `(tactic| first | exact sh_int | exact sh_bl | exact sh_non | exact sh_wd | exact sh_odd | exact sh_tupI | exact sh_clubsT | exact sh_clubsL | exact sh_nilL | exact sh_rule | exact sh_rules | assumption)
local macro_rules | `(tactic| walk_at "fb1") => `(tactic| with_reducible first
  | (refine so_seq ?_)
  | (refine so_next ?_)
  | (refine so_ret ?_)
  | (refine so_retN ?_)
  | (refine so_if ?_)
  | (refine' so_append ?he ?_; (case he => (with_unfolding_all exact rfl)))
  | (refine so_drop ?_)
  | (refine thenO_nx ?_)
  | (refine thenO_rt ?_)
  | (refine retO_rt ?_)
  | (refine retO_nx ?_)
  | (refine loopO_nx ?_)
  | (refine loopO_rt ?_)
  | (refine thenO_ct ?_)
  | (refine thenO_bk ?_)
  | (refine loopO_ct ?_)
  | (refine loopO_bk ?_)
  | (refine so_break ?_)
  | (refine so_cont ?_)
  | (refine' so_asg2 ?h2 ?hn ?hm ?_; (case h2 => (with_unfolding_all exact rfl)); (case hn => (with_unfolding_all walk_at "nr")); (case hm => (with_unfolding_all walk_at "nr")))
  | (refine' ae_var ?hv ?_; (case hv => (with_unfolding_all exact rfl)))
  | (refine ae_int ?_)
  | (refine ae_str ?_)
  | (refine ae_bl ?_)
  | (refine ae_non ?_)
  | (refine ae_globD ?_)
  | (refine ae_isI ?_)
  | (refine ae_isB ?_)
  | (refine ae_isT ?_)
  | (refine ae_isL ?_)
  | (refine ae_isS ?_)
  | (refine ae_isTL ?_)
  | (refine ae_op ?_)
  | (refine ae_un ?_)
  | (refine ae_call ?_)
  | (refine ae_cb ?_)
  | (refine ae_tup0 ?_)
  | (refine ae_tup1 ?_)
  | (refine ae_tup2 ?_)
  | (refine ae_lst0 ?_)
  | (refine ae_lst1 ?_)
  | (refine ae_lst2 ?_)
  | (refine ae_tup ?_)
  | (refine ae_andV ?_)
  | (refine ae_orV ?_)
  | (refine ae_notV ?_)
  | (refine ae_ifE ?_)
  | (refine ae_chain ?_)
  | (refine aa_nil ?_)
  | (refine aa_cons ?_)
  | (refine ab_test ?_)
  | (refine ab_val ?_)
  | (refine ab_and ?_)
  | (refine ab_or ?_)
  | (refine ab_not ?_)
  | (refine ab_yes ?_)
  | (refine rr_ltI ?_)
  | (refine rr_ltT ?_)
  | (refine rr_ib ?_)
  | (refine rr_ii ?_)
  | (refine rr_addI ?_)
  | (refine ru_neg ?_)
  | (refine rr_isN ?_)
  | (refine rr_notN ?_)
  | (refine rr_notB ?_)
  | (refine rc_lenL ?_)
  | (refine rc_lenT ?_)
  | (refine rc_tupleL ?_)
  | (refine rc_tupleT ?_)
  | (refine rc_intI ?_)
  | (refine rc_intB ?_)
  | (refine' rr_eqD ?ha ?hb ?_; (case ha => (with_unfolding_all walk_at "sh")); (case hb => (with_unfolding_all walk_at "sh")))
  | (refine' rr_neD ?ha ?hb ?_; (case ha => (with_unfolding_all walk_at "sh")); (case hb => (with_unfolding_all walk_at "sh")))
  | (refine' rr_inT ?ha ?hb ?_; (case ha => (with_unfolding_all walk_at "sh")); (case hb => (with_unfolding_all walk_at "sh")))
  | (refine' rr_inL ?ha ?hb ?_; (case ha => (with_unfolding_all walk_at "sh")); (case hb => (with_unfolding_all walk_at "sh")))
  | (refine' rr_ixT ?ha ?_; (case ha => (with_unfolding_all exact rfl)))
  | (refine' rr_ixL ?ha ?_; (case ha => (with_unfolding_all exact rfl)))
  | (refine' rr_ci ?ha ?_; (case ha => (with_unfolding_all decide)))
  | (refine rf_rc (rf_sortAT ?_))
  | (refine rf_rc (rf_sortAI ?_))
  | (refine ae_callS ?_)
  | (refine ae_dict0 ?_)
  | (refine ⟨_, rfl, ?_⟩)
  | (refine ⟨_, _, rfl, ?_⟩))
local macro_rules | `(tactic| walk_at "fs1") => `(tactic| with_reducible (refine' so_set ?hn ?_; (case hn => (with_unfolding_all walk_at "nr"))))
local macro_rules | `(tactic| walk_at "fb") => `(tactic| repeat (walk_at "fb1"))
local macro_rules | `(tactic| walk_at "ft") => `(tactic| repeat (first | walk_at "fb1" | walk_at "fs1"))
local macro_rules | `(tactic| walk_at "fb1") => `(tactic| with_reducible first
  | (refine use_is_number ?_)
  | (refine use_is_club ?_)
  | (refine use_are_clubs ?_)
  | (refine use_wrong_part ?_)
  | (refine use_is_town ?_)
  | (refine use_check_rule ?_)
  | (refine use_suits ?_)
  | (refine use_wrong_size ?_)
  | (refine use_all_rules ?_))

local macro_rules | `(tactic| walk_at "fb1") => `(tactic| with_reducible first
  | (refine ae_callR ?hr ?_; (case hr => (with_unfolding_all exact rfl))))
/-! ### the loose text -/
def W__law_loose : WP := fun ds P => ∃ x : Sg, ds = [encW x] ∧ x.length ≤ 3000 ∧ ∀ a ∈ [[], [32], [10], [32, 10, 32]], ∀ b ∈ [[32], [32, 32, 32]], ∀ c ∈ [[10], [32, 10], [10, 10], [10, 32, 32]], ∀ d ∈ [[], [32], [10]], P (encW (looseT a b c d x))
theorem loose_is {x a b c d : Sg} : Txt.replace (ofL a ++ Txt.replace (ofL x) " " (ofL b)) "\n" (ofL c) ++ ofL d = ofL (looseT a b c d x) := by
  have e1 := replace_one (ofL x) 32 b
  rw [toL_ofL] at e1
  rw [sp_is, nl_is, e1, ofL_app, replace_one, toL_ofL, ofL_app]
  rfl
theorem w1_is : (("" : Str)) = ofL [] := by decide +kernel
theorem w2_is : ((" " : Str)) = ofL [32] := by decide +kernel
theorem w3_is : (("\n" : Str)) = ofL [10] := by decide +kernel
theorem w4_is : ((" \n " : Str)) = ofL [32, 10, 32] := by decide +kernel
theorem w5_is : (("   " : Str)) = ofL [32, 32, 32] := by decide +kernel
theorem w6_is : ((" \n" : Str)) = ofL [32, 10] := by decide +kernel
theorem w7_is : (("\n\n" : Str)) = ofL [10, 10] := by decide +kernel
theorem w8_is : (("\n  " : Str)) = ofL [10, 32, 32] := by decide +kernel
section
variable {P : Program} {w : World} {K : Frg} {mg : Str → Option Value} {base : Heap}
theorem so_loose {c1 c2 c3 c4 : List Cn} {y1 y2 : Str} {x : Str} {O : Out → Prop} (hx : x.length ≤ 3000) (h : ∀ a ∈ c1, ∀ b ∈ c2, ∀ c ∈ c3, ∀ d ∈ c4, O (.rt (.str (Txt.replace (a.x ++ Txt.replace x y1 b.x) y2 c.x ++ d.x)))) :
    SO K (tLoose K c1 c2 c3 c4 y1 y2) [.row, .dat (.str x), .un] O := fun B Hs H1s H H1 σ D s f => by
  obtain ⟨r, er, rx⟩ := s.has.row 0 rfl
  obtain ⟨v, ev, dv⟩ := s.has.dat 1 _ rfl
  cases dv
  refine ⟨r, x, H, er, ev, by rw [s.has.len]; exact (show 2 < 3 by decide), s.ex, rx, hx, fun a ha b hb c hc d hd H' H2 gr => ?_⟩
  have gr' := Gr.up gr (R' := Rows σ [.row, .dat (.str x), .un]) (fun y z => by rw [z]; exact ⟨0, rfl, er⟩) fun a ra => s.has.rowAt ra
  exact f.rt _ (h a ha b hb c hc d hd) _ H' H2 (s.gr gr').toGr (.str _)
theorem def__law_loose (F : FunAt K mg "_law_loose" ["row", "text"] s__law_loose) {ga : Addr} (pk : PickAt P w K mg base ga) (N1 : PySem.W.nsOkIn K cStatics = true) (N2 : PySem.W.nsIn K cStatics sharingNotToldKey = some none) : DefAt P w K mg base 3 "_law_loose" ["row", "text"] (spR K W__law_loose) := by
  have nd := sc__law_loose.nd
  refine mk_defR (W := W__law_loose) F sc__law_loose (fun ds P hw => by obtain ⟨x, rfl, -⟩ := hw; rfl) (fun f cdv A outer s H E hr => ⟨_, pss_loose (c1 := [⟨"", _, _⟩, ⟨" ", _, _⟩, ⟨"\n", _, _⟩, ⟨" \n ", _, _⟩]) (c2 := [⟨" ", _, _⟩, ⟨"   ", _, _⟩]) (c3 := [⟨"\n", _, _⟩, ⟨" \n", _, _⟩, ⟨"\n\n", _, _⟩, ⟨"\n  ", _, _⟩]) (c4 := [⟨"", _, _⟩, ⟨" ", _, _⟩, ⟨"\n", _, _⟩]) (y1 := " ") (y2 := "\n")
    ⟨rfl, rfl, rfl, rfl, rfl⟩ pk N1 N2 (by rfl) (by exact hr.mono (by decide)) nd (by rfl) (.inl (by rfl)) (by rfl) (.inl (by rfl)) (by rfl) (.inl (by rfl)) (.inl (by rfl)) (.inr (by rfl)) ?n1 ?n2 ?n3 ?n4 (by rfl) (by rfl) (by rfl) (by rfl) (by rfl) (by rfl) (by rfl) (by rfl) (by rfl) (by rfl) (by rfl) (by rfl) (by rfl) (by rfl) (by rfl), fun ds P hw => ?_⟩)
  case n1 => exact ⟨by simp, by simp, by simp only [List.forall_mem_cons, List.not_mem_nil, false_imp_iff, implies_true, and_true]; decide +kernel⟩
  case n2 => exact ⟨by simp, by simp, by simp only [List.forall_mem_cons, List.not_mem_nil, false_imp_iff, implies_true, and_true]; decide +kernel⟩
  case n3 => exact ⟨by simp, by simp, by simp only [List.forall_mem_cons, List.not_mem_nil, false_imp_iff, implies_true, and_true]; decide +kernel⟩
  case n4 => exact ⟨by simp, by simp, by simp only [List.forall_mem_cons, List.not_mem_nil, false_imp_iff, implies_true, and_true]; decide +kernel⟩
  obtain ⟨x, rfl, hl, p⟩ := hw
  show SO K _ [.row, .dat (.str (ofL x)), .un] _
  refine so_loose (by rw [len_ofL]; exact hl) fun a ha b hb c hc d hd => ?_
  obtain ⟨a', ea, ma⟩ : ∃ a', a.x = ofL a' ∧ a' ∈ [[], [32], [10], [32, 10, 32]] := by
    simp only [List.mem_cons, List.not_mem_nil, or_false] at ha
    rcases ha with rfl | rfl | rfl | rfl
    · exact ⟨_, w1_is, by simp⟩
    · exact ⟨_, w2_is, by simp⟩
    · exact ⟨_, w3_is, by simp⟩
    · exact ⟨_, w4_is, by simp⟩
  obtain ⟨b', eb, mb⟩ : ∃ b', b.x = ofL b' ∧ b' ∈ [[32], [32, 32, 32]] := by
    simp only [List.mem_cons, List.not_mem_nil, or_false] at hb
    rcases hb with rfl | rfl
    · exact ⟨_, w2_is, by simp⟩
    · exact ⟨_, w5_is, by simp⟩
  obtain ⟨c', ec, mc⟩ : ∃ c', c.x = ofL c' ∧ c' ∈ [[10], [32, 10], [10, 10], [10, 32, 32]] := by
    simp only [List.mem_cons, List.not_mem_nil, or_false] at hc
    rcases hc with rfl | rfl | rfl | rfl
    · exact ⟨_, w3_is, by simp⟩
    · exact ⟨_, w6_is, by simp⟩
    · exact ⟨_, w7_is, by simp⟩
    · exact ⟨_, w8_is, by simp⟩
  obtain ⟨d', ed, md⟩ : ∃ d', d.x = ofL d' ∧ d' ∈ [[], [32], [10]] := by
    simp only [List.mem_cons, List.not_mem_nil, or_false] at hd
    rcases hd with rfl | rfl | rfl
    · exact ⟨_, w1_is, by simp⟩
    · exact ⟨_, w2_is, by simp⟩
    · exact ⟨_, w3_is, by simp⟩
  rw [ea, eb, ec, ed, loose_is]
  exact p a' ma b' mb c' mc d' md
end
end Ft

/-! part: K07n -/
set_option Elab.async false
set_option linter.all false
set_option maxRecDepth 100000
set_option pp.maxSteps 1500
set_option maxHeartbeats 0
namespace Ft
open PySem L2
local macro_rules | `(tactic| walk_at "nr") => `(tactic| first | (intro h; cases h; done) | exact jk_nr)
local macro_rules | `(tactic| walk_at "sh") => `(tactic| first | exact sh_int | exact sh_bl | exact sh_non | exact sh_wd | exact sh_odd | exact sh_tupI | exact sh_clubsT | exact sh_clubsL | exact sh_nilL | exact sh_rule | exact sh_rules | assumption)
local macro_rules | `(tactic| walk_at "fb1") => `(tactic| with_reducible first
  | (refine so_seq ?_)
  | (refine so_next ?_)
  | (refine so_ret ?_)
  | (refine so_retN ?_)
  | (refine so_if ?_)
  | (refine' so_append ?he ?_; (case he => (with_unfolding_all exact rfl)))
  | (refine so_drop ?_)
  | (refine thenO_nx ?_)
  | (refine thenO_rt ?_)
  | (refine retO_rt ?_)
  | (refine retO_nx ?_)
  | (refine loopO_nx ?_)
  | (refine loopO_rt ?_)
  | (refine thenO_ct ?_)
  | (refine thenO_bk ?_)
  | (refine loopO_ct ?_)
  | (refine loopO_bk ?_)
  | (refine so_break ?_)
  | (refine so_cont ?_)
  | (refine' so_asg2 ?h2 ?hn ?hm ?_; (case h2 => (with_unfolding_all exact rfl)); (case hn => (with_unfolding_all walk_at "nr")); (case hm => (with_unfolding_all walk_at "nr")))
  | (refine' ae_var ?hv ?_; (case hv => (with_unfolding_all exact rfl)))
  | (refine ae_int ?_)
  | (refine ae_str ?_)
  | (refine ae_bl ?_)
  | (refine ae_non ?_)
  | (refine ae_globD ?_)
  | (refine ae_isI ?_)
  | (refine ae_isB ?_)
  | (refine ae_isT ?_)
  | (refine ae_isL ?_)
  | (refine ae_isS ?_)
  | (refine ae_isTL ?_)
  | (refine ae_op ?_)
  | (refine ae_un ?_)
  | (refine ae_call ?_)
  | (refine ae_cb ?_)
  | (refine ae_tup0 ?_)
  | (refine ae_tup1 ?_)
  | (refine ae_tup2 ?_)
  | (refine ae_lst0 ?_)
  | (refine ae_lst1 ?_)
  | (refine ae_lst2 ?_)
  | (refine ae_tup ?_)
  | (refine ae_andV ?_)
  | (refine ae_orV ?_)
  | (refine ae_notV ?_)
  | (refine ae_ifE ?_)
  | (refine ae_chain ?_)
  | (refine aa_nil ?_)
  | (refine aa_cons ?_)
  | (refine ab_test ?_)
  | (refine ab_val ?_)
  | (refine ab_and ?_)
  | (refine ab_or ?_)
  | (refine ab_not ?_)
  | (refine ab_yes ?_)
  | (refine rr_ltI ?_)
  | (refine rr_ltT ?_)
  | (refine rr_ib ?_)
  | (refine rr_ii ?_)
  | (refine rr_addI ?_)
  | (refine ru_neg ?_)
  | (refine rr_isN ?_)
  | (refine rr_notN ?_)
  | (refine rr_notB ?_)
  | (refine rc_lenL ?_)
  | (refine rc_lenT ?_)
  | (refine rc_tupleL ?_)
  | (refine rc_tupleT ?_)
  | (refine rc_intI ?_)
  | (refine rc_intB ?_)
  | (refine' rr_eqD ?ha ?hb ?_; (case ha => (with_unfolding_all walk_at "sh")); (case hb => (with_unfolding_all walk_at "sh")))
  | (refine' rr_neD ?ha ?hb ?_; (case ha => (with_unfolding_all walk_at "sh")); (case hb => (with_unfolding_all walk_at "sh")))
  | (refine' rr_inT ?ha ?hb ?_; (case ha => (with_unfolding_all walk_at "sh")); (case hb => (with_unfolding_all walk_at "sh")))
  | (refine' rr_inL ?ha ?hb ?_; (case ha => (with_unfolding_all walk_at "sh")); (case hb => (with_unfolding_all walk_at "sh")))
  | (refine' rr_ixT ?ha ?_; (case ha => (with_unfolding_all exact rfl)))
  | (refine' rr_ixL ?ha ?_; (case ha => (with_unfolding_all exact rfl)))
  | (refine' rr_ci ?ha ?_; (case ha => (with_unfolding_all decide)))
  | (refine rf_rc (rf_sortAT ?_))
  | (refine rf_rc (rf_sortAI ?_))
  | (refine ae_callS ?_)
  | (refine ae_dict0 ?_)
  | (refine ⟨_, rfl, ?_⟩)
  | (refine ⟨_, _, rfl, ?_⟩))
local macro_rules | `(tactic| walk_at "fs1") => `(tactic| with_reducible (refine' so_set ?hn ?_; (case hn => (with_unfolding_all walk_at "nr"))))
local macro_rules | `(tactic| walk_at "fb") => `(tactic| repeat (walk_at "fb1"))
local macro_rules | `(tactic| walk_at "ft") => `(tactic| repeat (first | walk_at "fb1" | walk_at "fs1"))
local macro_rules | `(tactic| walk_at "fb1") => `(tactic| with_reducible first
  | (refine use_is_number ?_)
  | (refine use_is_club ?_)
  | (refine use_are_clubs ?_)
  | (refine use_wrong_part ?_)
  | (refine use_is_town ?_)
  | (refine use_check_rule ?_)
  | (refine use_suits ?_)
  | (refine use_wrong_size ?_)
  | (refine use_all_rules ?_))

local macro_rules | `(tactic| walk_at "fb1") => `(tactic| with_reducible first
  | (refine ae_callR ?hr ?_; (case hr => (with_unfolding_all exact rfl))))
/-! ### the law -/
theorem ok_joinL {c : Nat} {ps : List Sg} (hc : c < 0x110000) (h : ∀ p ∈ ps, OkL p) : OkL (joinL c ps) := fun x hx => by
  rcases mem_joinL hx with rfl | ⟨p, hp, y⟩
  · exact hc
  · exact h p hp x y
theorem ok_people : OkL peopleW := (show ∀ c ∈ peopleW, c < 0x110000 by decide)
theorem ok_club : OkL clubW := (show ∀ c ∈ clubW, c < 0x110000 by decide)
theorem ok_text {n : Nat} {cs : List (List Int)} (T : Town (n : Int) cs) : OkL (textL n cs) := by
  have n8 := T.hi
  refine ok_joinL (by decide) fun p hp => ?_
  rcases List.mem_cons.mp hp with rfl | hp
  · refine ok_joinL (by decide) fun q hq => ?_
    simp only [lineP, List.mem_cons, List.not_mem_nil, or_false] at hq
    rcases hq with rfl | rfl
    · exact ok_people
    · exact ok_dig (by omega)
  · obtain ⟨c, hc, rfl⟩ := List.mem_map.mp hp
    refine ok_joinL (by decide) fun q hq => ?_
    rcases List.mem_cons.mp hq with rfl | hq
    · exact ok_club
    · obtain ⟨i, hi, rfl⟩ := List.mem_map.mp hq
      have := ascI_mem (T.all c hc) hi
      exact ok_dig (by omega)
theorem Town.len9 {n : Int} {cs : List (List Int)} (T : Town n cs) {c : List Int} (hc : c ∈ cs) : c.length ≤ 9 := by
  have := T.hi
  have := T.lo
  have := ascI_len (T.all c hc) (by omega)
  omega
theorem text_len {n : Nat} {cs : List (List Int)} (T : Town (n : Int) cs) (h : cs.length ≤ 60) : (textL n cs).length ≤ 3000 := by
  have h1 := joinL_len 10 (joinL 32 (lineP n) :: cs.map fun c => joinL 32 (lineC c))
  have h2 := sum_le 23 ((joinL 32 (lineP n) :: cs.map fun c => joinL 32 (lineC c)).map (·.length)) (fun m hm => by
    obtain ⟨w, hw, rfl⟩ := List.mem_map.mp hm
    rcases List.mem_cons.mp hw with rfl | hw
    · show 8 ≤ 23
      decide
    · obtain ⟨c, hc, rfl⟩ := List.mem_map.mp hw
      have := lineC_len c
      have := T.len9 hc
      omega)
  have h3 : (joinL 32 (lineP n) :: cs.map fun c => joinL 32 (lineC c)).length = cs.length + 1 := by simp
  rw [List.length_map, h3] at h2
  rw [h3] at h1
  show (joinL 10 _).length ≤ 3000
  omega
theorem text_bound {n : Nat} {cs : List (List Int)} (T : Town (n : Int) cs) (hl : cs.length ≤ 60) : (((joinL 32 (lineP n) :: cs.map fun c => joinL 32 (lineC c)).map ofL).map (·.length)).sum + ((joinL 32 (lineP n) :: cs.map fun c => joinL 32 (lineC c)).map ofL).length * (("\n" : Str)).length ≤ 16777216 := by
  have h := sum_le 23 (((joinL 32 (lineP n) :: cs.map fun c => joinL 32 (lineC c)).map ofL).map (·.length)) (fun m hm => by
    rw [List.map_map] at hm
    obtain ⟨w, hw, rfl⟩ := List.mem_map.mp hm
    show (ofL w).length ≤ 23
    rw [len_ofL]
    rcases List.mem_cons.mp hw with rfl | hw
    · show 8 ≤ 23
      decide
    · obtain ⟨c, hc, rfl⟩ := List.mem_map.mp hw
      have := lineC_len c
      have := T.len9 hc
      omega)
  have h2 : ((joinL 32 (lineP n) :: cs.map fun c => joinL 32 (lineC c)).map ofL).length = cs.length + 1 := by simp
  rw [List.length_map, h2] at h
  rw [h2, nl_is]
  show _ + (cs.length + 1) * 1 ≤ _
  omega
theorem flat_len {f : Nat → Sg} (h : ∀ x, (f x).length ≤ 3) : ∀ l : Sg, (l.flatMap f).length ≤ 3 * l.length
  | [] => Nat.le_refl _
  | c :: l => by
    have ih := flat_len h l
    have := h c
    rw [List.flatMap_cons, List.length_append, List.length_cons]
    omega
theorem flat_ok {f : Nat → Sg} (h : ∀ x, x < 0x110000 → OkL (f x)) {l : Sg} (ok : OkL l) : OkL (l.flatMap f) := fun x hx => by
  obtain ⟨y, hy, hz⟩ := List.mem_flatMap.mp hx
  exact h y (ok y hy) x hz
theorem one_of {c : Nat} {z : Sg} (hz : z.length ≤ 3) : ∀ x : Nat, (if x = c then z else [x]).length ≤ 3 := fun x => by
  split
  · exact hz
  · show 1 ≤ 3
    decide
theorem one_ok {c : Nat} {z : Sg} (hz : OkL z) : ∀ x : Nat, x < 0x110000 → OkL (if x = c then z else [x]) := fun x hx => by
  split
  · exact hz
  · intro y hy
    have e : y = x := by simpa using hy
    rw [e]
    exact hx
theorem loose_fits {t a b c d : Sg} (ok : OkL t) (hl : t.length ≤ 3000) (ha : a ∈ [[], [32], [10], [32, 10, 32]]) (hb : b ∈ [[32], [32, 32, 32]]) (hc : c ∈ [[10], [32, 10], [10, 10], [10, 32, 32]]) (hd : d ∈ [[], [32], [10]]) : OkL (looseT a b c d t) ∧ (looseT a b c d t).length ≤ 50000 := by
  have f : ∀ L : List Sg, L.all (fun z => decide (z.length ≤ 3) && z.all (· < 0x110000)) = true → ∀ z ∈ L, z.length ≤ 3 ∧ OkL z := fun L h z hz => by
    have := List.all_eq_true.mp h z hz
    rw [Bool.and_eq_true, decide_eq_true_eq, List.all_eq_true] at this
    exact ⟨this.1, fun c hc => of_decide_eq_true (this.2 c hc)⟩
  obtain ⟨a1, a2⟩ := f _ (by decide) a ha
  obtain ⟨b1, b2⟩ := f _ (by decide) b hb
  obtain ⟨c1, c2⟩ := f _ (by decide) c hc
  obtain ⟨d1, d2⟩ := f _ (by decide) d hd
  have h1 := flat_len (one_of (c := 32) b1) t
  have h2 := flat_len (one_of (c := 10) c1) (a ++ t.flatMap fun x => if x = 32 then b else [x])
  rw [List.length_append] at h2
  refine ⟨fun x hx => ?_, ?_⟩
  · rcases List.mem_append.mp hx with z | z
    · refine flat_ok (one_ok c2) (fun y hy => ?_) x z
      rcases List.mem_append.mp hy with q | q
      · exact a2 y q
      · exact flat_ok (one_ok b2) ok y q
    · exact d2 x z
  · unfold looseT
    rw [List.length_append]
    omega
theorem out_due {α : Type} (t : Told α) : outD t = dueX (dueOf t) := by
  cases t <;> rfl
theorem sh_due (o : Option (Int × Int)) : SeqAt.shaped (dueX o) = true := by
  cases o with
  | none => exact (by rw [show dueX none = .str (ofL []) from by rw [← w1_is]; rfl]; exact sh_W ok_nil)
  | some p => exact (gd_tup (n := 0) (gd_cons gd_int (gd_cons gd_int gd_nil))).sh (by decide)
theorem sh_texts : SeqAt.shaped (.list (List.replicate (5 : Int).toNat (PyData.str "text"))) = true := by
  rw [show (("text" : Str)) = ofL [116, 101, 120, 116] by decide +kernel]
  exact (gd_lst (n := 0) (fun d hd => by rw [List.eq_of_mem_replicate hd]; exact gd_encW (show ∀ c ∈ [116, 101, 120, 116], c < 0x110000 by decide))).sh (by decide)
theorem ne_lit {x y : Da} (sh : SeqAt.shaped y = true) (e : x = y) : (!PyData.eqv x y) = false := by
  subst e
  rw [eqv_self x (sh_lay sh)]
  rfl
theorem ref_of {p : Str × Option (Int × Int)} (h : p ∈ REFS) : dueOf (readT (toL p.1)) = p.2 ∧ (toL p.1).length ≤ 50000 ∧ OkL (toL p.1) := by
  have h1 := List.all_eq_true.mp refs_ok p h
  rw [Bool.and_eq_true, Bool.and_eq_true, decide_eq_true_eq, decide_eq_true_eq, List.all_eq_true] at h1
  exact ⟨h1.1.1, h1.1.2, fun c hc => of_decide_eq_true (h1.2 c hc)⟩
theorem al_club {c : List Int} (k : Nat) (h : c.length ≤ 100) : Al (k + 2) (tupI c) := ⟨by simp only [nums, List.length_map]; omega, fun x hx => by
  obtain ⟨i, _, rfl⟩ := List.mem_map.mp hx
  exact trivial⟩
theorem al_town' {n : Int} {cs : List (List Int)} (T : Town n cs) (h : cs.length ≤ 60) (k : Nat) : Al (k + 4) (townD n cs) := ⟨by show 2 ≤ 100000; decide, fun x hx => by
  rcases List.mem_cons.mp hx with rfl | hx
  · exact trivial
  · obtain rfl := List.mem_singleton.mp hx
    refine ⟨by rw [List.length_map]; omega, fun y hy => ?_⟩
    obtain ⟨c, hc, rfl⟩ := List.mem_map.mp hy
    exact al_club k (Nat.le_trans (T.len9 hc) (by decide))⟩
section
variable {P : Program} {w : World} {K : Frg} {mg : Str → Option Value} {base : Heap}
theorem def_law {f : Addr} {fd : FuncData} (F : Fun K "law" "law" s_law f fd) (B : Blt mg) (d__law_alike : DefAt P w K mg base 8 "_law_alike" ["found", "due"] (spW K W__law_alike)) (d__law_any_town : DefAt P w K mg base 3 "_law_any_town" ["row", "most"] (spR K W__law_any_town)) (d__law_loose : DefAt P w K mg base 3 "_law_loose" ["row", "text"] (spR K W__law_loose)) (d__law_refusal : DefAt P w K mg base 5 "_law_refusal" ["text"] (spW K W__law_refusal)) (d__law_refused : DefAt P w K mg base 1 "_law_refused" [] (spW K W__law_refused)) (d_read_town : DefAt P w K mg base 4 "read_town" ["text"] (spW K W_read_town)) (d_write_town : DefAt P w K mg base 6 "write_town" ["town"] (spW K W_write_town)) : FnOk P w K mg base CX0 9 f fd ["script"] (spLaw K) := by
  have nd := sc_law.nd
  refine F.ok sc_law (fun vs H Q E ⟨a, ns, ev, _⟩ => by rw [ev]; rfl) (fun cdv A outer s H vs Q E hr ⟨a, ns, ev, hs, hl, q⟩ => ⟨_, (pss_cons (ps_set (i := 1) nd rfl (by first | exact Or.inl rfl | exact Or.inr rfl) (pe_lst (pa_cons (pv 0) (pa_cons pe_int (pa_cons pe_int (pa_cons pe_int pa_nil))))))
    (pss_cons (ps_set (i := 2) nd rfl (by first | exact Or.inl rfl | exact Or.inr rfl) (pe_def d__law_any_town (by exact hr.mono (by decide)) (by rfl) (pa_cons (pv 1) (pa_cons pe_int pa_nil))))
    (pss_cons (ps_set (i := 3) nd rfl (by first | exact Or.inl rfl | exact Or.inr rfl) (pe_lst (pa_cons (pe_op (op_addS (K := K) (by rfl)) pe_str (pe_callTy call_strI (by rfl) B.m_str (by decide +kernel) (pa_cons (pe_ix (ix_K (K := K) (by rfl)) (pv 2) pe_int (fun _ _ => rfl)) pa_nil))) pa_nil)))
    (pss_cons (ps_for PassesOwn.never rfl (pi_seqK (K := K) (by rfl) (pe_ix (ix_K (K := K) (by rfl)) (pv 2) pe_int (fun _ _ => rfl))) (pg_name (i := 4) nd rfl (by first | exact Or.inl rfl | exact Or.inr rfl))
    (pss_one (ps_expr (pe_bmK (K := K) (by rfl) (pe_bm PySem.F.plainAttrs_list PySem.F.slot_list_append PySem.F.type_list_append mt_append (pv 3) (pa_cons (pe_joinK (K := K) (by rfl) pe_str (pe_op (op_addK (K := K) (by rfl)) (pe_lst (pa_cons pe_str pa_nil)) (pe_lc (own := [("one", 10)]) rfl nd (pi_seqK (K := K) (by rfl) (pv 4)) (blkOk_by (N := N_law) (sc := (defScope s_law)) (by decide +kernel)) (fun _ _ _ _ _ => (pg_name (i := 10) nd rfl (by first | exact Or.inl rfl | exact Or.inr rfl))) (fun _ _ _ _ _ => pts_nil) (fun _ _ _ _ _ => (pe_callTy call_strI (by rfl) B.m_str (by decide +kernel) (pa_cons (pv 10) pa_nil)))))) pa_nil))))))
    (pss_cons (ps_set (i := 5) nd rfl (by first | exact Or.inl rfl | exact Or.inr rfl) (pe_joinK (K := K) (by rfl) pe_str (pv 3)))
    (pss_cons (ps_set (i := 6) nd rfl (by first | exact Or.inl rfl | exact Or.inr rfl) (pe_lst (pa_cons (pe_def d_write_town (by exact hr.mono (by decide)) (by rfl) (pa_cons (pv 2) pa_nil)) (pa_cons (pe_def d_read_town (by exact hr.mono (by decide)) (by rfl) (pa_cons (pv 5) pa_nil)) (pa_cons (pe_def d_read_town (by exact hr.mono (by decide)) (by rfl) (pa_cons (pe_def d__law_loose (by exact hr.mono (by decide)) (by rfl) (pa_cons (pv 1) (pa_cons (pv 5) pa_nil))) pa_nil)) pa_nil)))))
    (pss_cons (ps_if (pt_not (pt_val (pe_def d__law_alike (by exact hr.mono (by decide)) (by rfl) (pa_cons (pv 6) (pa_cons (pe_lst (pa_cons (pv 5) (pa_cons (pv 2) (pa_cons (pv 2) pa_nil)))) pa_nil))))) (pss_one (ps_ret pe_bl)) pss_nil)
    (pss_cons (ps_if (pt_cmpR (op_neK (K := K) (by rfl) (by exact hr.units)) (pe_lc (own := [("some", 7), ("due", 8)]) rfl nd (pi_seqK (K := K) (by rfl) (pe_def0 d__law_refused (by exact hr.mono (by decide)) (by rfl))) (blkOk_by (N := N_law) (sc := (defScope s_law)) (by decide +kernel)) (fun _ _ _ _ _ => (pg_tupK (K := K) (n := 2) (by rfl) rfl (pgs_cons (pg_name (i := 7) nd rfl (by first | exact Or.inl rfl | exact Or.inr rfl)) (pgs_cons (pg_name (i := 8) nd rfl (by first | exact Or.inl rfl | exact Or.inr rfl)) pgs_nil)))) (fun _ _ _ _ _ => (pts_one (pt_cmpR (op_neK (K := K) (by rfl) (by exact hr.units)) (pe_def d__law_refusal (by exact hr.mono (by decide)) (by rfl) (pa_cons (pv 7) pa_nil)) (pv 8) (nomark _)))) (fun _ _ _ _ _ => pe_int)) (pe_lst pa_nil) (nomark _)) (pss_one (ps_ret pe_bl)) pss_nil)
    (pss_one (ps_ret (pe_cmpR (op_eqK (K := K) (by rfl) (by exact hr.units)) (pe_lc (own := [("value", 9)]) rfl nd (pi_seqK (K := K) (by rfl) (pe_lst (pa_cons pe_non (pa_cons pe_int (pa_cons (pe_tup (pa_cons (pv 5) pa_nil)) (pa_cons pe_bl (pa_cons pe_dnewK pa_nil))))))) (blkOk_by (N := N_law) (sc := (defScope s_law)) (by decide +kernel)) (fun _ _ _ _ _ => (pg_name (i := 9) nd rfl (by first | exact Or.inl rfl | exact Or.inr rfl))) (fun _ _ _ _ _ => pts_nil) (fun _ _ _ _ _ => (pe_def d__law_refusal (by exact hr.mono (by decide)) (by rfl) (pa_cons (pv 9) pa_nil)))) (pe_op op_rep (pe_lst (pa_cons pe_str pa_nil)) pe_int) (nomark _)))))))))))), ?_⟩)
  subst ev
  refine enterL (K := K) (N := N_law) (n := 9) rfl ?_ hs hl q
  clear hs hl q
  show SO K _ [.un, .row, .un, .un, .un, .un, .un, .un, .un, .un, .un] _
  refine so_seq (so_set (by walk_at "nr") (ae_callR (i := 1) rfl (aa_cons (ae_int (aa_nil ⟨8, rfl, by decide, by decide, fun n cs hn T hc => thenO_nx ?_⟩)))))
  obtain ⟨n, rfl⟩ : ∃ k : Nat, n = (k : Int) := ⟨n.toNat, by have := T.lo; omega⟩
  have n1 := T.lo
  have n8 := T.hi
  show SO K _ [.un, .row, .dat (townD (n : Int) cs), .un, .un, .un, .un, .un, .un, .un, .un] _
  refine so_seq (so_own (by walk_at "nr") (af_lst (aa_cons (ae_op (ae_str (ae_cb (aa_cons (ae_op (ae_var (i := 2) rfl (ae_int (rr_ixT (d := .int (n : Int)) (atI_nat (j := 0) rfl) (aa_nil (rc_strI (small_log (by omega) n8) ?_)))))))))))))
  rw [str_dig (by omega) n8, peopleS_is, show ((n : Int)).toNat = n by omega]
  refine rr_addS (by rw [len_ofL, len_ofL]; exact (show 8 ≤ 16777216 by decide)) (aa_nil ⟨by show 1 ≤ 16777216; decide, thenO_nx ?_⟩)
  rw [ofL_app]
  show SO K _ [.un, .row, .dat (townD (n : Int) cs), .own [encW (joinL 32 (lineP n))], .un, .un, .un, .un, .un, .un, .un] _
  refine so_seq (so_for (is := [4]) (ai_seqT (ae_op (ae_var (i := 2) rfl (ae_int (rr_ixT (d := .tuple (clubs cs)) (atI_nat (j := 1) rfl) ⟨_, rfl, ?_⟩))))))
  refine loop_by tupI (fun ys ρ => ∃ (pre : List (List Int)) (o4 : Option Da), ρ = [.un, .row, .dat (townD (n : Int) cs), .own ((joinL 32 (lineP n) :: pre.map fun c => joinL 32 (lineC c)).map encW), jk o4, .un, .un, .un, .un, .un, .un] ∧ cs = pre ++ ys) ?_ ?_ _ _ ⟨[], none, rfl, rfl⟩
  · rintro c ys _ ⟨pre, o4, rfl, ecs⟩
    have hcm : c ∈ cs := by rw [ecs]; simp
    have hc9 := T.len9 hcm
    have hcc : ∀ p ∈ c, 0 ≤ p ∧ p ≤ 8 := fun p hp => by
      have := ascI_mem (T.all c hcm) hp
      omega
    refine ⟨_, at_name (by walk_at "nr"), ?_⟩
    show SO K _ [.un, .row, .dat (townD (n : Int) cs), .own ((joinL 32 (lineP n) :: pre.map fun c => joinL 32 (lineC c)).map encW), .dat (tupI c), .un, .un, .un, .un, .un, .un] _
    refine so_append (i := 3) rfl (ae_join (ae_str ⟨_, rfl, ae_op (ae_lst1 (ae_str (af_ae (af_lc (is := [10]) (ai_seqT (ae_var (i := 4) rfl ⟨_, rfl, ?_⟩)) (by decide)))))⟩))
    refine ⟨by simp only [nums, List.length_map]; omega, ?_⟩
    refine comp_fm PyData.int (fun _ => true) (fun p => .str (ofL (dig p.toNat))) c (fun x hx => ⟨_, at_name (by walk_at "nr"), ab_yes rfl, fun _ => ?_⟩) ?_
    · show AE K _ [.un, .row, .dat (townD (n : Int) cs), .own ((joinL 32 (lineP n) :: pre.map fun c => joinL 32 (lineC c)).map encW), .dat (tupI c), .un, .un, .un, .un, .un, .dat (.int x)] _
      refine ae_cb (aa_cons (ae_var (i := 10) rfl (aa_nil (rc_strI (small_log (hcc x hx).1 (hcc x hx).2) ?_))))
      rw [str_dig (hcc x hx).1 (hcc x hx).2]
    · rw [List.filter_eq_self.mpr fun _ _ => rfl]
      have e : [PyData.str "club"] ++ c.map (fun p => PyData.str (ofL (dig p.toNat))) = ((lineC c).map ofL).map .str := by
        rw [club_is, List.map_map]
        show _ = PyData.str (ofL clubW) :: (c.map fun p => dig p.toNat).map _
        rw [List.map_map]
        rfl
      refine rr_addL (by rw [List.length_map]; show 1 + c.length ≤ 16777216; omega) ?_
      rw [e]
      refine ⟨_, rfl, ?_, ?_⟩
      · have h := sum_le 4 (((lineC c).map ofL).map (·.length)) (fun n hn => by
          rw [List.map_map] at hn
          obtain ⟨w, hw, rfl⟩ := List.mem_map.mp hn
          show (ofL w).length ≤ 4
          rw [len_ofL]
          rcases List.mem_cons.mp hw with rfl | hw
          · decide
          · obtain ⟨q, _, rfl⟩ := List.mem_map.mp hw
            exact Nat.le_trans (Nat.le_of_eq (len_dig _)) (by decide))
        have h2 : ((lineC c).map ofL).length = c.length + 1 := by simp [lineC]
        rw [List.length_map, h2] at h
        rw [h2, sp_is]
        show _ + (c.length + 1) * 1 ≤ _
        omega
      · rw [sp_is, join_list]
        have hpl : pre.length ≤ 60 := by rw [ecs, List.length_append] at hc; omega
        refine ⟨by rw [List.length_map, List.length_cons, List.length_map]; show _ < 16777216; omega, pre ++ [c], some (tupI c), ?_, by rw [ecs, List.append_assoc]; rfl⟩
        have ee : (joinL 32 (lineP n) :: (pre ++ [c]).map fun c => joinL 32 (lineC c)).map encW = (joinL 32 (lineP n) :: pre.map fun c => joinL 32 (lineC c)).map encW ++ [encW (joinL 32 (lineC c))] := by simp
        rw [ee]
        rfl
  · rintro _ ⟨pre, o4, rfl, ecs⟩
    rw [List.append_nil] at ecs
    subst ecs
    refine thenO_nx (so_freeze (i := 3) rfl ?_)
    show SO K _ [.un, .row, .dat (townD (n : Int) cs), .dat (.list ((joinL 32 (lineP n) :: cs.map fun c => joinL 32 (lineC c)).map encW)), jk o4, .un, .un, .un, .un, .un, .un] _
    refine so_seq (so_set (by walk_at "nr") (ae_join (ae_str ⟨_, rfl, ae_var (i := 3) rfl ⟨_, by rw [map_enc], ?_, ?_⟩⟩)))
    · exact text_bound T hc
    rw [nl_is, join_list]
    refine thenO_nx ?_
    show SO K _ [.un, .row, .dat (townD (n : Int) cs), .dat (.list ((joinL 32 (lineP n) :: cs.map fun c => joinL 32 (lineC c)).map encW)), jk o4, .dat (encW (textL n cs)), .un, .un, .un, .un, .un] _
    have ok := ok_text T
    have tl := text_len T hc
    -- told
    refine so_seq (so_set (by walk_at "nr") (af_ae (af_lst (aa_cons (ae_call (aa_cons (ae_var (i := 2) rfl (aa_nil ⟨n, cs, rfl, T, hc, ?_⟩))))))))
    refine aa_cons (ae_call (aa_cons (ae_var (i := 5) rfl (aa_nil ⟨textL n cs, n, cs, rfl, Nat.le_trans tl (by decide), ok, read_text T, ?_⟩))))
    refine aa_cons (ae_call (aa_cons (ae_callR (i := 1) rfl (aa_cons (ae_var (i := 5) rfl (aa_nil ⟨textL n cs, rfl, tl, fun a ha b hb c hc' d hd => ?_⟩))))))
    have fits := loose_fits ok tl ha hb hc' hd
    refine aa_nil ⟨looseT a b c d (textL n cs), n, cs, rfl, fits.2, fits.1, read_loose T ha hb hc' hd, ?_⟩
    refine aa_nil ⟨by show 3 ≤ 16777216; decide, thenO_nx ?_⟩
    clear ha hb hc' hd fits
    show SO K _ [.un, .row, .dat (townD (n : Int) cs), .dat (.list ((joinL 32 (lineP n) :: cs.map fun c => joinL 32 (lineC c)).map encW)), jk o4, .dat (encW (textL n cs)), .dat (.list [encW (textL n cs), townD (n : Int) cs, townD (n : Int) cs]), .un, .un, .un, .un] _
    -- alike
    refine so_seq (so_no (ab_not (ab_val (ae_call (aa_cons (ae_var (i := 6) rfl (aa_cons (af_ae (af_lst (aa_cons (ae_var (i := 5) rfl (aa_cons (ae_var (i := 2) rfl (aa_cons (ae_var (i := 2) rfl (aa_nil ⟨by show 3 ≤ 16777216; decide, aa_nil ⟨_, rfl, ?_, ⟨_, rfl, rfl⟩⟩⟩))))))))))))))) ?_)
    · refine al_lst (by show 3 ≤ 100000; decide) fun x hx => ?_
      simp only [List.mem_cons, List.not_mem_nil, or_false] at hx
      rcases hx with rfl | rfl | rfl
      · exact sh_W ok
      · exact al_town' T hc 3
      · exact al_town' T hc 3
    refine so_next (thenO_nx ?_)
    -- refused
    refine so_seq (so_no (ab_test (ae_op (af_ae (af_lc (is := [7] ++ ([8] ++ [])) (ai_seqL (ae_call (aa_nil ⟨rfl, _, rfl, ?_⟩))) (by decide))))) ?_)
    · refine ⟨by rw [List.length_map]; decide, comp_none _ (fun d hd => ?_) (ae_lst0 (rr_neD sh_nilL sh_nilL ⟨_, rfl, rfl⟩))⟩
      obtain ⟨p, hp, rfl⟩ := List.mem_map.mp hd
      obtain ⟨r1, r2, r3⟩ := ref_of hp
      refine ⟨_, at_tup rfl (ats_cons (at_name (by walk_at "nr")) (ats_cons (at_name (by walk_at "nr")) ats_nil)), ?_⟩
      show AB K _ [.un, .row, .dat (townD (n : Int) cs), .dat (.list ((joinL 32 (lineP n) :: cs.map fun c => joinL 32 (lineC c)).map encW)), jk o4, .dat (encW (textL n cs)), .dat (.list [encW (textL n cs), townD (n : Int) cs, townD (n : Int) cs]), .dat (encW (toL p.1)), .dat (dueX p.2), .un, .un] _
      refine ab_test (ae_op (ae_call (aa_cons (ae_var (i := 7) rfl (aa_nil (.inl ⟨toL p.1, rfl, r2, r3, ?_⟩))))))
      rw [out_due, r1]
      exact ae_var (i := 8) rfl (rr_neD (sh_due _) (sh_due _) ⟨_, rfl, ne_lit (sh_due _) rfl⟩)
    refine so_next (thenO_nx ?_)
    -- no texts
    refine so_ret (ae_op (af_ae (af_lc (is := [9]) (ai_seqL (af_ae (af_lst (aa_cons (ae_non (aa_cons (ae_int (aa_cons (ae_tup1 (ae_var (i := 5) rfl (aa_cons (ae_bl (aa_cons (ae_dict0 (aa_nil ⟨by show 5 ≤ 16777216; decide, _, rfl, by show 5 ≤ 100000; decide, ?_⟩))))))))))))))) (by decide))))
    refine comp_fm (fun d : Da => d) (fun _ => true) (fun _ => .str "text") [.none, .int 5, .tuple [encW (textL n cs)], .bool true, .dict []] (fun x hx => ⟨_, at_name (by walk_at "nr"), ab_yes rfl, fun _ => ?_⟩) ?_
    · show AE K _ [.un, .row, .dat (townD (n : Int) cs), .dat (.list ((joinL 32 (lineP n) :: cs.map fun c => joinL 32 (lineC c)).map encW)), jk o4, .dat (encW (textL n cs)), .dat (.list [encW (textL n cs), townD (n : Int) cs, townD (n : Int) cs]), .un, .un, .dat x, .un] _
      refine ae_call (aa_cons (ae_var (i := 9) rfl (aa_nil (.inr ⟨x, rfl, ?_, rfl⟩))))
      simp only [List.mem_cons, List.not_mem_nil, or_false] at hx
      rcases hx with rfl | rfl | rfl | rfl | rfl <;> rfl
    · refine af_ae (af_rep (aa_cons (ae_str (aa_nil ⟨rfl, ae_int ⟨5, rfl, by decide, ?_⟩⟩))))
      exact rr_eq_is sh_texts rfl rfl
end
end Ft

/-! part: K07f -/
set_option Elab.async false
set_option linter.all false
set_option maxRecDepth 100000
set_option maxHeartbeats 0
namespace Ft
open PySem L2
theorem exm_sub {K : Frg} {v : Value} {C : Addr} {x : Bool} (b : PySem.W.subIn K (.ref C) (.type "BaseException") = some true) (i : PySem.W.isClsIn K C = true) (t : PySem.W.typeIn K (.ref C) = some (.type "type")) (s : PySem.W.subIn K v (.ref C) = some x) : PySem.W.exmOne K v (.ref C) = some x := by
  have i : (PySem.W.clsIn K C).isSome = true := i
  show (if (PySem.W.subIn K (.ref C) (.type "BaseException") == some true) = true then (if ((PySem.W.clsIn K C).isSome && PySem.W.typeIn K (.ref C) == some (.type "type")) = true then PySem.W.subIn K v (.ref C) else none) else none) = _
  rw [b, i, t, s]
  rfl
/-- the object of an error's class with its own __init__ -/
def oexB (C : Addr) : Obj → Bool
  | ⟨.type "type", _, .cls cd, sl⟩ => (match cd.mro, sl.toList with
    | .ref C' :: bm, [_, _, _, _, some (.builtin n), _] => C' == C && n == "ValueError.__new__" && !cd.hasDel && cd.hasDict && PySem.HandSPX.refsVE bm
    | _, _ => false)
  | _ => false
theorem oex_of {K : Frg} {C : Addr} {o : Obj} (l : K.lookup C = some o) (h : oexB C o = true) : ∃ nm q N bs bm sn sub ab col dd k0 k1 k2 k3 k5, K.lookup C = some (excClassObj nm q C N bs bm true sn sub ab col dd k0 k1 k2 k3 k5 "ValueError.__new__") ∧ PySem.HandSPX.refsVE bm = true := by
  unfold oexB at h
  split at h
  · rename_i dd cd sl
    split at h
    · rename_i C' bm k0 k1 k2 k3 n k5 hm hs
      simp only [Bool.and_eq_true, beq_iff_eq, Bool.not_eq_true'] at h
      obtain ⟨⟨⟨⟨rfl, rfl⟩, h1⟩, h2⟩, h3⟩ := h
      obtain ⟨nm, bs, mro, ns, qn, hd, sn, sb, ab, col, dl⟩ := cd
      dsimp only at hm h1 h2
      subst hm h1 h2
      obtain ⟨l0⟩ := sl
      dsimp only at hs
      subst hs
      exact ⟨nm, qn, ns, bs, bm, sn, sb, ab, col, dd, k0, k1, k2, k3, k5, l, h3⟩
    · cases h
  · cases h
/-- a dict of texts -/
def okB : Obj → Bool
  | ⟨_, _, .dict es _, _⟩ => es.toList.all fun e => match e.key with | .str _ _ => true | _ => false
  | _ => false
theorem ok_of {K : Frg} {N : Addr} {o : Obj} (l : K.lookup N = some o) (h : okB o = true) : PySem.W.nsOkIn K N = true := by
  unfold PySem.W.nsOkIn
  rw [l]
  unfold okB at h
  split at h
  · rw [Array.all_toList] at h
    exact h
  · cases h
abbrev s_init : Stmt := inClass (topS 4) 0
theorem sc_init : FnScope ["self", "line", "word"] ["self", "line", "word"] (defScope s_init) := ⟨rfl, rfl, rfl, by decide +kernel, rfl, by decide +kernel, by decide +kernel⟩
theorem fn_init {P : Program} {w : World} {K : Frg} {mg : Str → Option Value} {base : Heap} {C fI : Addr} {od an : Option Addr} {sl : Array (Option Value)} {oc kV dc pm cd ct : Value} (T : OexC K C) (no1 : PySem.W.findIn K (.ref C) "line" = some none) (no2 : PySem.W.findIn K (.ref C) "word" = some none)
    (lk : K.lookup fI = some ⟨oc, od, .func (PySem.W.fnOf "__init__" "BadLine.__init__" (defArgs s_init) (defBody s_init) (defScope s_init) .none kV dc pm an cd ct), sl⟩) (hcd : PySem.W.codeIn K cd "BadLine.__init__" = true) :
    FnOk P w K mg base CX0 1 fI (PySem.W.fnOf "__init__" "BadLine.__init__" (defArgs s_init) (defBody s_init) (defScope s_init) .none kV dc pm an cd ct) ["self", "line", "word"] (fun vs H Q _ => ∃ (a : Addr) (y z : V), vs = [.ref a, y, z] ∧ H a = some (exo a C none) ∧ ∀ (dx : Addr) (H2 : Hp), H dx = none → dx ≠ a → H2 a = some (exo a C (some dx)) → H2 dx = some (exd dx [("word", z), ("line", y)]) → (∀ b o, b ≠ a → H b = some o → H2 b = some o) → Q .non H2) := by
  refine fn_of lk hcd sc_init (fun vs H Q E ⟨a, y, z, ev, _⟩ => by rw [ev]; rfl) fun A outer s H vs Q E hr ⟨a, y, z, ev, ea, q⟩ => ⟨_, pss_cons (ps_ost (pv 0) (pv 1)) (pss_one (ps_ost (pv 0) (pv 2))), ?_⟩
  subst ev
  refine ⟨y, rfl, .ref a, rfl, a, C, rfl, T, no1, .inl ⟨ea, fun dx n ne => ⟨z, rfl, .ref a, rfl, a, C, rfl, T, no2, .inr ⟨dx, [("line", y)], upd_same, by rw [upd_ne ne, upd_same], (show 1 ≤ 900 by decide), q dx _ n ne ?_ upd_same fun b o hb w => ?_⟩⟩⟩⟩
  · rw [upd_ne (Ne.symm ne), upd_same]
  · rw [upd_ne (ne_of_none w n), upd_ne hb, upd_ne (ne_of_none w n)]
    exact w
theorem all_mk {l : PySem.W.OpenLaw} {w : World} {K : PySem.W.Frag} {h : Heap} {mg : Str → Option Value} {fa : Addr} (X : K.In h) (G : h.Ns mainGlobals mg) (hfa : mg "law" = some (.ref fa))
    {f1 : Addr} {od1 an1 : Option Addr} {sl1 : Array (Option Value)} {oc1 kV1 dc1 pm1 cd1 ct1 : Value}
    {f2 : Addr} {od2 an2 : Option Addr} {sl2 : Array (Option Value)} {oc2 kV2 dc2 pm2 cd2 ct2 : Value}
    {f3 : Addr} {od3 an3 : Option Addr} {sl3 : Array (Option Value)} {oc3 kV3 dc3 pm3 cd3 ct3 : Value}
    {f4 : Addr} {od4 an4 : Option Addr} {sl4 : Array (Option Value)} {oc4 kV4 dc4 pm4 cd4 ct4 : Value}
    {f5 : Addr} {od5 an5 : Option Addr} {sl5 : Array (Option Value)} {oc5 kV5 dc5 pm5 cd5 ct5 : Value}
    {f6 : Addr} {od6 an6 : Option Addr} {sl6 : Array (Option Value)} {oc6 kV6 dc6 pm6 cd6 ct6 : Value}
    {f7 : Addr} {od7 an7 : Option Addr} {sl7 : Array (Option Value)} {oc7 kV7 dc7 pm7 cd7 ct7 : Value}
    {f8 : Addr} {od8 an8 : Option Addr} {sl8 : Array (Option Value)} {oc8 kV8 dc8 pm8 cd8 ct8 : Value}
    {f9 : Addr} {od9 an9 : Option Addr} {sl9 : Array (Option Value)} {oc9 kV9 dc9 pm9 cd9 ct9 : Value}
    {f10 : Addr} {od10 an10 : Option Addr} {sl10 : Array (Option Value)} {oc10 kV10 dc10 pm10 cd10 ct10 : Value}
    {f11 : Addr} {od11 an11 : Option Addr} {sl11 : Array (Option Value)} {oc11 kV11 dc11 pm11 cd11 ct11 : Value}
    {f12 : Addr} {od12 an12 : Option Addr} {sl12 : Array (Option Value)} {oc12 kV12 dc12 pm12 cd12 ct12 : Value}
    {f13 : Addr} {od13 an13 : Option Addr} {sl13 : Array (Option Value)} {oc13 kV13 dc13 pm13 cd13 ct13 : Value}
    {f14 : Addr} {od14 an14 : Option Addr} {sl14 : Array (Option Value)} {oc14 kV14 dc14 pm14 cd14 ct14 : Value}
    {f15 : Addr} {od15 an15 : Option Addr} {sl15 : Array (Option Value)} {oc15 kV15 dc15 pm15 cd15 ct15 : Value}
    {f16 : Addr} {od16 an16 : Option Addr} {sl16 : Array (Option Value)} {oc16 kV16 dc16 pm16 cd16 ct16 : Value}
    {f17 : Addr} {od17 an17 : Option Addr} {sl17 : Array (Option Value)} {oc17 kV17 dc17 pm17 cd17 ct17 : Value}
    {f18 : Addr} {od18 an18 : Option Addr} {sl18 : Array (Option Value)} {oc18 kV18 dc18 pm18 cd18 ct18 : Value}
    {f19 : Addr} {od19 an19 : Option Addr} {sl19 : Array (Option Value)} {oc19 kV19 dc19 pm19 cd19 ct19 : Value}
    {f20 : Addr} {od20 an20 : Option Addr} {sl20 : Array (Option Value)} {oc20 kV20 dc20 pm20 cd20 ct20 : Value}
    {C_BadLine : Addr}
    {C_BadText : Addr}
    {oT oS : Obj} {fI : Addr} {odI anI : Option Addr} {slI : Array (Option Value)} {ocI kVI dcI pmI cdI ctI : Value}
    {tM : Tok} {rF : Addr} {rnF : Nat} {rsF : Array (Option Value)} {tF0 : Tok} {tF1 : Tok} {tF2 : Tok} {tF3 : Tok} {tF4 : Tok} {tF5 : Tok} {tF6 : Tok} {tF7 : Tok} {tF8 : Tok}
    (a1 : PySem.W.nsIn K mainGlobals "is_number" = some (some (.ref f1))) (l1 : K.lookup f1 = some ⟨oc1, od1, .func (PySem.W.fnOf "is_number" "is_number" (defArgs s_is_number) (defBody s_is_number) (defScope s_is_number) .none kV1 dc1 pm1 an1 cd1 ct1), sl1⟩) (c1 : PySem.W.codeIn K cd1 "is_number" = true) (k1 : PySem.W.keepIn K (.ref f1) = true)
    (a2 : PySem.W.nsIn K mainGlobals "is_club" = some (some (.ref f2))) (l2 : K.lookup f2 = some ⟨oc2, od2, .func (PySem.W.fnOf "is_club" "is_club" (defArgs s_is_club) (defBody s_is_club) (defScope s_is_club) .none kV2 dc2 pm2 an2 cd2 ct2), sl2⟩) (c2 : PySem.W.codeIn K cd2 "is_club" = true) (k2 : PySem.W.keepIn K (.ref f2) = true)
    (a3 : PySem.W.nsIn K mainGlobals "are_clubs" = some (some (.ref f3))) (l3 : K.lookup f3 = some ⟨oc3, od3, .func (PySem.W.fnOf "are_clubs" "are_clubs" (defArgs s_are_clubs) (defBody s_are_clubs) (defScope s_are_clubs) .none kV3 dc3 pm3 an3 cd3 ct3), sl3⟩) (c3 : PySem.W.codeIn K cd3 "are_clubs" = true) (k3 : PySem.W.keepIn K (.ref f3) = true)
    (a4 : PySem.W.nsIn K mainGlobals "wrong_part" = some (some (.ref f4))) (l4 : K.lookup f4 = some ⟨oc4, od4, .func (PySem.W.fnOf "wrong_part" "wrong_part" (defArgs s_wrong_part) (defBody s_wrong_part) (defScope s_wrong_part) .none kV4 dc4 pm4 an4 cd4 ct4), sl4⟩) (c4 : PySem.W.codeIn K cd4 "wrong_part" = true) (k4 : PySem.W.keepIn K (.ref f4) = true)
    (a5 : PySem.W.nsIn K mainGlobals "check_town" = some (some (.ref f5))) (l5 : K.lookup f5 = some ⟨oc5, od5, .func (PySem.W.fnOf "check_town" "check_town" (defArgs s_check_town) (defBody s_check_town) (defScope s_check_town) .none kV5 dc5 pm5 an5 cd5 ct5), sl5⟩) (c5 : PySem.W.codeIn K cd5 "check_town" = true) (k5 : PySem.W.keepIn K (.ref f5) = true)
    (a6 : PySem.W.nsIn K mainGlobals "club_line" = some (some (.ref f6))) (l6 : K.lookup f6 = some ⟨oc6, od6, .func (PySem.W.fnOf "club_line" "club_line" (defArgs s_club_line) (defBody s_club_line) (defScope s_club_line) .none kV6 dc6 pm6 an6 cd6 ct6), sl6⟩) (c6 : PySem.W.codeIn K cd6 "club_line" = true) (k6 : PySem.W.keepIn K (.ref f6) = true)
    (a7 : PySem.W.nsIn K mainGlobals "write_town" = some (some (.ref f7))) (l7 : K.lookup f7 = some ⟨oc7, od7, .func (PySem.W.fnOf "write_town" "write_town" (defArgs s_write_town) (defBody s_write_town) (defScope s_write_town) .none kV7 dc7 pm7 an7 cd7 ct7), sl7⟩) (c7 : PySem.W.codeIn K cd7 "write_town" = true) (k7 : PySem.W.keepIn K (.ref f7) = true)
    (a8 : PySem.W.nsIn K mainGlobals "told_lines" = some (some (.ref f8))) (l8 : K.lookup f8 = some ⟨oc8, od8, .func (PySem.W.fnOf "told_lines" "told_lines" (defArgs s_told_lines) (defBody s_told_lines) (defScope s_told_lines) .none kV8 dc8 pm8 an8 cd8 ct8), sl8⟩) (c8 : PySem.W.codeIn K cd8 "told_lines" = true) (k8 : PySem.W.keepIn K (.ref f8) = true)
    (a9 : PySem.W.nsIn K mainGlobals "_law_taken" = some (some (.ref f9))) (l9 : K.lookup f9 = some ⟨oc9, od9, .func (PySem.W.fnOf "_law_taken" "_law_taken" (defArgs s__law_taken) (defBody s__law_taken) (defScope s__law_taken) .none kV9 dc9 pm9 an9 cd9 ct9), sl9⟩) (c9 : PySem.W.codeIn K cd9 "_law_taken" = true) (k9 : PySem.W.keepIn K (.ref f9) = true)
    (a10 : PySem.W.nsIn K mainGlobals "_law_pick" = some (some (.ref f10))) (l10 : K.lookup f10 = some ⟨oc10, od10, .func (PySem.W.fnOf "_law_pick" "_law_pick" (defArgs s__law_pick) (defBody s__law_pick) (defScope s__law_pick) .none kV10 dc10 pm10 an10 cd10 ct10), sl10⟩) (c10 : PySem.W.codeIn K cd10 "_law_pick" = true) (k10 : PySem.W.keepIn K (.ref f10) = true)
    (a11 : PySem.W.nsIn K mainGlobals "_law_alike" = some (some (.ref f11))) (l11 : K.lookup f11 = some ⟨oc11, od11, .func (PySem.W.fnOf "_law_alike" "_law_alike" (defArgs s__law_alike) (defBody s__law_alike) (defScope s__law_alike) .none kV11 dc11 pm11 an11 cd11 ct11), sl11⟩) (c11 : PySem.W.codeIn K cd11 "_law_alike" = true) (k11 : PySem.W.keepIn K (.ref f11) = true)
    (a12 : PySem.W.nsIn K mainGlobals "_law_clubs" = some (some (.ref f12))) (l12 : K.lookup f12 = some ⟨oc12, od12, .func (PySem.W.fnOf "_law_clubs" "_law_clubs" (defArgs s__law_clubs) (defBody s__law_clubs) (defScope s__law_clubs) .none kV12 dc12 pm12 an12 cd12 ct12), sl12⟩) (c12 : PySem.W.codeIn K cd12 "_law_clubs" = true) (k12 : PySem.W.keepIn K (.ref f12) = true)
    (a13 : PySem.W.nsIn K mainGlobals "_law_any_town" = some (some (.ref f13))) (l13 : K.lookup f13 = some ⟨oc13, od13, .func (PySem.W.fnOf "_law_any_town" "_law_any_town" (defArgs s__law_any_town) (defBody s__law_any_town) (defScope s__law_any_town) .none kV13 dc13 pm13 an13 cd13 ct13), sl13⟩) (c13 : PySem.W.codeIn K cd13 "_law_any_town" = true) (k13 : PySem.W.keepIn K (.ref f13) = true)
    (a14 : PySem.W.nsIn K mainGlobals "_law_refused" = some (some (.ref f14))) (l14 : K.lookup f14 = some ⟨oc14, od14, .func (PySem.W.fnOf "_law_refused" "_law_refused" (defArgs s__law_refused) (defBody s__law_refused) (defScope s__law_refused) .none kV14 dc14 pm14 an14 cd14 ct14), sl14⟩) (c14 : PySem.W.codeIn K cd14 "_law_refused" = true) (k14 : PySem.W.keepIn K (.ref f14) = true)
    (a15 : PySem.W.nsIn K mainGlobals "told_people" = some (some (.ref f15))) (l15 : K.lookup f15 = some ⟨oc15, od15, .func (PySem.W.fnOf "told_people" "told_people" (defArgs s_told_people) (defBody s_told_people) (defScope s_told_people) .none kV15 dc15 pm15 an15 cd15 ct15), sl15⟩) (c15 : PySem.W.codeIn K cd15 "told_people" = true) (k15 : PySem.W.keepIn K (.ref f15) = true)
    (a16 : PySem.W.nsIn K mainGlobals "told_club" = some (some (.ref f16))) (l16 : K.lookup f16 = some ⟨oc16, od16, .func (PySem.W.fnOf "told_club" "told_club" (defArgs s_told_club) (defBody s_told_club) (defScope s_told_club) .none kV16 dc16 pm16 an16 cd16 ct16), sl16⟩) (c16 : PySem.W.codeIn K cd16 "told_club" = true) (k16 : PySem.W.keepIn K (.ref f16) = true)
    (a17 : PySem.W.nsIn K mainGlobals "read_town" = some (some (.ref f17))) (l17 : K.lookup f17 = some ⟨oc17, od17, .func (PySem.W.fnOf "read_town" "read_town" (defArgs s_read_town) (defBody s_read_town) (defScope s_read_town) .none kV17 dc17 pm17 an17 cd17 ct17), sl17⟩) (c17 : PySem.W.codeIn K cd17 "read_town" = true) (k17 : PySem.W.keepIn K (.ref f17) = true)
    (a18 : PySem.W.nsIn K mainGlobals "_law_loose" = some (some (.ref f18))) (l18 : K.lookup f18 = some ⟨oc18, od18, .func (PySem.W.fnOf "_law_loose" "_law_loose" (defArgs s__law_loose) (defBody s__law_loose) (defScope s__law_loose) .none kV18 dc18 pm18 an18 cd18 ct18), sl18⟩) (c18 : PySem.W.codeIn K cd18 "_law_loose" = true) (k18 : PySem.W.keepIn K (.ref f18) = true)
    (a19 : PySem.W.nsIn K mainGlobals "_law_refusal" = some (some (.ref f19))) (l19 : K.lookup f19 = some ⟨oc19, od19, .func (PySem.W.fnOf "_law_refusal" "_law_refusal" (defArgs s__law_refusal) (defBody s__law_refusal) (defScope s__law_refusal) .none kV19 dc19 pm19 an19 cd19 ct19), sl19⟩) (c19 : PySem.W.codeIn K cd19 "_law_refusal" = true) (k19 : PySem.W.keepIn K (.ref f19) = true)
    (a20 : PySem.W.nsIn K mainGlobals "law" = some (some (.ref f20))) (l20 : K.lookup f20 = some ⟨oc20, od20, .func (PySem.W.fnOf "law" "law" (defArgs s_law) (defBody s_law) (defScope s_law) .none kV20 dc20 pm20 an20 cd20 ct20), sl20⟩) (c20 : PySem.W.codeIn K cd20 "law" = true) (k20 : PySem.W.keepIn K (.ref f20) = true)
    (z_len : PySem.W.nsIn K mainGlobals "len" = some none)
    (z_tuple : PySem.W.nsIn K mainGlobals "tuple" = some none)
    (z_list : PySem.W.nsIn K mainGlobals "list" = some none)
    (z_int : PySem.W.nsIn K mainGlobals "int" = some none)
    (z_str : PySem.W.nsIn K mainGlobals "str" = some none)
    (z_bool : PySem.W.nsIn K mainGlobals "bool" = some none)
    (z_isinstance : PySem.W.nsIn K mainGlobals "isinstance" = some none)
    (z_zip : PySem.W.nsIn K mainGlobals "zip" = some none)
    (z_enumerate : PySem.W.nsIn K mainGlobals "enumerate" = some none)
    (z_range : PySem.W.nsIn K mainGlobals "range" = some none)
    (z_sorted : PySem.W.nsIn K mainGlobals "sorted" = some none)
    (z_set : PySem.W.nsIn K mainGlobals "set" = some none)
    (x1_BadLine : PySem.W.nsIn K mainGlobals "BadLine" = some (some (.ref C_BadLine)))
    (x3_BadLine : PySem.W.keepIn K (.ref C_BadLine) = true)
    (x4_BadLine : PySem.W.subIn K (.ref C_BadLine) (.type "BaseException") = some true)
    (x5_BadLine : PySem.W.typeIn K (.ref C_BadLine) = some (.type "type"))
    (x6_BadLine : PySem.W.isClsIn K C_BadLine = true)
    (x7_BadLine : PySem.W.subIn K (.ref C_BadLine) (.ref C_BadLine) = some true)
    (hg_BadLine : PySem.W.findIn K (.ref C_BadLine) "__getattribute__" = some (some (.builtin "BaseException.__getattribute__")))
    (hk_BadLine : PySem.W.findIn K (.ref C_BadLine) "__getattr__" = some none)
    (hh_BadLine : PySem.W.hasDictIn K C_BadLine = true)
    (x1_BadText : PySem.W.nsIn K mainGlobals "BadText" = some (some (.ref C_BadText)))
    (x3_BadText : PySem.W.keepIn K (.ref C_BadText) = true)
    (x4_BadText : PySem.W.subIn K (.ref C_BadText) (.type "BaseException") = some true)
    (x5_BadText : PySem.W.typeIn K (.ref C_BadText) = some (.type "type"))
    (x6_BadText : PySem.W.isClsIn K C_BadText = true)
    (x7_BadText : PySem.W.subIn K (.ref C_BadText) (.ref C_BadText) = some true)
    (x2_BadText : PySem.W.excIn K C_BadText veBases "ValueError.__new__" = true)
    (s_tl : PySem.W.subIn K (.ref C_BadText) (.ref C_BadLine) = some false)
    (lT : K.lookup C_BadLine = some oT)
    (oexT : oexB C_BadLine oT = true)
    (saT : PySem.W.findIn K (.ref C_BadLine) "__setattr__" = some (some (.builtin "object.__setattr__")))
    (no1 : PySem.W.findIn K (.ref C_BadLine) "line" = some none)
    (no2 : PySem.W.findIn K (.ref C_BadLine) "word" = some none)
    (iT : PySem.W.findIn K (.ref C_BadLine) "__init__" = some (some (.ref fI)))
    (tyI : PySem.W.typeIn K (.ref fI) = some (.type "function"))
    (lI : K.lookup fI = some ⟨ocI, odI, .func (PySem.W.fnOf "__init__" "BadLine.__init__" (defArgs s_init) (defBody s_init) (defScope s_init) .none kVI dcI pmI anI cdI ctI), slI⟩)
    (cI : PySem.W.codeIn K cdI "BadLine.__init__" = true)
    (kI : PySem.W.keepIn K (.ref fI) = true)
    (lS : K.lookup cStatics = some oS)
    (okS : okB oS = true)
    (N2 : PySem.W.nsIn K cStatics sharingNotToldKey = some none)
    (g_MOST_PEOPLE : PySem.W.nsIn K mainGlobals "MOST_PEOPLE" = some (some (.int 8 tM)))
    (g_FIGURES : PySem.W.nsIn K mainGlobals "FIGURES" = some (some (.ref rF)))
    (qF : K.lookup rF = some ⟨.type "tuple", none, .seq #[.str "0" tF0, .str "1" tF1, .str "2" tF2, .str "3" tF3, .str "4" tF4, .str "5" tF5, .str "6" tF6, .str "7" tF7, .str "8" tF8] rnF, rsF⟩)
    : ∃ fd : FuncData, (∀ (s : Shared) (v : Value), BindsTo s fd ⟨[v], []⟩ [("script", v)]) ∧ ∀ base : Heap, K.In base → base.Ns mainGlobals mg → FnOk l.prog w K mg base CX0 9 fa fd ["script"] (spLaw K) := by
  have e := hfa.symm.trans (PySem.W.mg_of X G a20)
  cases e
  have B : Blt mg := ⟨PySem.W.mg_none_of X G z_len, PySem.W.mg_none_of X G z_tuple, PySem.W.mg_none_of X G z_list, PySem.W.mg_none_of X G z_int, PySem.W.mg_none_of X G z_str, PySem.W.mg_none_of X G z_bool, PySem.W.mg_none_of X G z_isinstance, PySem.W.mg_none_of X G z_zip, PySem.W.mg_none_of X G z_enumerate, PySem.W.mg_none_of X G z_range, PySem.W.mg_none_of X G z_sorted, PySem.W.mg_none_of X G z_set⟩
  have c_MOST_PEOPLE : GlobC K mg "MOST_PEOPLE" C_MOST_PEOPLE := ⟨_, V.int 8, PySem.W.mg_of X G g_MOST_PEOPLE, ⟨tM, rfl⟩, fun H => (.int 8)⟩
  have t_FIGURES : TupG K mg "FIGURES" rF FIGS := ⟨PySem.W.mg_of X G g_FIGURES, ⟨_, qF, rfl, rfl⟩, fun H => .inr ⟨_, _, _, qF, rfl, rfl, by show 9 ≤ sizeLine; decide, (.cons ⟨tF0, rfl⟩ (.cons ⟨tF1, rfl⟩ (.cons ⟨tF2, rfl⟩ (.cons ⟨tF3, rfl⟩ (.cons ⟨tF4, rfl⟩ (.cons ⟨tF5, rfl⟩ (.cons ⟨tF6, rfl⟩ (.cons ⟨tF7, rfl⟩ (.cons ⟨tF8, rfl⟩ .nil)))))))))⟩⟩
  have F_is_number : FunAt K mg "is_number" ["value"] s_is_number := ⟨_, _, fun_mk (st := s_is_number) l1 c1 k1, (fun_mk (st := s_is_number) l1 c1 k1).binds (ps := ["value"]) fun _ _ _ _ _ _ us hl => match us, hl with | [_], _ => rfl, PySem.W.mg_of X G a1⟩
  have F_is_club : FunAt K mg "is_club" ["value", "people"] s_is_club := ⟨_, _, fun_mk (st := s_is_club) l2 c2 k2, (fun_mk (st := s_is_club) l2 c2 k2).binds (ps := ["value", "people"]) fun _ _ _ _ _ _ us hl => match us, hl with | [_, _], _ => rfl, PySem.W.mg_of X G a2⟩
  have F_are_clubs : FunAt K mg "are_clubs" ["value", "people"] s_are_clubs := ⟨_, _, fun_mk (st := s_are_clubs) l3 c3 k3, (fun_mk (st := s_are_clubs) l3 c3 k3).binds (ps := ["value", "people"]) fun _ _ _ _ _ _ us hl => match us, hl with | [_, _], _ => rfl, PySem.W.mg_of X G a3⟩
  have F_wrong_part : FunAt K mg "wrong_part" ["value"] s_wrong_part := ⟨_, _, fun_mk (st := s_wrong_part) l4 c4 k4, (fun_mk (st := s_wrong_part) l4 c4 k4).binds (ps := ["value"]) fun _ _ _ _ _ _ us hl => match us, hl with | [_], _ => rfl, PySem.W.mg_of X G a4⟩
  have F_check_town : FunAt K mg "check_town" ["value"] s_check_town := ⟨_, _, fun_mk (st := s_check_town) l5 c5 k5, (fun_mk (st := s_check_town) l5 c5 k5).binds (ps := ["value"]) fun _ _ _ _ _ _ us hl => match us, hl with | [_], _ => rfl, PySem.W.mg_of X G a5⟩
  have F_club_line : FunAt K mg "club_line" ["club"] s_club_line := ⟨_, _, fun_mk (st := s_club_line) l6 c6 k6, (fun_mk (st := s_club_line) l6 c6 k6).binds (ps := ["club"]) fun _ _ _ _ _ _ us hl => match us, hl with | [_], _ => rfl, PySem.W.mg_of X G a6⟩
  have F_write_town : FunAt K mg "write_town" ["town"] s_write_town := ⟨_, _, fun_mk (st := s_write_town) l7 c7 k7, (fun_mk (st := s_write_town) l7 c7 k7).binds (ps := ["town"]) fun _ _ _ _ _ _ us hl => match us, hl with | [_], _ => rfl, PySem.W.mg_of X G a7⟩
  have F_told_lines : FunAt K mg "told_lines" ["text"] s_told_lines := ⟨_, _, fun_mk (st := s_told_lines) l8 c8 k8, (fun_mk (st := s_told_lines) l8 c8 k8).binds (ps := ["text"]) fun _ _ _ _ _ _ us hl => match us, hl with | [_], _ => rfl, PySem.W.mg_of X G a8⟩
  have F__law_taken : FunAt K mg "_law_taken" ["row", "many"] s__law_taken := ⟨_, _, fun_mk (st := s__law_taken) l9 c9 k9, (fun_mk (st := s__law_taken) l9 c9 k9).binds (ps := ["row", "many"]) fun _ _ _ _ _ _ us hl => match us, hl with | [_, _], _ => rfl, PySem.W.mg_of X G a9⟩
  have F__law_pick : FunAt K mg "_law_pick" ["row", "things"] s__law_pick := ⟨_, _, fun_mk (st := s__law_pick) l10 c10 k10, (fun_mk (st := s__law_pick) l10 c10 k10).binds (ps := ["row", "things"]) fun _ _ _ _ _ _ us hl => match us, hl with | [_, _], _ => rfl, PySem.W.mg_of X G a10⟩
  have F__law_alike : FunAt K mg "_law_alike" ["found", "due"] s__law_alike := ⟨_, _, fun_mk (st := s__law_alike) l11 c11 k11, (fun_mk (st := s__law_alike) l11 c11 k11).binds (ps := ["found", "due"]) fun _ _ _ _ _ _ us hl => match us, hl with | [_, _], _ => rfl, PySem.W.mg_of X G a11⟩
  have F__law_clubs : FunAt K mg "_law_clubs" ["people"] s__law_clubs := ⟨_, _, fun_mk (st := s__law_clubs) l12 c12 k12, (fun_mk (st := s__law_clubs) l12 c12 k12).binds (ps := ["people"]) fun _ _ _ _ _ _ us hl => match us, hl with | [_], _ => rfl, PySem.W.mg_of X G a12⟩
  have F__law_any_town : FunAt K mg "_law_any_town" ["row", "most"] s__law_any_town := ⟨_, _, fun_mk (st := s__law_any_town) l13 c13 k13, (fun_mk (st := s__law_any_town) l13 c13 k13).binds (ps := ["row", "most"]) fun _ _ _ _ _ _ us hl => match us, hl with | [_, _], _ => rfl, PySem.W.mg_of X G a13⟩
  have F__law_refused : FunAt K mg "_law_refused" [] s__law_refused := ⟨_, _, fun_mk (st := s__law_refused) l14 c14 k14, (fun_mk (st := s__law_refused) l14 c14 k14).binds (ps := []) fun _ _ _ _ _ _ us hl => match us, hl with | [], _ => rfl, PySem.W.mg_of X G a14⟩
  have F_told_people : FunAt K mg "told_people" ["number", "words"] s_told_people := ⟨_, _, fun_mk (st := s_told_people) l15 c15 k15, (fun_mk (st := s_told_people) l15 c15 k15).binds (ps := ["number", "words"]) fun _ _ _ _ _ _ us hl => match us, hl with | [_, _], _ => rfl, PySem.W.mg_of X G a15⟩
  have F_told_club : FunAt K mg "told_club" ["number", "words", "people"] s_told_club := ⟨_, _, fun_mk (st := s_told_club) l16 c16 k16, (fun_mk (st := s_told_club) l16 c16 k16).binds (ps := ["number", "words", "people"]) fun _ _ _ _ _ _ us hl => match us, hl with | [_, _, _], _ => rfl, PySem.W.mg_of X G a16⟩
  have F_read_town : FunAt K mg "read_town" ["text"] s_read_town := ⟨_, _, fun_mk (st := s_read_town) l17 c17 k17, (fun_mk (st := s_read_town) l17 c17 k17).binds (ps := ["text"]) fun _ _ _ _ _ _ us hl => match us, hl with | [_], _ => rfl, PySem.W.mg_of X G a17⟩
  have F__law_loose : FunAt K mg "_law_loose" ["row", "text"] s__law_loose := ⟨_, _, fun_mk (st := s__law_loose) l18 c18 k18, (fun_mk (st := s__law_loose) l18 c18 k18).binds (ps := ["row", "text"]) fun _ _ _ _ _ _ us hl => match us, hl with | [_, _], _ => rfl, PySem.W.mg_of X G a18⟩
  have F__law_refusal : FunAt K mg "_law_refusal" ["text"] s__law_refusal := ⟨_, _, fun_mk (st := s__law_refusal) l19 c19 k19, (fun_mk (st := s__law_refusal) l19 c19 k19).binds (ps := ["text"]) fun _ _ _ _ _ _ us hl => match us, hl with | [_], _ => rfl, PySem.W.mg_of X G a19⟩
  have TT : OexC K C_BadLine := ⟨oex_of lT oexT, saT, x4_BadLine, x5_BadLine, x3_BadLine⟩
  have e_BadText : ExcAt K mg "BadText" C_BadText := ⟨PySem.W.mg_of X G x1_BadText, x2_BadText, x3_BadText, x4_BadText, x5_BadText⟩
  have W : ErrW K mg C_BadLine C_BadText := ⟨⟨hg_BadLine, hk_BadLine, x4_BadLine, hh_BadLine⟩, no1, no2, PySem.W.mg_of X G x1_BadLine, PySem.W.mg_of X G x1_BadText, exm_sub x4_BadLine x6_BadLine x5_BadLine x7_BadLine, exm_sub x4_BadLine x6_BadLine x5_BadLine s_tl, exm_sub x4_BadText x6_BadText x5_BadText x7_BadText⟩
  refine ⟨PySem.W.fnOf "law" "law" (defArgs s_law) (defBody s_law) (defScope s_law) .none kV20 dc20 pm20 an20 cd20 ct20, fun s v => .of_eq rfl, fun base _ _ => ?_⟩
  have d_is_number := def_is_number (P := l.prog) (w := w) (base := base) F_is_number B 
  have d_is_club := def_is_club (P := l.prog) (w := w) (base := base) F_is_club B d_is_number
  have d_are_clubs := def_are_clubs (P := l.prog) (w := w) (base := base) F_are_clubs B d_is_club
  have d_wrong_part := def_wrong_part (P := l.prog) (w := w) (base := base) F_wrong_part B d_are_clubs d_is_number c_MOST_PEOPLE
  have d_check_town := def_check_town (P := l.prog) (w := w) (base := base) F_check_town B d_wrong_part
  have d_club_line := def_club_line (P := l.prog) (w := w) (base := base) F_club_line B 
  have d_write_town := def_write_town (P := l.prog) (w := w) (base := base) F_write_town B d_check_town d_club_line
  have d_told_lines := def_told_lines (P := l.prog) (w := w) (base := base) F_told_lines B 
  have d__law_taken := def__law_taken (P := l.prog) (w := w) (base := base) F__law_taken B 
  have d__law_pick := def__law_pick (P := l.prog) (w := w) (base := base) F__law_pick B d__law_taken
  have d__law_alike := def_alike (P := l.prog) (w := w) (base := base) F__law_alike B 8
  have d__law_clubs := def__law_clubs (P := l.prog) (w := w) (base := base) F__law_clubs B 
  have d__law_any_town := def__law_any_town (P := l.prog) (w := w) (base := base) F__law_any_town B d__law_clubs d__law_pick d__law_taken
  have d__law_refused := def__law_refused (P := l.prog) (w := w) (base := base) F__law_refused B 
  have e_BadLine : ErrL l.prog w K mg base C_BadLine := ⟨TT, no1, no2, PySem.W.mg_of X G x1_BadLine, fI, _, iT, tyI, fn_init TT no1 no2 lI cI, (fun_mk (st := s_init) lI cI kI).binds (ps := ["self", "line", "word"]) fun _ _ _ _ _ _ us hl => match us, hl with | [_, _, _], _ => rfl⟩
  have y_told_people := defY_told_people (P := l.prog) (w := w) (base := base) F_told_people B e_BadLine t_FIGURES
  have y_told_club := defY_told_club (P := l.prog) (w := w) (base := base) F_told_club B e_BadLine t_FIGURES
  have y_read_town := defY_read_town (P := l.prog) (w := w) (base := base) F_read_town B e_BadLine e_BadText d_told_lines y_told_people y_told_club
  have d_read_town := def_read_town y_read_town
  have d__law_refusal := def__law_refusal (P := l.prog) (w := w) (base := base) F__law_refusal B y_read_town W
  obtain ⟨ga, pk⟩ := pick_run (P := l.prog) (w := w) (base := base) F__law_pick B d__law_taken
  have d__law_loose := def__law_loose (P := l.prog) (w := w) (base := base) F__law_loose pk (ok_of lS okS) N2
  exact def_law (fun_mk (st := s_law) l20 c20 k20) B d__law_alike d__law_any_town d__law_loose d__law_refusal d__law_refused d_read_town d_write_town
theorem walk {l : PySem.W.OpenLaw} {q : Program} {loose : List Str} {XP : (Str → Option Value) → Heap → Prop} {YP : World → Heap → Prop} {d : DefRec} {K : Params → PySem.W.Frag} (hn : l.most = some 63) (hdf : d.params.defaults = [])
    (hY : ∀ (w : World) (h : Heap), YP w h → (K w.params).In h)
    (F : ∀ (w : World) (mg : Str → Option Value) (fa : Addr) (h : Heap), (K w.params).In h → h.Ns mainGlobals mg → mg d.name = some (.ref fa) →
      ∃ fd : FuncData, (∀ (s : Shared) (u : Value), BindsTo s fd ⟨[u], []⟩ [("script", u)]) ∧ ∀ base : Heap, (K w.params).In base → base.Ns mainGlobals mg → FnOk l.prog w (K w.params) mg base CX0 9 fa fd ["script"] (spLaw (K w.params))) :
    PySem.W.WalkO q loose XP YP l.row.toRowW d [] (fun f vs => PySem.call f vs) :=
  L2.walk_of (n := 63) (k := 9) (x := "script") (CX := fun _ => CX0) (sp := fun w => spLaw (K w.params)) hn (by decide) hdf ⟨rfl, by decide, by decide⟩ hY F (fun _ _ a ns hl _ hS => ⟨a, ns, rfl, hS, hl, fun _ => rfl⟩) fun _ _ _ _ _ z => z
end Ft
open PySem PySem.W PyProof.Rows
set_option maxRecDepth 100000 in
set_option maxHeartbeats 0 in
theorem PySem.Challenge.cw_fourtowns_k07_whole_texts_holds : PySem.Challenge.rw_fourtowns_k07_whole_texts.Holds := by
  w_on; o_law; k_head; (case hw => w_witness2)
  k_fill
  refine Ft.walk (l := PySem.Challenge.rw_fourtowns_k07_whole_texts) rfl rfl (fun w h Y => PySem.W.kIn_of Y) ?F
  case F =>
    intro w mg fa h KX G hmg
    refine' Ft.all_mk KX G hmg ?a1 ?l1 ?c1 ?k1 ?a2 ?l2 ?c2 ?k2 ?a3 ?l3 ?c3 ?k3 ?a4 ?l4 ?c4 ?k4 ?a5 ?l5 ?c5 ?k5 ?a6 ?l6 ?c6 ?k6 ?a7 ?l7 ?c7 ?k7 ?a8 ?l8 ?c8 ?k8 ?a9 ?l9 ?c9 ?k9 ?a10 ?l10 ?c10 ?k10 ?a11 ?l11 ?c11 ?k11 ?a12 ?l12 ?c12 ?k12 ?a13 ?l13 ?c13 ?k13 ?a14 ?l14 ?c14 ?k14 ?a15 ?l15 ?c15 ?k15 ?a16 ?l16 ?c16 ?k16 ?a17 ?l17 ?c17 ?k17 ?a18 ?l18 ?c18 ?k18 ?a19 ?l19 ?c19 ?k19 ?a20 ?l20 ?c20 ?k20 ?z_len ?z_tuple ?z_list ?z_int ?z_str ?z_bool ?z_isinstance ?z_zip ?z_enumerate ?z_range ?z_sorted ?z_set ?x1_BadLine ?x3_BadLine ?x4_BadLine ?x5_BadLine ?x6_BadLine ?x7_BadLine ?hg_BadLine ?hk_BadLine ?hh_BadLine ?x1_BadText ?x3_BadText ?x4_BadText ?x5_BadText ?x6_BadText ?x7_BadText ?x2_BadText ?s_tl ?lT ?oexT ?saT ?no1 ?no2 ?iT ?tyI ?lI ?cI ?kI ?lS ?okS ?N2 ?g_MOST_PEOPLE ?g_FIGURES ?qF
    (case a1 => k_is)
    (case l1 => k_is)
    (case c1 => k_is)
    (case k1 => k_is)
    (case a2 => k_is)
    (case l2 => k_is)
    (case c2 => k_is)
    (case k2 => k_is)
    (case a3 => k_is)
    (case l3 => k_is)
    (case c3 => k_is)
    (case k3 => k_is)
    (case a4 => k_is)
    (case l4 => k_is)
    (case c4 => k_is)
    (case k4 => k_is)
    (case a5 => k_is)
    (case l5 => k_is)
    (case c5 => k_is)
    (case k5 => k_is)
    (case a6 => k_is)
    (case l6 => k_is)
    (case c6 => k_is)
    (case k6 => k_is)
    (case a7 => k_is)
    (case l7 => k_is)
    (case c7 => k_is)
    (case k7 => k_is)
    (case a8 => k_is)
    (case l8 => k_is)
    (case c8 => k_is)
    (case k8 => k_is)
    (case a9 => k_is)
    (case l9 => k_is)
    (case c9 => k_is)
    (case k9 => k_is)
    (case a10 => k_is)
    (case l10 => k_is)
    (case c10 => k_is)
    (case k10 => k_is)
    (case a11 => k_is)
    (case l11 => k_is)
    (case c11 => k_is)
    (case k11 => k_is)
    (case a12 => k_is)
    (case l12 => k_is)
    (case c12 => k_is)
    (case k12 => k_is)
    (case a13 => k_is)
    (case l13 => k_is)
    (case c13 => k_is)
    (case k13 => k_is)
    (case a14 => k_is)
    (case l14 => k_is)
    (case c14 => k_is)
    (case k14 => k_is)
    (case a15 => k_is)
    (case l15 => k_is)
    (case c15 => k_is)
    (case k15 => k_is)
    (case a16 => k_is)
    (case l16 => k_is)
    (case c16 => k_is)
    (case k16 => k_is)
    (case a17 => k_is)
    (case l17 => k_is)
    (case c17 => k_is)
    (case k17 => k_is)
    (case a18 => k_is)
    (case l18 => k_is)
    (case c18 => k_is)
    (case k18 => k_is)
    (case a19 => k_is)
    (case l19 => k_is)
    (case c19 => k_is)
    (case k19 => k_is)
    (case a20 => k_is)
    (case l20 => k_is)
    (case c20 => k_is)
    (case k20 => k_is)
    (case z_len => k_is)
    (case z_tuple => k_is)
    (case z_list => k_is)
    (case z_int => k_is)
    (case z_str => k_is)
    (case z_bool => k_is)
    (case z_isinstance => k_is)
    (case z_zip => k_is)
    (case z_enumerate => k_is)
    (case z_range => k_is)
    (case z_sorted => k_is)
    (case z_set => k_is)
    (case x1_BadLine => k_is)
    (case x3_BadLine => k_is)
    (case x4_BadLine => k_is)
    (case x5_BadLine => k_is)
    (case x6_BadLine => k_is)
    (case x7_BadLine => k_is)
    (case hg_BadLine => k_is)
    (case hk_BadLine => k_is)
    (case hh_BadLine => k_is)
    (case x1_BadText => k_is)
    (case x3_BadText => k_is)
    (case x4_BadText => k_is)
    (case x5_BadText => k_is)
    (case x6_BadText => k_is)
    (case x7_BadText => k_is)
    (case x2_BadText => k_exc)
    (case s_tl => k_is)
    (case lT => k_is)
    (case oexT => rfl)
    (case saT => k_is)
    (case no1 => k_is)
    (case no2 => k_is)
    (case iT => k_is)
    (case tyI => k_is)
    (case lI => k_is)
    (case cI => k_is)
    (case kI => k_is)
    (case lS => k_is)
    (case okS => rfl)
    (case N2 => k_is)
    (case g_MOST_PEOPLE => k_is)
    (case g_FIGURES => k_is)
    (case qF => k_is)
