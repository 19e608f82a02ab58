import PyProof.Rows.All
import Wide.All
import OpenK.AllK
import Wide.FinOn
import HandS.ForMost
import HandS.ForExc
import HandS.IsInst
import HandS.Wide
import HandS.TupLe
import HandS.EndBits
import PySem.Challenge.RW_tillpress_k06_whole_levels_and_tills
set_option Elab.async false
set_option linter.all false
set_option maxRecDepth 100000
set_option maxHeartbeats 4000000
/-! DL, part a: data, what a value stands for, frames, outcomes. -/
namespace DL
open PySem PySem.Spec PyProof.Rows L2

inductive D where
  | non | bl (b : Bool) | int (i : Int) | str (x : Str) | lst (xs : List D) | tup (xs : List D) | dic (kvs : List (Key × D)) | scr (ns : List Int) | ref (a : Addr) | ty (n : String)

mutual
inductive Is (K : PySem.W.Frag) (B : Hp) : V → D → Prop
  | non : Is K B .non .non
  | bl (b : Bool) : Is K B (.bl b) (.bl b)
  | int (i : Int) : Is K B (.int i) (.int i)
  | str (x : Str) : Is K B (.str x) (.str x)
  | lst {a : Addr} {xs : List V} {ds : List D} : B a = some (.lst xs) → IsA K B xs ds → Is K B (.ref a) (.lst ds)
  | tup {a : Addr} {xs : List V} {ds : List D} : B a = some (.tup xs) → IsA K B xs ds → Is K B (.ref a) (.tup ds)
  | dic {a : Addr} {kvs : List (Key × V)} {ds : List (Key × D)} : B a = some (.dK kvs) → IsK K B kvs ds → Is K B (.ref a) (.dic ds)
  | scr {a : Addr} {ns : List Int} : SqL K B a (ns.map V.int) → Is K B (.ref a) (.scr ns)
  | ref (a : Addr) : Is K B (.ref a) (.ref a)
  | ty (n : String) : Is K B (.ty n) (.ty n)
inductive IsA (K : PySem.W.Frag) (B : Hp) : List V → List D → Prop
  | nil : IsA K B [] []
  | cons {v : V} {vs : List V} {d : D} {ds : List D} : Is K B v d → IsA K B vs ds → IsA K B (v :: vs) (d :: ds)
inductive IsK (K : PySem.W.Frag) (B : Hp) : List (Key × V) → List (Key × D) → Prop
  | nil : IsK K B [] []
  | cons {k : Key} {v : V} {vs : List (Key × V)} {d : D} {ds : List (Key × D)} : Is K B v d → IsK K B vs ds → IsK K B ((k, v) :: vs) ((k, d) :: ds)
end

theorem same_upd {H : Hp} {p : Addr} {o : HO} (h : H p = none) : Same H (upd H p o) := fun b x e => by
  rw [upd_ne (ne_of_none e h)]
  exact e
theorem same_t {K : PySem.W.Frag} {H H' : Hp} {a : Addr} {xs : List V} (e : Same H H') (h : SqT K H a xs) : SqT K H' a xs := by
  rcases h with (h | ⟨o, h⟩) | h
  · exact .inl (.inl (e _ _ h))
  · exact .inl (.inr ⟨o, e _ _ h⟩)
  · exact .inr h
mutual
theorem Is.mono {K : PySem.W.Frag} {B B' : Hp} (e : Same B B') : ∀ {v : V} {d : D}, Is K B v d → Is K B' v d
  | _, _, .non => .non
  | _, _, .bl b => .bl b
  | _, _, .int i => .int i
  | _, _, .str x => .str x
  | _, _, .lst h k => .lst (e _ _ h) (IsA.mono e k)
  | _, _, .tup h k => .tup (e _ _ h) (IsA.mono e k)
  | _, _, .dic h k => .dic (e _ _ h) (IsK.mono e k)
  | _, _, .scr h => .scr (e.seq h)
  | _, _, .ref a => .ref a
  | _, _, .ty n => .ty n
theorem IsA.mono {K : PySem.W.Frag} {B B' : Hp} (e : Same B B') : ∀ {v : List V} {d : List D}, IsA K B v d → IsA K B' v d
  | _, _, .nil => .nil
  | _, _, .cons h k => .cons (Is.mono e h) (IsA.mono e k)
theorem IsK.mono {K : PySem.W.Frag} {B B' : Hp} (e : Same B B') : ∀ {v : List (Key × V)} {d : List (Key × D)}, IsK K B v d → IsK K B' v d
  | _, _, .nil => .nil
  | _, _, .cons h k => .cons (Is.mono e h) (IsK.mono e k)
end
section
variable {K : PySem.W.Frag} {B B' : Hp}
theorem IsA.len : ∀ {xs : List V} {ds : List D}, IsA K B xs ds → xs.length = ds.length
  | _, _, .nil => rfl
  | _, _, .cons _ k => by rw [List.length_cons, List.length_cons, IsA.len k]
theorem IsA.get : ∀ {xs : List V} {ds : List D} {i : Nat} {d : D}, IsA K B xs ds → ds[i]? = some d → ∃ v, xs[i]? = some v ∧ Is K B v d
  | _, _, _, _, .nil, e => by simp at e
  | _, _, 0, _, .cons h k, e => by
    simp at e
    subst e
    exact ⟨_, rfl, h⟩
  | _, _, i + 1, d, .cons h k, e => by
    obtain ⟨v, h1, h2⟩ := IsA.get (i := i) (d := d) k (by simpa using e)
    exact ⟨v, by simpa using h1, h2⟩
theorem IsA.getV : ∀ {xs : List V} {ds : List D} {i : Nat} {v : V}, IsA K B xs ds → xs[i]? = some v → ∃ d, ds[i]? = some d ∧ Is K B v d
  | _, _, _, _, .nil, e => by simp at e
  | _, _, 0, _, .cons h k, e => by
    simp at e
    subst e
    exact ⟨_, rfl, h⟩
  | _, _, i + 1, d, .cons h k, e => by
    obtain ⟨v, h1, h2⟩ := IsA.getV (i := i) (v := d) k (by simpa using e)
    exact ⟨v, by simpa using h1, h2⟩
theorem IsA.app : ∀ {xs ys : List V} {ds es : List D}, IsA K B xs ds → IsA K B ys es → IsA K B (xs ++ ys) (ds ++ es)
  | _, _, _, _, .nil, k => k
  | _, _, _, _, .cons h t, k => .cons h (IsA.app t k)
theorem IsA.set : ∀ {xs : List V} {ds : List D} (i : Nat) {v : V} {d : D}, IsA K B xs ds → Is K B v d → IsA K B (xs.set i v) (ds.set i d)
  | _, _, _, _, _, .nil, _ => .nil
  | _, _, 0, _, _, .cons _ t, k => .cons k t
  | _, _, i + 1, _, _, .cons h t, k => .cons h (IsA.set i t k)
theorem IsA.take : ∀ {xs : List V} {ds : List D} (n : Nat), IsA K B xs ds → IsA K B (xs.take n) (ds.take n)
  | _, _, 0, _ => .nil
  | _, _, _ + 1, .nil => .nil
  | _, _, n + 1, .cons h t => .cons h (IsA.take n t)
theorem IsA.drop : ∀ {xs : List V} {ds : List D} (n : Nat), IsA K B xs ds → IsA K B (xs.drop n) (ds.drop n)
  | _, _, 0, k => k
  | _, _, _ + 1, .nil => .nil
  | _, _, n + 1, .cons _ t => IsA.drop n t
theorem IsA.rev : ∀ {xs : List V} {ds : List D}, IsA K B xs ds → IsA K B xs.reverse ds.reverse
  | _, _, .nil => .nil
  | _, _, .cons h t => by
    rw [List.reverse_cons, List.reverse_cons]
    exact IsA.app (IsA.rev t) (.cons h .nil)
theorem IsA.rep : ∀ (n : Nat) {xs : List V} {ds : List D}, IsA K B xs ds → IsA K B (List.replicate n xs).flatten (List.replicate n ds).flatten
  | 0, _, _, _ => .nil
  | n + 1, xs, ds, k => by
    rw [List.replicate_succ, List.replicate_succ, List.flatten_cons, List.flatten_cons]
    exact IsA.app k (IsA.rep n k)
theorem isA_ints : ∀ (ns : List Int), IsA K B (ns.map V.int) (ns.map D.int)
  | [] => .nil
  | n :: r => .cons (.int n) (isA_ints r)
theorem Is.intV {v : V} {i : Int} (h : Is K B v (.int i)) : v = .int i := by cases h; rfl
theorem Is.blV {v : V} {b : Bool} (h : Is K B v (.bl b)) : v = .bl b := by cases h; rfl
theorem Is.nonV {v : V} (h : Is K B v .non) : v = .non := by cases h; rfl
theorem Is.strV {v : V} {x : Str} (h : Is K B v (.str x)) : v = .str x := by cases h; rfl
theorem Is.lstV {v : V} {ds : List D} (h : Is K B v (.lst ds)) : ∃ a xs, v = .ref a ∧ B a = some (.lst xs) ∧ IsA K B xs ds := by
  cases h with
  | lst h k => exact ⟨_, _, rfl, h, k⟩
theorem Is.tupV {v : V} {ds : List D} (h : Is K B v (.tup ds)) : ∃ a xs, v = .ref a ∧ B a = some (.tup xs) ∧ IsA K B xs ds := by
  cases h with
  | tup h k => exact ⟨_, _, rfl, h, k⟩
theorem Is.scrV {v : V} {ns : List Int} (h : Is K B v (.scr ns)) : ∃ a, v = .ref a ∧ SqL K B a (ns.map V.int) := by
  cases h with
  | scr h => exact ⟨_, rfl, h⟩
end

/-! ### frames -/
inductive Sl where
  | no | im (d : D) | own (ds : List D)
abbrev Env := List Sl

structure IV (K : PySem.W.Frag) (ks : List Nat) (σ0 : L2.St) (Fm B H : Hp) (σ : L2.St) (ρ : Env) : Prop where
  ex : Same B H
  fr : Same Fm H
  fb : ∀ a o, Fm a = some o → B a = none
  len : σ.length = ρ.length
  im : ∀ (i : Nat) d, ρ[i]? = some (.im d) → ∃ v, σ[i]? = some (some v) ∧ Is K B v d
  own : ∀ (i : Nat) ds, ρ[i]? = some (.own ds) → ∃ a xs, σ[i]? = some (some (.ref a)) ∧ H a = some (.lst xs) ∧ B a = none ∧ Fm a = none ∧ IsA K B xs ds
  dj : ∀ (i j : Nat) ds es a, i ≠ j → ρ[i]? = some (.own ds) → ρ[j]? = some (.own es) → σ[i]? = some (some (.ref a)) → σ[j]? = some (some (.ref a)) → False
  pin : ∀ j ∈ ks, σ[j]? = σ0[j]?

inductive R (α : Type) where
  | ok (a : α) (ρ : Env)
  | exc (C : Addr) (d : Option (Str × D)) (ρ : Env)
  | bad
def R.bind {α β : Type} (r : R α) (k : α → Env → R β) : R β :=
  match r with
  | .ok a ρ => k a ρ
  | .exc C d ρ => .exc C d ρ
  | .bad => .bad
/-- no exception may leave -/
def R.nx {α : Type} (r : R α) : R α :=
  match r with
  | .ok a ρ => .ok a ρ
  | _ => .bad
inductive Rv where
  | im (d : D) | own (ds : List D)
def Rv.d : Rv → D
  | .im d => d
  | .own ds => .lst ds
def Rv.sl : Rv → Sl
  | .im d => .im d
  | .own ds => .own ds
def lift {α : Type} (o : Option α) (ρ : Env) : R α :=
  match o with
  | some a => .ok a ρ
  | none => .bad

def XAt (K : PySem.W.Frag) (B : Hp) (dx : Option Addr) : Option (Str × D) → Prop
  | none => True
  | some (nm, x) => ∃ q v, dx = some q ∧ B q = some (.xd [(nm, v)]) ∧ Is K B v x

/-- what must hold of what follows, by the outcome that the data tell. vis: how a result shows -/
def PtG {α β : Type} (K : PySem.W.Frag) (ks : List Nat) (σ0 : L2.St) (Fm : Hp) (W : WX) (vis : Hp → Hp → Env → β → α → Prop) (B : Hp) (σ : L2.St) (Q : β → Hp → Prop) : R α → Prop
  | .ok a ρ' => ∀ B' H' b, Same B B' → IV K ks σ0 Fm B' H' σ ρ' → vis B' H' ρ' b a → Q b H'
  | .exc C d ρ' => ∀ B' H' dx, Same B B' → IV K ks σ0 Fm B' H' σ ρ' → XAt K B' dx d → W (.ref C) dx σ H'
  | .bad => False

def vE (K : PySem.W.Frag) (Fm : Hp) (σ : L2.St) (B H : Hp) (ρ : Env) (v : V) : Rv → Prop
  | .im d => Is K B v d
  | .own ds => ∃ a xs, v = .ref a ∧ H a = some (.lst xs) ∧ B a = none ∧ Fm a = none ∧ IsA K B xs ds ∧ ∀ (i : Nat) es, ρ[i]? = some (.own es) → σ[i]? ≠ some (some (.ref a))
def vEq {α : Type} (_ _ : Hp) (_ : Env) (b a : α) : Prop := b = a

/-- an expression's reading does what the data function tells -/
def DE (K : PySem.W.Frag) (W : WX) (te : TE) (f : Env → R Rv) : Prop := ∀ ks σ0 Fm B H σ ρ Q, IV K ks σ0 Fm B H σ ρ → PtG K ks σ0 Fm W (vE K Fm σ) B σ Q (f ρ) → te σ H Q
def DT (K : PySem.W.Frag) (W : WX) (te : TT) (f : Env → R Bool) : Prop := ∀ ks σ0 Fm B H σ ρ Q, IV K ks σ0 Fm B H σ ρ → PtG K ks σ0 Fm W vEq B σ Q (f ρ) → te σ H Q
def DO (K : PySem.W.Frag) (W : WX) (te : TO) (f : Env → R (Option Int)) : Prop := ∀ ks σ0 Fm B H σ ρ Q, IV K ks σ0 Fm B H σ ρ → PtG K ks σ0 Fm W vEq B σ Q (f ρ) → te σ H Q

inductive Av where
  | im (d : D) | sl (i : Nat)
def ArgIs (K : PySem.W.Frag) (σ : L2.St) (B _ : Hp) (_ : Env) (vs : List V) (as : List Av) : Prop :=
  Paired (fun v a => match a with | .im d => Is K B v d | .sl i => σ[i]? = some (some v)) vs as
def DA (K : PySem.W.Frag) (W : WX) (te : TA) (f : Env → R (List Av)) : Prop := ∀ ks σ0 Fm B H σ ρ Q, IV K ks σ0 Fm B H σ ρ → PtG K ks σ0 Fm W (ArgIs K σ) B σ Q (f ρ) → te σ H Q

section
variable {K : PySem.W.Frag} {ks : List Nat} {σ0 : L2.St} {Fm B B1 B' H H' : Hp} {σ : L2.St} {ρ : Env} {W : WX}
theorem PtG.mono {α β : Type} {vis : Hp → Hp → Env → β → α → Prop} {Q : β → Hp → Prop} {r : R α} (h : PtG K ks σ0 Fm W vis B σ Q r) (e : Same B B1) : PtG K ks σ0 Fm W vis B1 σ Q r := by
  cases r with
  | ok a ρ' => exact fun B' H' b s i v => h B' H' b (e.trans s) i v
  | exc C d ρ' => exact fun B' H' dx s i x => h B' H' dx (e.trans s) i x
  | bad => exact h
theorem PtG.step {α β γ δ : Type} {vis : Hp → Hp → Env → β → α → Prop} {vis2 : Hp → Hp → Env → δ → γ → Prop} {Q : δ → Hp → Prop} {Q1 : β → Hp → Prop} {r : R α} {k : α → Env → R γ} (h : PtG K ks σ0 Fm W vis2 B σ Q (r.bind k))
    (go : ∀ a ρ1 B1 H1 b, Same B B1 → IV K ks σ0 Fm B1 H1 σ ρ1 → vis B1 H1 ρ1 b a → PtG K ks σ0 Fm W vis2 B1 σ Q (k a ρ1) → Q1 b H1) : PtG K ks σ0 Fm W vis B σ Q1 r := by
  cases r with
  | ok a ρ1 => exact fun B1 H1 b s i v => go a ρ1 B1 H1 b s i v (PtG.mono h s)
  | exc C d ρ' => exact h
  | bad => exact h
/-- an object of one's own becomes one that stays -/
theorem freeze {v : V} {rv : Rv} (I : IV K ks σ0 Fm B H σ ρ) (h : vE K Fm σ B H ρ v rv) : ∃ B', Same B B' ∧ IV K ks σ0 Fm B' H σ ρ ∧ Is K B' v rv.d := by
  cases rv with
  | im d => exact ⟨B, Same.refl B, I, h⟩
  | own ds =>
    obtain ⟨a, xs, rfl, ha, hb, hf, hi, hn⟩ := h
    have s := same_upd (o := .lst xs) hb
    refine ⟨upd B a (.lst xs), s, ⟨fun b o e => ?_, I.fr, fun b o e => ?_, I.len, fun i d e => ?_, fun i es e => ?_, I.dj, I.pin⟩, .lst upd_same (hi.mono s)⟩
    · by_cases hb' : b = a
      · subst hb'
        rw [upd_same] at e
        cases e
        exact ha
      · rw [upd_ne hb'] at e
        exact I.ex b o e
    · have hne : b ≠ a := fun z => by
        subst z
        rw [hf] at e
        cases e
      rw [upd_ne hne]
      exact I.fb b o e
    · obtain ⟨v, h1, h2⟩ := I.im i d e
      exact ⟨v, h1, h2.mono s⟩
    · obtain ⟨b, ys, h1, h2, h3, h4, h5⟩ := I.own i es e
      have hne : b ≠ a := fun z => hn i es e (by rw [h1, z])
      exact ⟨b, ys, h1, h2, by rw [upd_ne hne]; exact h3, h4, h5.mono s⟩
theorem PtG.ok1 {α β : Type} {vis : Hp → Hp → Env → β → α → Prop} {Q : β → Hp → Prop} {a : α} (h : PtG K ks σ0 Fm W vis B σ Q (.ok a ρ)) {b : β} (I : IV K ks σ0 Fm B H σ ρ) (v : vis B H ρ b a) : Q b H := h B H b (Same.refl B) I v
/-- a new object that stays -/
theorem IV.laid {p : Addr} {o : HO} (I : IV K ks σ0 Fm B H σ ρ) (h : H p = none) : IV K ks σ0 Fm (upd B p o) (upd H p o) σ ρ := by
  have hB : B p = none := I.ex.free h
  have hF : Fm p = none := I.fr.free h
  have s := same_upd (o := o) hB
  refine ⟨fun b u e => ?_, fun b u e => ?_, fun b u e => ?_, I.len, fun i d e => ?_, fun i es e => ?_, I.dj, I.pin⟩
  · by_cases hb : b = p
    · subst hb
      rw [upd_same] at e ⊢
      exact e
    · rw [upd_ne hb] at e ⊢
      exact I.ex b u e
  · rw [upd_ne (ne_of_none e hF)]
    exact I.fr b u e
  · rw [upd_ne (ne_of_none e hF)]
    exact I.fb b u e
  · obtain ⟨v, h1, h2⟩ := I.im i d e
    exact ⟨v, h1, h2.mono s⟩
  · obtain ⟨b, ys, h1, h2, h3, h4, h5⟩ := I.own i es e
    have hne : b ≠ p := ne_of_none h2 h
    exact ⟨b, ys, h1, by rw [upd_ne hne]; exact h2, by rw [upd_ne hne]; exact h3, h4, h5.mono s⟩
/-- a new object of one's own -/
theorem IV.made {p : Addr} {o : HO} (I : IV K ks σ0 Fm B H σ ρ) (h : H p = none) : IV K ks σ0 Fm B (upd H p o) σ ρ := by
  have hB : B p = none := I.ex.free h
  have hF : Fm p = none := I.fr.free h
  refine ⟨fun b u e => ?_, fun b u e => ?_, I.fb, I.len, I.im, fun i es e => ?_, I.dj, I.pin⟩
  · rw [upd_ne (ne_of_none e hB)]
    exact I.ex b u e
  · rw [upd_ne (ne_of_none e hF)]
    exact I.fr b u e
  · obtain ⟨b, ys, h1, h2, h3, h4, h5⟩ := I.own i es e
    have hne : b ≠ p := ne_of_none h2 h
    exact ⟨b, ys, h1, by rw [upd_ne hne]; exact h2, h3, h4, h5⟩
theorem IV.madeV {p : Addr} {xs : List V} {ds : List D} (I : IV K ks σ0 Fm B H σ ρ) (h : H p = none) (k : IsA K B xs ds) : vE K Fm σ B (upd H p (.lst xs)) ρ (.ref p) (.own ds) :=
  ⟨p, xs, rfl, upd_same, I.ex.free h, I.fr.free h, k, fun i es e z => by
    obtain ⟨b, ys, h1, h2, _⟩ := I.own i es e
    rw [z] at h1
    cases h1
    rw [h] at h2
    cases h2⟩
/-- a slot takes a thing that stays -/
theorem IV.setIm {i : Nat} {v : V} {d : D} (I : IV K ks σ0 Fm B H σ ρ) (hi : i ∉ ks) (h : Is K B v d) : IV K ks σ0 Fm B H (σ.set i (some v)) (ρ.set i (.im d)) := by
  refine ⟨I.ex, I.fr, I.fb, by rw [List.length_set, List.length_set]; exact I.len, fun j e hj => ?_, fun j es hj => ?_, fun j k ds es a hjk h1 h2 h3 h4 => ?_, fun j hj => ?_⟩
  · by_cases hij : i = j
    · subst hij
      by_cases hl : i < ρ.length
      · rw [List.getElem?_set_self hl] at hj
        cases hj
        exact ⟨v, List.getElem?_set_self (by rw [I.len]; exact hl), h⟩
      · rw [List.getElem?_eq_none (by rw [List.length_set]; omega)] at hj
        cases hj
    · rw [List.getElem?_set_ne hij] at hj ⊢
      exact I.im j e hj
  · have hij : i ≠ j := fun z => by
      subst z
      by_cases hl : i < ρ.length
      · rw [List.getElem?_set_self hl] at hj
        cases hj
      · rw [List.getElem?_eq_none (by rw [List.length_set]; omega)] at hj
        cases hj
    rw [List.getElem?_set_ne hij] at hj ⊢
    exact I.own j es hj
  · have ne : ∀ {m : Nat} {zs : List D}, (ρ.set i (.im d))[m]? = some (.own zs) → i ≠ m := fun {m zs} hm z => by
      subst z
      by_cases hl : i < ρ.length
      · rw [List.getElem?_set_self hl] at hm
        cases hm
      · rw [List.getElem?_eq_none (by rw [List.length_set]; omega)] at hm
        cases hm
    have n1 := ne h1
    have n2 := ne h2
    rw [List.getElem?_set_ne n1] at h1 h3
    rw [List.getElem?_set_ne n2] at h2 h4
    exact I.dj j k ds es a hjk h1 h2 h3 h4
  · have hij : i ≠ j := fun z => hi (by rw [z]; exact hj)
    rw [List.getElem?_set_ne hij]
    exact I.pin j hj
theorem IV.setSl {i : Nat} {v : V} {rv : Rv} (I : IV K ks σ0 Fm B H σ ρ) (hi : i ∉ ks) (h : vE K Fm σ B H ρ v rv) : IV K ks σ0 Fm B H (σ.set i (some v)) (ρ.set i rv.sl) := by
  cases rv with
  | im d => exact I.setIm hi h
  | own ds =>
    obtain ⟨a, xs, rfl, ha, hb, hf, hk, hn⟩ := h
    refine ⟨I.ex, I.fr, I.fb, by rw [List.length_set, List.length_set]; exact I.len, fun j e hj => ?_, fun j es hj => ?_, fun j k es fs b hjk h1 h2 h3 h4 => ?_, fun j hj => ?_⟩
    · have hij : i ≠ j := fun z => by
        subst z
        by_cases hl : i < ρ.length
        · rw [List.getElem?_set_self hl] at hj
          cases hj
        · rw [List.getElem?_eq_none (by rw [List.length_set]; omega)] at hj
          cases hj
      rw [List.getElem?_set_ne hij] at hj ⊢
      exact I.im j e hj
    · by_cases hij : i = j
      · subst hij
        by_cases hl : i < ρ.length
        · rw [show (ρ.set i (Rv.own ds).sl)[i]? = some (.own ds) from List.getElem?_set_self hl] at hj
          cases hj
          exact ⟨a, xs, List.getElem?_set_self (by rw [I.len]; exact hl), ha, hb, hf, hk⟩
        · rw [List.getElem?_eq_none (by rw [List.length_set]; omega)] at hj
          cases hj
      · rw [List.getElem?_set_ne hij] at hj ⊢
        exact I.own j es hj
    · by_cases e1 : i = j
      · subst e1
        have e2 : i ≠ k := hjk
        rw [List.getElem?_set_ne e2] at h2 h4
        have hl : i < ρ.length := by
          have := (List.getElem?_eq_some_iff.mp h1).1
          rw [List.length_set] at this
          exact this
        rw [List.getElem?_set_self (by rw [I.len]; exact hl)] at h3
        cases h3
        exact hn k fs h2 h4
      · rw [List.getElem?_set_ne e1] at h1 h3
        by_cases e2 : i = k
        · subst e2
          have hl : i < ρ.length := by
            have := (List.getElem?_eq_some_iff.mp h2).1
            rw [List.length_set] at this
            exact this
          rw [List.getElem?_set_self (by rw [I.len]; exact hl)] at h4
          cases h4
          exact hn j es h1 h3
        · rw [List.getElem?_set_ne e2] at h2 h4
          exact I.dj j k es fs b hjk h1 h2 h3 h4
    · have hij : i ≠ j := fun z => hi (by rw [z]; exact hj)
      rw [List.getElem?_set_ne hij]
      exact I.pin j hj
end
end DL

/-! DL, part b: expressions. -/
namespace DL
open PySem PySem.Spec PyProof.Rows L2

theorem sz_of {n : Nat} (h : n ≤ 100000) : n ≤ sizeLine := Nat.le_trans h (by decide)
theorem sz_lt {n : Nat} (h : n < 100000) : n < sizeLine := Nat.lt_of_lt_of_le h (by decide)

/-! ### the data functions -/
def eC (d : D) : Env → R Rv := fun ρ => .ok (.im d) ρ
/-- a name as a value: what was one's own stays as it is from now on -/
def eVar (i : Nat) : Env → R Rv := fun ρ =>
  match ρ[i]? with
  | some (.im d) => .ok (.im d) ρ
  | some (.own ds) => .ok (.im (.lst ds)) (ρ.set i (.im (.lst ds)))
  | _ => .bad
/-- a name given away -/
def eMove (i : Nat) : Env → R Rv := fun ρ =>
  match ρ[i]? with
  | some (.im d) => .ok (.im d) ρ
  | some (.own ds) => .ok (.own ds) (ρ.set i .no)
  | _ => .bad
def eOp (op : D → D → Option Rv) (a b : Env → R Rv) : Env → R Rv := fun ρ => (a ρ).bind fun x ρ => (b ρ).bind fun y ρ => lift (op x.d y.d) ρ
def eUn (op : D → Option Rv) (a : Env → R Rv) : Env → R Rv := fun ρ => (a ρ).bind fun x ρ => lift (op x.d) ρ
def asB : D → Option Bool
  | .bl b => some b
  | _ => none
def tOf (a : Env → R Rv) : Env → R Bool := fun ρ => (a ρ).bind fun x ρ => lift (asB x.d) ρ
def tAndD (a b : Env → R Bool) : Env → R Bool := fun ρ => (a ρ).bind fun c ρ => cond c (b ρ) (.ok false ρ)
def tOrD (a b : Env → R Bool) : Env → R Bool := fun ρ => (a ρ).bind fun c ρ => cond c (.ok true ρ) (b ρ)
def tNotD (a : Env → R Bool) : Env → R Bool := fun ρ => (a ρ).bind fun c ρ => .ok (!c) ρ
def eAnd (a b : Env → R Rv) : Env → R Rv := fun ρ => (a ρ).bind fun x ρ => (lift (asB x.d) ρ).bind fun c ρ => cond c (b ρ) (.ok (.im (.bl false)) ρ)
def eOr (a b : Env → R Rv) : Env → R Rv := fun ρ => (a ρ).bind fun x ρ => (lift (asB x.d) ρ).bind fun c ρ => cond c (.ok (.im (.bl true)) ρ) (b ρ)
def eNot (a : Env → R Rv) : Env → R Rv := fun ρ => (a ρ).bind fun x ρ => (lift (asB x.d) ρ).bind fun c ρ => .ok (.im (.bl (!c))) ρ
def eIf (t : Env → R Bool) (a b : Env → R Rv) : Env → R Rv := fun ρ => (t ρ).bind fun c ρ => cond c (a ρ) (b ρ)
def eChain (op op' : D → D → Option Rv) (a b c : Env → R Rv) : Env → R Rv := fun ρ => (a ρ).bind fun x ρ => (b ρ).bind fun y ρ => (lift (op x.d y.d) ρ).bind fun z ρ => (lift (asB z.d) ρ).bind fun k ρ =>
  cond k ((c ρ).bind fun w ρ => lift (op' y.d w.d) ρ) (.ok (.im (.bl false)) ρ)
def aNil : Env → R (List Av) := fun ρ => .ok [] ρ
def aCons (a : Env → R Rv) (r : Env → R (List Av)) : Env → R (List Av) := fun ρ => (a ρ).bind fun x ρ => (r ρ).bind fun xs ρ => .ok (.im x.d :: xs) ρ
/-- a list of one's own handed in, to be changed -/
def aSlot (i : Nat) (r : Env → R (List Av)) : Env → R (List Av) := fun ρ =>
  match ρ[i]? with
  | some (.own _) => (r ρ).bind fun xs ρ => .ok (.sl i :: xs) ρ
  | _ => .bad
def ims : List Av → Option (List D)
  | [] => some []
  | .im d :: r => (ims r).map (d :: ·)
  | .sl _ :: _ => none
def eLst (a : Env → R (List Av)) : Env → R Rv := fun ρ => (a ρ).bind fun xs ρ => (lift (ims xs) ρ).bind fun ds ρ => cond (Nat.ble ds.length 100000) (.ok (.own ds) ρ) .bad
def eTup (a : Env → R (List Av)) : Env → R Rv := fun ρ => (a ρ).bind fun xs ρ => (lift (ims xs) ρ).bind fun ds ρ => cond (Nat.ble ds.length 100000) (.ok (.im (.tup ds)) ρ) .bad
/-- a built-in of values -/
def eCB (op : List D → Option Rv) (a : Env → R (List Av)) : Env → R Rv := fun ρ => (a ρ).bind fun xs ρ => (lift (ims xs) ρ).bind fun ds ρ => lift (op ds) ρ
def oNone : Env → R (Option Int) := fun ρ => .ok none ρ
def asI : D → Option Int
  | .int i => some i
  | _ => none
def oSome (a : Env → R Rv) : Env → R (Option Int) := fun ρ => (a ρ).bind fun x ρ => (lift (asI x.d) ρ).bind fun i ρ => .ok (some i) ρ
def cutD {α : Type} (xs : List α) (lo hi : Option Int) : List α := (xs.drop (HT.sIx xs.length 0 lo)).take (HT.sIx xs.length xs.length hi - HT.sIx xs.length 0 lo)
def slD (x : D) (lo hi : Option Int) : Option Rv :=
  match x with
  | .lst xs => some (.own (cutD xs lo hi))
  | _ => none
def eSl (a : Env → R Rv) (lo hi : Env → R (Option Int)) : Env → R Rv := fun ρ => (a ρ).bind fun x ρ => (lo ρ).bind fun l ρ => (hi ρ).bind fun u ρ => lift (slD x.d l u) ρ
/-- a slice, an item of a list of one's own, its length -/
def eSlO (i : Nat) (lo hi : Env → R (Option Int)) : Env → R Rv := fun ρ =>
  match ρ[i]? with
  | some (.own _) => (lo ρ).bind fun l ρ => (hi ρ).bind fun u ρ => match ρ[i]? with
    | some (.own ds) => .ok (.own (cutD ds l u)) ρ
    | _ => .bad
  | _ => .bad
def eIxO (i : Nat) (a : Env → R Rv) : Env → R Rv := fun ρ =>
  match ρ[i]? with
  | some (.own _) => (a ρ).bind fun x ρ => match ρ[i]?, x.d with
    | some (.own ds), .int k => match atI ds k with
      | some d => .ok (.im d) ρ
      | none => .bad
    | _, _ => .bad
  | _ => .bad
def eLenO (i : Nat) : Env → R Rv := fun ρ =>
  match ρ[i]? with
  | some (.own ds) => .ok (.im (.int ds.length)) ρ
  | _ => .bad

/-! ### operators of data -/
def ltB (i j : Int) : Bool := decide (i < j)
def leB (i j : Int) : Bool := decide (i ≤ j)
def eqB (i j : Int) : Bool := decide (i = j)
def opAdd : D → D → Option Rv
  | .int i, .int j => some (.im (.int (i + j)))
  | .lst xs, .lst ys => if xs.length + ys.length ≤ 100000 then some (.own (xs ++ ys)) else none
  | .str x, .str y => if x.length + y.length ≤ 100000 then some (.im (.str (x ++ y))) else none
  | _, _ => none
def opSub : D → D → Option Rv
  | .int i, .int j => some (.im (.int (i - j)))
  | _, _ => none
def opMul : D → D → Option Rv
  | .int i, .int j => if i.natAbs.log2 + j.natAbs.log2 < 1000000 then some (.im (.int (i * j))) else none
  | .lst xs, .int k => if k < 2 ^ 60 ∧ -(2 ^ 60) < k ∧ xs.length * k.toNat ≤ 100000 then some (.own (List.replicate k.toNat xs).flatten) else none
  | _, _ => none
def opDiv : D → D → Option Rv
  | .int i, .int j => if 0 < j ∧ j.natAbs.log2 < 9000 then some (.im (.int (i / j))) else none
  | _, _ => none
def opMod : D → D → Option Rv
  | .int i, .int j => if 0 < j then some (.im (.int (i % j))) else none
  | _, _ => none
def opPow : D → D → Option Rv
  | .int i, .int j => if 0 ≤ j ∧ (Builtin.Int.intBits i : Int) * j ≤ 2 ^ 27 then some (.im (.int (i ^ j.toNat))) else none
  | _, _ => none
def opNeg : D → Option Rv
  | .int i => some (.im (.int (-i)))
  | _ => none
def cLt : D → D → Option Rv
  | .int i, .int j => some (.im (.bl (ltB i j)))
  | _, _ => none
def cLe : D → D → Option Rv
  | .int i, .int j => some (.im (.bl (leB i j)))
  | _, _ => none
def cGt : D → D → Option Rv
  | .int i, .int j => some (.im (.bl (ltB j i)))
  | _, _ => none
def cGe : D → D → Option Rv
  | .int i, .int j => some (.im (.bl (leB j i)))
  | _, _ => none
mutual
def D.py : D → Option PyData
  | .non => some .none
  | .bl b => some (.bool b)
  | .int i => some (.int i)
  | .str x => some (.str x)
  | .lst xs => (pyA xs).map .list
  | .tup xs => (pyA xs).map .tuple
  | .dic _ => none
  | .scr _ => none
  | .ref _ => none
  | .ty _ => none
def pyA : List D → Option (List PyData)
  | [] => some []
  | x :: xs => (D.py x).bind fun a => (pyA xs).map (a :: ·)
end
def eqD (x y : D) : Option Bool :=
  match x.py, y.py with
  | some a, some b => if SeqAt.shaped a = true ∧ SeqAt.shaped b = true then some (PyData.eqv a b) else none
  | _, _ => none
def cEq (x y : D) : Option Rv := (eqD x y).map fun b => .im (.bl b)
def cNe (x y : D) : Option Rv := (eqD x y).map fun b => .im (.bl (!b))
def isNonD : D → Bool
  | .non => true
  | _ => false
def cIsN (x y : D) : Option Rv :=
  match y with
  | .non => some (.im (.bl (isNonD x)))
  | _ => none
def cIsNotN (x y : D) : Option Rv :=
  match y with
  | .non => some (.im (.bl (!isNonD x)))
  | _ => none
/-- x is True, x is not True: of truths -/
def cIsB : D → D → Option Rv
  | .bl a, .bl b => some (.im (.bl (decide (a = b))))
  | _, _ => none
def cIsNotB : D → D → Option Rv
  | .bl a, .bl b => some (.im (.bl (!decide (a = b))))
  | _, _ => none
def ixD : D → D → Option Rv
  | .lst xs, .int k => (atI xs k).map .im
  | .tup xs, .int k => (atI xs k).map .im
  | .scr ns, .int k => (atI ns k).map fun n => .im (.int n)
  | .str z, .int k => if z.length ≤ 100000 then (atI z.cps.toList k).map fun c => .im (.str ⟨#[c]⟩) else none
  | _, _ => none
def bLen : List D → Option Rv
  | [.lst xs] => some (.im (.int xs.length))
  | [.tup xs] => some (.im (.int xs.length))
  | [.scr ns] => some (.im (.int ns.length))
  | _ => none
def bMax2 : List D → Option Rv
  | [.int i, .int j] => some (.im (.int (if j > i then j else i)))
  | _ => none
def bMin2 : List D → Option Rv
  | [.int i, .int j] => some (.im (.int (if j < i then j else i)))
  | _ => none
def bList : List D → Option Rv
  | [.lst xs] => some (.own xs)
  | [.tup xs] => some (.own xs)
  | _ => none

/-! ### what they say -/
section
variable {K : PySem.W.Frag} {W : WX} {ta tb tc : TE} {fa fb fc : Env → R Rv} {t u : TT} {ft fu : Env → R Bool}
theorem DE.c {v : V} {d : D} (h : ∀ B, Is K B v d) : DE K W (tC v) (eC d) := fun _ _ _ B H σ ρ Q I p => p B H v (Same.refl B) I (h B)
theorem de_int {i : Int} : DE K W (tC (.int i)) (eC (.int i)) := DE.c fun _ => .int i
theorem de_bl {b : Bool} : DE K W (tC (.bl b)) (eC (.bl b)) := DE.c fun _ => .bl b
theorem de_non : DE K W (tC .non) (eC .non) := DE.c fun _ => .non
theorem de_ty {n : String} : DE K W (tC (.ty n)) (eC (.ty n)) := DE.c fun _ => .ty n
theorem de_str {x : Str} : DE K W (tC (.str x)) (eC (.str x)) := DE.c fun _ => .str x
theorem IV.hide {ks : List Nat} {σ0 : L2.St} {Fm B H : Hp} {σ : L2.St} {ρ : Env} (I : IV K ks σ0 Fm B H σ ρ) (i : Nat) : IV K ks σ0 Fm B H σ (ρ.set i .no) := by
  have sub : ∀ {j : Nat} {x : Sl}, x ≠ .no → (ρ.set i .no)[j]? = some x → ρ[j]? = some x := fun {j x} hx h => by
    by_cases e : i = j
    · subst e
      by_cases hl : i < ρ.length
      · rw [List.getElem?_set_self hl] at h
        exact absurd (Option.some.inj h).symm hx
      · rw [List.getElem?_eq_none (by rw [List.length_set]; omega)] at h
        cases h
    · rw [List.getElem?_set_ne e] at h
      exact h
  exact ⟨I.ex, I.fr, I.fb, by rw [List.length_set]; exact I.len, fun j d h => I.im j d (sub (by intro z; cases z) h), fun j d h => I.own j d (sub (by intro z; cases z) h),
    fun j k ds es a hjk h1 h2 h3 h4 => I.dj j k ds es a hjk (sub (by intro z; cases z) h1) (sub (by intro z; cases z) h2) h3 h4, I.pin⟩
/-- the object of a slot, as a thing that is one's own and stands in no slot -/
theorem IV.take {ks : List Nat} {σ0 : L2.St} {Fm B H : Hp} {σ : L2.St} {ρ : Env} (I : IV K ks σ0 Fm B H σ ρ) {i : Nat} {ds : List D} (e : ρ[i]? = some (.own ds)) : ∃ v, σ[i]? = some (some v) ∧ vE K Fm σ B H (ρ.set i .no) v (.own ds) := by
  obtain ⟨a, xs, h1, h2, h3, h4, h5⟩ := I.own i ds e
  refine ⟨.ref a, h1, a, xs, rfl, h2, h3, h4, h5, fun j es h z => ?_⟩
  have hl : i < ρ.length := (List.getElem?_eq_some_iff.mp e).1
  by_cases hij : i = j
  · subst hij
    rw [List.getElem?_set_self hl] at h
    cases h
  · rw [List.getElem?_set_ne hij] at h
    exact I.dj i j ds es a hij e h h1 z
theorem set_set_own {ρ : Env} {i : Nat} {x y : Sl} : (ρ.set i x).set i y = ρ.set i y := by rw [List.set_set]
theorem IV.seen {ks : List Nat} {σ0 : L2.St} {Fm B H : Hp} {σ : L2.St} {ρ : Env} (I : IV K ks σ0 Fm B H σ ρ) {i : Nat} {v : V} {d : D} (h1 : σ[i]? = some (some v)) (h : Is K B v d) : IV K ks σ0 Fm B H σ (ρ.set i (.im d)) := by
  have hl : i < σ.length := (List.getElem?_eq_some_iff.mp h1).1
  have sub : ∀ {j : Nat} {ds : List D}, (ρ.set i (.im d))[j]? = some (.own ds) → ρ[j]? = some (.own ds) := fun {j x} h => by
    by_cases e : i = j
    · subst e
      rw [List.getElem?_set_self (by rw [← I.len]; exact hl)] at h
      cases h
    · rw [List.getElem?_set_ne e] at h
      exact h
  refine ⟨I.ex, I.fr, I.fb, by rw [List.length_set]; exact I.len, fun j e hj => ?_, fun j ds hj => I.own j ds (sub hj), fun j k ds es a hjk h1 h2 h3 h4 => I.dj j k ds es a hjk (sub h1) (sub h2) h3 h4, I.pin⟩
  by_cases hij : i = j
  · subst hij
    rw [List.getElem?_set_self (by rw [← I.len]; exact hl)] at hj
    cases hj
    exact ⟨v, h1, h⟩
  · rw [List.getElem?_set_ne hij] at hj
    exact I.im j e hj
theorem de_var {i : Nat} : DE K W (tVar i) (eVar i) := fun ks σ0 Fm B H σ ρ Q I p => by
  unfold eVar at p
  cases e : ρ[i]? with
  | none => rw [e] at p; exact p.elim
  | some x =>
    rw [e] at p
    cases x with
    | no => exact p.elim
    | im d =>
      obtain ⟨v, h1, h2⟩ := I.im i d e
      exact ⟨v, h1, p B H v (Same.refl B) I h2⟩
    | own ds =>
      obtain ⟨v, h1, h2⟩ := I.take e
      obtain ⟨B', s, I', h3⟩ := freeze (I.hide i) h2
      refine ⟨v, h1, p B' H v s ?_ h3⟩
      have I2 := I'.seen h1 h3
      rw [set_set_own] at I2
      exact I2
theorem de_move {i : Nat} : DE K W (tVar i) (eMove i) := fun ks σ0 Fm B H σ ρ Q I p => by
  unfold eMove at p
  cases e : ρ[i]? with
  | none => rw [e] at p; exact p.elim
  | some x =>
    rw [e] at p
    cases x with
    | no => exact p.elim
    | im d =>
      obtain ⟨v, h1, h2⟩ := I.im i d e
      exact ⟨v, h1, p B H v (Same.refl B) I h2⟩
    | own ds =>
      obtain ⟨v, h1, h2⟩ := I.take e
      exact ⟨v, h1, p B H v (Same.refl B) (I.hide i) h2⟩

/-- an operation on values that stay -/
def OpD (K : PySem.W.Frag) (r : R2) (op : D → D → Option Rv) : Prop := ∀ ks σ0 Fm B H σ ρ x y dx dy rv (Q : VK), IV K ks σ0 Fm B H σ ρ → Is K B x dx → Is K B y dy → op dx dy = some rv →
  (∀ B' H' v, Same B B' → IV K ks σ0 Fm B' H' σ ρ → vE K Fm σ B' H' ρ v rv → Q v H') → r x y H Q
def UnD (K : PySem.W.Frag) (r : V → Hp → VK → Prop) (op : D → Option Rv) : Prop := ∀ ks σ0 Fm B H σ ρ x dx rv (Q : VK), IV K ks σ0 Fm B H σ ρ → Is K B x dx → op dx = some rv →
  (∀ B' H' v, Same B B' → IV K ks σ0 Fm B' H' σ ρ → vE K Fm σ B' H' ρ v rv → Q v H') → r x H Q
def CbD (K : PySem.W.Frag) (r : List V → Hp → VK → Prop) (op : List D → Option Rv) : Prop := ∀ ks σ0 Fm B H σ ρ xs ds rv (Q : VK), IV K ks σ0 Fm B H σ ρ → IsA K B xs ds → op ds = some rv →
  (∀ B' H' v, Same B B' → IV K ks σ0 Fm B' H' σ ρ → vE K Fm σ B' H' ρ v rv → Q v H') → r xs H Q
theorem de_op {r : R2} {op : D → D → Option Rv} (ho : OpD K r op) (ha : DE K W ta fa) (hb : DE K W tb fb) : DE K W (tOp r ta tb) (eOp op fa fb) := fun ks σ0 Fm B H σ ρ Q I p =>
  ha ks σ0 Fm B H σ ρ _ I (PtG.step p fun x ρ1 B1 H1 v s1 I1 v1 p1 => by
    obtain ⟨B2, s2, I2, i2⟩ := freeze I1 v1
    refine hb ks σ0 Fm B2 H1 σ ρ1 _ I2 (PtG.step (p1.mono s2) fun y ρ3 B3 H3 w s3 I3 v3 p3 => ?_)
    obtain ⟨B4, s4, I4, i4⟩ := freeze I3 v3
    cases e : op x.d y.d with
    | none => rw [e] at p3; exact p3.elim
    | some rv =>
      rw [e] at p3
      exact ho ks σ0 Fm B4 H3 σ ρ3 v w x.d y.d rv Q I4 (i2.mono (s3.trans s4)) i4 e fun B' H' z s i k => p3 B' H' z (s4.trans s) i k)
theorem de_un {r : V → Hp → VK → Prop} {op : D → Option Rv} (ho : UnD K r op) (ha : DE K W ta fa) : DE K W (tUn r ta) (eUn op fa) := fun ks σ0 Fm B H σ ρ Q I p =>
  ha ks σ0 Fm B H σ ρ _ I (PtG.step p fun x ρ1 B1 H1 v s1 I1 v1 p1 => by
    obtain ⟨B2, s2, I2, i2⟩ := freeze I1 v1
    cases e : op x.d with
    | none => rw [e] at p1; exact p1.elim
    | some rv =>
      rw [e] at p1
      exact ho ks σ0 Fm B2 H1 σ ρ1 v x.d rv Q I2 i2 e fun B' H' z s i k => p1 B' H' z (s2.trans s) i k)
/-- a truth -/
theorem bl_of {B H Fm : Hp} {σ : L2.St} {ρ : Env} {v : V} {x : Rv} {b : Bool} (h : vE K Fm σ B H ρ v x) (e : asB x.d = some b) : v = .bl b := by
  cases x with
  | im d =>
    cases d with
    | bl c =>
      cases e
      exact Is.blV h
    | _ => cases e
  | own ds => cases e
theorem dt_of {te : TE} (ha : DE K W te fa) : DT K W (fun σ H Q => te σ H fun x H1 => ∃ c, x = .bl c ∧ Q c H1) (tOf fa) := fun ks σ0 Fm B H σ ρ Q I p =>
  ha ks σ0 Fm B H σ ρ _ I (PtG.step p fun x ρ1 B1 H1 v s1 I1 v1 p1 => by
    cases e : asB x.d with
    | none => rw [e] at p1; exact p1.elim
    | some b =>
      rw [e] at p1
      exact ⟨b, bl_of v1 e, p1 B1 H1 b (Same.refl B1) I1 rfl⟩)
theorem dt_B (ha : DE K W ta fa) : DT K W (tB ta) (tOf fa) := dt_of ha
theorem dt_test (ha : DE K W ta fa) : DT K W (tTest ta) (tOf fa) := dt_of ha
theorem dt_and (ha : DT K W t ft) (hb : DT K W u fu) : DT K W (tAnd t u) (tAndD ft fu) := fun ks σ0 Fm B H σ ρ Q I p =>
  ha ks σ0 Fm B H σ ρ _ I (PtG.step p fun x ρ1 B1 H1 v s1 I1 v1 p1 => by
    cases (show v = x from v1)
    cases x with
    | true => exact hb ks σ0 Fm B1 H1 σ ρ1 Q I1 p1
    | false => exact p1 B1 H1 false (Same.refl B1) I1 rfl)
theorem dt_or (ha : DT K W t ft) (hb : DT K W u fu) : DT K W (tOr t u) (tOrD ft fu) := fun ks σ0 Fm B H σ ρ Q I p =>
  ha ks σ0 Fm B H σ ρ _ I (PtG.step p fun x ρ1 B1 H1 v s1 I1 v1 p1 => by
    cases (show v = x from v1)
    cases x with
    | true => exact p1 B1 H1 true (Same.refl B1) I1 rfl
    | false => exact hb ks σ0 Fm B1 H1 σ ρ1 Q I1 p1)
theorem dt_not (ha : DT K W t ft) : DT K W (tNot t) (tNotD ft) := fun ks σ0 Fm B H σ ρ Q I p =>
  ha ks σ0 Fm B H σ ρ _ I (PtG.step p fun x ρ1 B1 H1 v s1 I1 v1 p1 => by
    cases (show v = x from v1)
    exact p1 B1 H1 _ (Same.refl B1) I1 rfl)
theorem de_and (ha : DE K W ta fa) (hb : DE K W tb fb) : DE K W (tAndV ta tb) (eAnd fa fb) := fun ks σ0 Fm B H σ ρ Q I p =>
  ha ks σ0 Fm B H σ ρ _ I (PtG.step p fun x ρ1 B1 H1 v s1 I1 v1 p1 => by
    cases e : asB x.d with
    | none => rw [e] at p1; exact p1.elim
    | some b =>
      rw [e] at p1
      refine ⟨b, bl_of v1 e, ?_⟩
      cases b with
      | true => exact hb ks σ0 Fm B1 H1 σ ρ1 Q I1 p1
      | false => exact p1 B1 H1 _ (Same.refl B1) I1 (Is.bl false))
theorem de_or (ha : DE K W ta fa) (hb : DE K W tb fb) : DE K W (tOrV ta tb) (eOr fa fb) := fun ks σ0 Fm B H σ ρ Q I p =>
  ha ks σ0 Fm B H σ ρ _ I (PtG.step p fun x ρ1 B1 H1 v s1 I1 v1 p1 => by
    cases e : asB x.d with
    | none => rw [e] at p1; exact p1.elim
    | some b =>
      rw [e] at p1
      refine ⟨b, bl_of v1 e, ?_⟩
      cases b with
      | true => exact p1 B1 H1 _ (Same.refl B1) I1 (Is.bl true)
      | false => exact hb ks σ0 Fm B1 H1 σ ρ1 Q I1 p1)
theorem de_not (ha : DE K W ta fa) : DE K W (tNotV ta) (eNot fa) := fun ks σ0 Fm B H σ ρ Q I p =>
  ha ks σ0 Fm B H σ ρ _ I (PtG.step p fun x ρ1 B1 H1 v s1 I1 v1 p1 => by
    cases e : asB x.d with
    | none => rw [e] at p1; exact p1.elim
    | some b =>
      rw [e] at p1
      exact ⟨b, bl_of v1 e, p1 B1 H1 _ (Same.refl B1) I1 (Is.bl _)⟩)
theorem de_if (ht : DT K W t ft) (ha : DE K W ta fa) (hb : DE K W tb fb) : DE K W (tIf t ta tb) (eIf ft fa fb) := fun ks σ0 Fm B H σ ρ Q I p =>
  ht ks σ0 Fm B H σ ρ _ I (PtG.step p fun x ρ1 B1 H1 v s1 I1 v1 p1 => by
    cases (show v = x from v1)
    cases x with
    | true => exact ha ks σ0 Fm B1 H1 σ ρ1 Q I1 p1
    | false => exact hb ks σ0 Fm B1 H1 σ ρ1 Q I1 p1)
theorem de_chain {r r' : R2} {op op' : D → D → Option Rv} (ho : OpD K r op) (ho' : OpD K r' op') (ha : DE K W ta fa) (hb : DE K W tb fb) (hc : DE K W tc fc) : DE K W (tChain r r' ta tb tc) (eChain op op' fa fb fc) := fun ks σ0 Fm B H σ ρ Q I p =>
  ha ks σ0 Fm B H σ ρ _ I (PtG.step p fun x ρ1 B1 H1 v s1 I1 v1 p1 => by
    obtain ⟨B2, s2, I2, i2⟩ := freeze I1 v1
    refine hb ks σ0 Fm B2 H1 σ ρ1 _ I2 (PtG.step (p1.mono s2) fun y ρ3 B3 H3 w s3 I3 v3 p3 => ?_)
    obtain ⟨B4, s4, I4, i4⟩ := freeze I3 v3
    cases e : op x.d y.d with
    | none => rw [e] at p3; exact p3.elim
    | some rv =>
      rw [e] at p3
      refine ho ks σ0 Fm B4 H3 σ ρ3 v w x.d y.d rv _ I4 (i2.mono (s3.trans s4)) i4 e fun B5 H5 z s5 I5 k5 => ?_
      have p4 : PtG K ks σ0 Fm W (vE K Fm σ) B5 σ Q ((lift (asB rv.d) ρ3).bind fun k ρ => cond k ((fc ρ).bind fun w ρ => lift (op' y.d w.d) ρ) (.ok (.im (.bl false)) ρ)) := PtG.mono p3 (s4.trans s5)
      cases e5 : asB rv.d with
      | none => rw [e5] at p4; exact p4.elim
      | some b =>
        rw [e5] at p4
        refine ⟨b, bl_of k5 e5, ?_⟩
        cases b with
        | true =>
          refine hc ks σ0 Fm B5 H5 σ ρ3 _ I5 (PtG.step p4 fun z1 ρ6 B6 H6 w6 s6 I6 v6 p6 => ?_)
          obtain ⟨B7, s7, I7, i7⟩ := freeze I6 v6
          cases e7 : op' y.d z1.d with
          | none => rw [e7] at p6; exact p6.elim
          | some rv7 =>
            rw [e7] at p6
            exact ho' ks σ0 Fm B7 H6 σ ρ6 w w6 y.d z1.d rv7 Q I7 (i4.mono ((s5.trans s6).trans s7)) i7 e7 fun B' H' z s i k => p6 B' H' z (s7.trans s) i k
        | false => exact p4 B5 H5 _ (Same.refl B5) I5 (Is.bl false))
variable {tr : TA} {fr : Env → R (List Av)}
theorem da_nil : DA K W tNil aNil := fun ks σ0 Fm B H σ ρ Q I p => p B H [] (Same.refl B) I Paired.nil
theorem argIs_mono {σ : L2.St} {B B' H H' : Hp} {ρ ρ' : Env} (e : Same B B') : ∀ {vs : List V} {as : List Av}, ArgIs K σ B H ρ vs as → ArgIs K σ B' H' ρ' vs as
  | _, _, .nil => .nil
  | _, _, .cons (b := a) h t => .cons (match a, h with | .im d, h => Is.mono e h | .sl i, h => h) (argIs_mono (H := H) (H' := H') (ρ := ρ) (ρ' := ρ') e t)
theorem da_cons (ha : DE K W ta fa) (hr : DA K W tr fr) : DA K W (tCons ta tr) (aCons fa fr) := fun ks σ0 Fm B H σ ρ Q I p =>
  ha ks σ0 Fm B H σ ρ _ I (PtG.step p fun x ρ1 B1 H1 v s1 I1 v1 p1 => by
    obtain ⟨B2, s2, I2, i2⟩ := freeze I1 v1
    refine hr ks σ0 Fm B2 H1 σ ρ1 _ I2 (PtG.step (p1.mono s2) fun xs ρ3 B3 H3 vs s3 I3 v3 p3 => ?_)
    exact p3 B3 H3 _ (Same.refl B3) I3 (.cons (i2.mono s3) v3))
theorem da_slot {i : Nat} (hr : DA K W tr fr) : DA K W (tCons (tVar i) tr) (aSlot i fr) := fun ks σ0 Fm B H σ ρ Q I p => by
  unfold aSlot at p
  cases e : ρ[i]? with
  | none => rw [e] at p; exact p.elim
  | some x =>
    rw [e] at p
    cases x with
    | no => exact p.elim
    | im d => exact p.elim
    | own ds =>
      obtain ⟨a, xs, h1, _⟩ := I.own i ds e
      refine ⟨.ref a, h1, hr ks σ0 Fm B H σ ρ _ I (PtG.step p fun xs ρ3 B3 H3 vs s3 I3 v3 p3 => ?_)⟩
      exact p3 B3 H3 _ (Same.refl B3) I3 (.cons h1 v3)
theorem ims_is {σ : L2.St} {B H : Hp} {ρ : Env} : ∀ {as : List Av} {vs : List V} {ds : List D}, ArgIs K σ B H ρ vs as → ims as = some ds → IsA K B vs ds
  | [], _, _, .nil, e => by
    cases e
    exact .nil
  | .im d :: r, _, ds, .cons h t, e => by
    cases q : ims r with
    | none =>
      rw [show ims (.im d :: r) = (ims r).map (d :: ·) from rfl, q] at e
      cases e
    | some es =>
      rw [show ims (.im d :: r) = (ims r).map (d :: ·) from rfl, q] at e
      cases e
      exact .cons h (ims_is (H := H) (ρ := ρ) t q)
  | .sl i :: r, _, _, _, e => by cases e
theorem de_lst (ha : DA K W tr fr) : DE K W (tLst tr) (eLst fr) := fun ks σ0 Fm B H σ ρ Q I p =>
  ha ks σ0 Fm B H σ ρ _ I (PtG.step p fun as ρ1 B1 H1 vs s1 I1 v1 p1 => by
    cases e : ims as with
    | none => rw [e] at p1; exact p1.elim
    | some ds =>
      rw [e] at p1
      have p2 : PtG K ks σ0 Fm W (vE K Fm σ) B1 σ Q (cond (Nat.ble ds.length 100000) (.ok (.own ds) ρ1) .bad) := p1
      have k := ims_is v1 e
      cases hb : Nat.ble ds.length 100000 with
      | true =>
        rw [hb] at p2
        exact ⟨by rw [k.len]; exact sz_of (Nat.le_of_ble_eq_true hb), fun q hq => p2 B1 _ _ (Same.refl B1) (I1.made hq) (I1.madeV hq k)⟩
      | false =>
        rw [hb] at p2
        exact p2.elim)
theorem de_tup (ha : DA K W tr fr) : DE K W (tTup tr) (eTup fr) := fun ks σ0 Fm B H σ ρ Q I p =>
  ha ks σ0 Fm B H σ ρ _ I (PtG.step p fun as ρ1 B1 H1 vs s1 I1 v1 p1 => by
    cases e : ims as with
    | none => rw [e] at p1; exact p1.elim
    | some ds =>
      rw [e] at p1
      have p2 : PtG K ks σ0 Fm W (vE K Fm σ) B1 σ Q (cond (Nat.ble ds.length 100000) (.ok (.im (.tup ds)) ρ1) .bad) := p1
      have k := ims_is v1 e
      cases hb : Nat.ble ds.length 100000 with
      | true =>
        rw [hb] at p2
        refine ⟨by rw [k.len]; exact sz_of (Nat.le_of_ble_eq_true hb), fun q hq => ?_⟩
        have s := same_upd (o := .tup vs) (I1.ex.free hq)
        exact p2 _ _ _ s (I1.laid hq) (.tup upd_same (k.mono s))
      | false =>
        rw [hb] at p2
        exact p2.elim)
theorem de_cb {r : List V → Hp → VK → Prop} {op : List D → Option Rv} (ho : CbD K r op) (ha : DA K W tr fr) : DE K W (tCB r tr) (eCB op fr) := fun ks σ0 Fm B H σ ρ Q I p =>
  ha ks σ0 Fm B H σ ρ _ I (PtG.step p fun as ρ1 B1 H1 vs s1 I1 v1 p1 => by
    cases e : ims as with
    | none => rw [e] at p1; exact p1.elim
    | some ds =>
      rw [e] at p1
      have p2 : PtG K ks σ0 Fm W (vE K Fm σ) B1 σ Q (lift (op ds) ρ1) := p1
      cases e2 : op ds with
      | none => rw [e2] at p2; exact p2.elim
      | some rv =>
        rw [e2] at p2
        exact ho ks σ0 Fm B1 H1 σ ρ1 vs ds rv Q I1 (ims_is v1 e) e2 fun B' H' z s i k => p2 B' H' z s i k)
theorem do_none : DO K W tNoPart oNone := fun ks σ0 Fm B H σ ρ Q I p => p B H none (Same.refl B) I rfl
theorem int_of {B H Fm : Hp} {σ : L2.St} {ρ : Env} {v : V} {x : Rv} {b : Int} (h : vE K Fm σ B H ρ v x) (e : asI x.d = some b) : v = .int b := by
  cases x with
  | im d =>
    cases d with
    | int c =>
      cases e
      exact Is.intV h
    | _ => cases e
  | own ds => cases e
theorem do_some (ha : DE K W ta fa) : DO K W (tPart ta) (oSome fa) := fun ks σ0 Fm B H σ ρ Q I p =>
  ha ks σ0 Fm B H σ ρ _ I (PtG.step p fun x ρ1 B1 H1 v s1 I1 v1 p1 => by
    cases e : asI x.d with
    | none => rw [e] at p1; exact p1.elim
    | some b =>
      rw [e] at p1
      exact ⟨b, int_of v1 e, p1 B1 H1 _ (Same.refl B1) I1 rfl⟩)
theorem cut_is {B : Hp} {xs : List V} {ds : List D} (h : IsA K B xs ds) (lo hi : Option Int) : IsA K B (cutV xs lo hi) (cutD ds lo hi) := by
  unfold cutV cutD
  rw [h.len]
  exact (h.drop _).take _
variable {tl th : TO} {fl fh : Env → R (Option Int)}
theorem de_sl (ha : DE K W ta fa) (hl : DO K W tl fl) (hh : DO K W th fh) : DE K W (L2.tSl (rSlL K) ta tl th) (eSl fa fl fh) := fun ks σ0 Fm B H σ ρ Q I p =>
  ha ks σ0 Fm B H σ ρ _ I (PtG.step p fun x ρ1 B1 H1 v s1 I1 v1 p1 => by
    obtain ⟨B2, s2, I2, i2⟩ := freeze I1 v1
    refine hl ks σ0 Fm B2 H1 σ ρ1 _ I2 (PtG.step (p1.mono s2) fun y ρ3 B3 H3 w s3 I3 v3 p3 => ?_)
    refine hh ks σ0 Fm B3 H3 σ ρ3 _ I3 (PtG.step p3 fun z ρ4 B4 H4 w4 s4 I4 v4 p4 => ?_)
    cases (show w = y from v3)
    cases (show w4 = z from v4)
    have i4 := i2.mono (s3.trans s4)
    cases e : x.d with
    | lst ds =>
      rw [e] at p4 i4
      obtain ⟨a, xs, rfl, ha, k⟩ := i4.lstV
      exact ⟨a, xs, rfl, .inl (.inl (I4.ex _ _ ha)), fun q hq => p4 B4 _ _ (Same.refl B4) (I4.made hq) (I4.madeV hq (cut_is k _ _))⟩
    | _ => rw [e] at p4; exact p4.elim)
theorem de_slO {i : Nat} (hl : DO K W tl fl) (hh : DO K W th fh) : DE K W (L2.tSl (rSlL K) (tVar i) tl th) (eSlO i fl fh) := fun ks σ0 Fm B H σ ρ Q I p => by
  unfold eSlO at p
  cases e : ρ[i]? with
  | none => rw [e] at p; exact p.elim
  | some x =>
    rw [e] at p
    cases x with
    | no => exact p.elim
    | im d => exact p.elim
    | own ds =>
      obtain ⟨a, xs, h1, _⟩ := I.own i ds e
      refine ⟨.ref a, h1, hl ks σ0 Fm B H σ ρ _ I (PtG.step p fun y ρ3 B3 H3 w s3 I3 v3 p3 => ?_)⟩
      refine hh ks σ0 Fm B3 H3 σ ρ3 _ I3 (PtG.step p3 fun z ρ4 B4 H4 w4 s4 I4 v4 p4 => ?_)
      cases (show w = y from v3)
      cases (show w4 = z from v4)
      cases e4 : ρ4[i]? with
      | none => rw [e4] at p4; exact p4.elim
      | some x4 =>
        rw [e4] at p4
        cases x4 with
        | no => exact p4.elim
        | im d => exact p4.elim
        | own es =>
          obtain ⟨b, ys, g1, g2, g3, g4, g5⟩ := I4.own i es e4
          rw [h1] at g1
          cases g1
          exact ⟨a, ys, rfl, .inl (.inl g2), fun q hq => p4 B4 _ _ (Same.refl B4) (I4.made hq) (I4.madeV hq (cut_is g5 _ _))⟩
theorem atI_is {B : Hp} {xs : List V} {ds : List D} {k : Int} {d : D} (h : IsA K B xs ds) (e : atI ds k = some d) : ∃ v, atI xs k = some v ∧ Is K B v d := by
  unfold atI at e ⊢
  rw [h.len]
  cases q : ixN ds.length k with
  | none => rw [q] at e; cases e
  | some j =>
    rw [q] at e
    exact h.get e
theorem de_ixO {i : Nat} (hb : DE K W tb fb) : DE K W (tOp (rIx K) (tVar i) tb) (eIxO i fb) := fun ks σ0 Fm B H σ ρ Q I p => by
  unfold eIxO at p
  cases e : ρ[i]? with
  | none => rw [e] at p; exact p.elim
  | some x =>
    rw [e] at p
    cases x with
    | no => exact p.elim
    | im d => exact p.elim
    | own ds =>
      obtain ⟨a, xs, h1, _⟩ := I.own i ds e
      refine ⟨.ref a, h1, hb ks σ0 Fm B H σ ρ _ I (PtG.step p fun y ρ3 B3 H3 w s3 I3 v3 p3 => ?_)⟩
      cases e4 : ρ3[i]? with
      | none => rw [e4] at p3; exact p3.elim
      | some x4 =>
        rw [e4] at p3
        cases x4 with
        | no => exact p3.elim
        | im d => exact p3.elim
        | own es =>
          obtain ⟨b, ys, g1, g2, g3, g4, g5⟩ := I3.own i es e4
          rw [h1] at g1
          cases g1
          cases e5 : y.d with
          | int k =>
            rw [e5] at p3
            dsimp only at p3
            cases e6 : atI es k with
            | none => rw [e6] at p3; exact p3.elim
            | some d =>
              rw [e6] at p3
              obtain ⟨v, hv, iv⟩ := atI_is g5 e6
              have ew : w = .int k := int_of v3 (by rw [e5]; rfl)
              exact .inl ⟨a, ys, k, v, rfl, ew, .inl (.inl g2), hv, p3 B3 H3 v (Same.refl B3) I3 iv⟩
          | _ => rw [e5] at p3; exact p3.elim
theorem de_lenO {i : Nat} : DE K W (tCB (fun xs H Q => ∃ p ys, xs = [.ref p] ∧ (SqL K H p ys ∨ SqT K H p ys) ∧ Q (.int ys.length) H) (tCons (tVar i) tNil)) (eLenO i) := fun ks σ0 Fm B H σ ρ Q I p => by
  unfold eLenO at p
  cases e : ρ[i]? with
  | none => rw [e] at p; exact p.elim
  | some x =>
    rw [e] at p
    cases x with
    | no => exact p.elim
    | im d => exact p.elim
    | own ds =>
      obtain ⟨a, xs, h1, h2, h3, h4, h5⟩ := I.own i ds e
      refine ⟨.ref a, h1, a, xs, rfl, .inl (.inl (.inl h2)), p B H _ (Same.refl B) I ?_⟩
      rw [h5.len]
      exact Is.int _
end
end DL

/-! DL, part c: the operators and built-ins. -/
namespace DL
open PySem PySem.Spec PyProof.Rows L2

section
variable {X : Cx}
def rAddD : R2 := fun x y H Q => rI0 (fun i j => .int (i + j)) x y H Q ∨ (rCat x y H Q ∨ ∃ i j, x = .str i ∧ y = .str j ∧ i.length + j.length ≤ sizeLine ∧ Q (.str (i ++ j)) H)
theorem op_addD : OpR X (binaryOp .Add) rAddD := OpR.or op_add (OpR.or op_cat op_add_str)
def rMulD : R2 := fun x y H Q => rI CMulW (fun i j => .int (i * j)) x y H Q ∨ rRep x y H Q
theorem op_mulD : OpR X (binaryOp .Mult) rMulD := OpR.or op_mulW op_rep
def CPowW (i j : Int) : Prop := 0 ≤ j ∧ (Builtin.Int.intBits i : Int) * j ≤ 2 ^ 27
theorem op_powW : OpR X (binaryOp .Pow) (rI CPowW fun i j => .int (i ^ j.toNat)) := opI fun _ _ _ _ _ _ _ hc q => pow_int hc.1 hc.2 q
def rIsBD : R2 := fun x y H Q => ∃ a b, x = .bl a ∧ y = .bl b ∧ Q (.bl (decide (a = b))) H
def rIsNotBD : R2 := fun x y H Q => ∃ a b, x = .bl a ∧ y = .bl b ∧ Q (.bl (!decide (a = b))) H
def rIsND : R2 := fun x y H Q => y = .non ∧ Q (.bl (decide (x = .non))) H
def rIsNotND : R2 := fun x y H Q => y = .non ∧ Q (.bl (!decide (x = .non))) H
theorem op_isND : OpR X (compareOp .Is) rIsND := op_isN
theorem op_isNotND : OpR X (compareOp .IsNot) rIsNotND := op_notN
end

section
variable {K : PySem.W.Frag}
theorem od_I {C : Int → Int → Prop} {g : Int → Int → V} {op : D → D → Option Rv} (h : ∀ dx dy rv, op dx dy = some rv → ∃ i j d, dx = .int i ∧ dy = .int j ∧ C i j ∧ rv = .im d ∧ ∀ B, Is K B (g i j) d) : OpD K (rI C g) op := by
  intro ks σ0 Fm B H σ ρ x y dx dy rv Q I hx hy e q
  obtain ⟨i, j, d, rfl, rfl, c, rfl, k⟩ := h dx dy rv e
  exact ⟨i, j, hx.intV, hy.intV, c, q B H _ (Same.refl B) I (k B)⟩
theorem od_I0 {g : Int → Int → V} {op : D → D → Option Rv} (h : ∀ dx dy rv, op dx dy = some rv → ∃ i j d, dx = .int i ∧ dy = .int j ∧ rv = .im d ∧ ∀ B, Is K B (g i j) d) : OpD K (rI0 g) op := by
  intro ks σ0 Fm B H σ ρ x y dx dy rv Q I hx hy e q
  obtain ⟨i, j, d, rfl, rfl, rfl, k⟩ := h dx dy rv e
  exact ⟨i, j, hx.intV, hy.intV, q B H _ (Same.refl B) I (k B)⟩
theorem od_add : OpD K rAddD opAdd := by
  intro ks σ0 Fm B H σ ρ x y dx dy rv Q I hx hy e q
  unfold opAdd at e
  split at e
  · rename_i i j
    cases e
    exact .inl ⟨i, j, hx.intV, hy.intV, q B H _ (Same.refl B) I (.int _)⟩
  · rename_i ds es
    by_cases hl : ds.length + es.length ≤ 100000
    · rw [if_pos hl] at e
      cases e
      obtain ⟨a, xs, rfl, ha, k⟩ := hx.lstV
      obtain ⟨b, ys, rfl, hb, k2⟩ := hy.lstV
      exact .inr (.inl ⟨a, b, xs, ys, rfl, rfl, I.ex _ _ ha, I.ex _ _ hb, by rw [k.len, k2.len]; exact sz_of hl, fun p hp => q B _ _ (Same.refl B) (I.made hp) (I.madeV hp (k.app k2))⟩)
    · rw [if_neg hl] at e
      cases e
  · rename_i s t
    by_cases hl : s.length + t.length ≤ 100000
    · rw [if_pos hl] at e
      cases e
      exact .inr (.inr ⟨s, t, hx.strV, hy.strV, sz_of hl, q B H _ (Same.refl B) I (.str _)⟩)
    · rw [if_neg hl] at e
      cases e
  · cases e
theorem od_sub : OpD K (rI0 fun i j => .int (i - j)) opSub := od_I0 fun dx dy rv e => by
  unfold opSub at e
  split at e
  · cases e
    exact ⟨_, _, _, rfl, rfl, rfl, fun B => .int _⟩
  · cases e
theorem od_mul : OpD K rMulD opMul := by
  intro ks σ0 Fm B H σ ρ x y dx dy rv Q I hx hy e q
  unfold opMul at e
  split at e
  · rename_i i j
    by_cases hl : i.natAbs.log2 + j.natAbs.log2 < 1000000
    · rw [if_pos hl] at e
      cases e
      exact .inl ⟨i, j, hx.intV, hy.intV, hl, q B H _ (Same.refl B) I (.int _)⟩
    · rw [if_neg hl] at e
      cases e
  · rename_i ds k
    by_cases hl : k < 2 ^ 60 ∧ -(2 ^ 60) < k ∧ ds.length * k.toNat ≤ 100000
    · rw [if_pos hl] at e
      cases e
      obtain ⟨a, xs, rfl, ha, kk⟩ := hx.lstV
      exact .inr ⟨a, k, xs, rfl, hy.intV, I.ex _ _ ha, by omega, by omega, by rw [kk.len]; exact sz_of hl.2.2, fun p hp => q B _ _ (Same.refl B) (I.made hp) (I.madeV hp (kk.rep _))⟩
    · rw [if_neg hl] at e
      cases e
  · cases e
theorem od_div : OpD K (rI CDivW fun i j => .int (i / j)) opDiv := od_I fun dx dy rv e => by
  unfold opDiv at e
  split at e
  · rename_i i j
    by_cases hl : 0 < j ∧ j.natAbs.log2 < 9000
    · rw [if_pos hl] at e
      cases e
      exact ⟨_, _, _, rfl, rfl, hl, rfl, fun B => .int _⟩
    · rw [if_neg hl] at e
      cases e
  · cases e
theorem od_mod : OpD K (rI (fun _ j => 0 < j) fun i j => .int (i % j)) opMod := od_I fun dx dy rv e => by
  unfold opMod at e
  split at e
  · rename_i i j
    by_cases hl : 0 < j
    · rw [if_pos hl] at e
      cases e
      exact ⟨_, _, _, rfl, rfl, hl, rfl, fun B => .int _⟩
    · rw [if_neg hl] at e
      cases e
  · cases e
theorem od_pow : OpD K (rI CPowW fun i j => .int (i ^ j.toNat)) opPow := od_I fun dx dy rv e => by
  unfold opPow at e
  split at e
  · rename_i i j
    by_cases hl : 0 ≤ j ∧ (Builtin.Int.intBits i : Int) * j ≤ 2 ^ 27
    · rw [if_pos hl] at e
      cases e
      exact ⟨_, _, _, rfl, rfl, hl, rfl, fun B => .int _⟩
    · rw [if_neg hl] at e
      cases e
  · cases e
theorem ud_neg : UnD K (rU fun i => .int (-i)) opNeg := by
  intro ks σ0 Fm B H σ ρ x dx rv Q I hx e q
  unfold opNeg at e
  split at e
  · cases e
    exact ⟨_, hx.intV, q B H _ (Same.refl B) I (.int _)⟩
  · cases e
theorem od_lt : OpD K (rI0 fun i j => .bl (decide (i < j))) cLt := od_I0 fun dx dy rv e => by
  unfold cLt at e
  split at e
  · cases e
    exact ⟨_, _, _, rfl, rfl, rfl, fun B => .bl _⟩
  · cases e
theorem od_le : OpD K (rI0 fun i j => .bl (decide (i ≤ j))) cLe := od_I0 fun dx dy rv e => by
  unfold cLe at e
  split at e
  · cases e
    exact ⟨_, _, _, rfl, rfl, rfl, fun B => .bl _⟩
  · cases e
theorem od_gt : OpD K (rI0 fun i j => .bl (decide (j < i))) cGt := od_I0 fun dx dy rv e => by
  unfold cGt at e
  split at e
  · cases e
    exact ⟨_, _, _, rfl, rfl, rfl, fun B => .bl _⟩
  · cases e
theorem od_ge : OpD K (rI0 fun i j => .bl (decide (j ≤ i))) cGe := od_I0 fun dx dy rv e => by
  unfold cGe at e
  split at e
  · cases e
    exact ⟨_, _, _, rfl, rfl, rfl, fun B => .bl _⟩
  · cases e
mutual
theorem Is.dp {B : Hp} : ∀ {v : V} {d : D} {p : PyData}, Is K B v d → d.py = some p → Dp K B v p
  | _, _, _, .non, e => by cases e; exact .non
  | _, _, _, .bl b, e => by cases e; exact .bl b
  | _, _, _, .int b, e => by cases e; exact .int b
  | _, _, _, .str b, e => by cases e; exact .str b
  | _, .lst ds, _, .lst h k, e => by
    cases q : pyA ds with
    | none =>
      rw [show D.py (.lst ds) = (pyA ds).map .list by rw [D.py], q] at e
      cases e
    | some ps =>
      rw [show D.py (.lst ds) = (pyA ds).map .list by rw [D.py], q] at e
      cases e
      exact .lst (.inl (.inl h)) (IsA.dp k q)
  | _, .tup ds, _, .tup h k, e => by
    cases q : pyA ds with
    | none =>
      rw [show D.py (.tup ds) = (pyA ds).map .tuple by rw [D.py], q] at e
      cases e
    | some ps =>
      rw [show D.py (.tup ds) = (pyA ds).map .tuple by rw [D.py], q] at e
      cases e
      exact .tup (.inl (.inl h)) (IsA.dp k q)
  | _, _, _, .dic h k, e => by rw [D.py] at e; cases e
  | _, _, _, .scr h, e => by rw [D.py] at e; cases e
  | _, _, _, .ref a, e => by rw [D.py] at e; cases e
  | _, _, _, .ty a, e => by rw [D.py] at e; cases e
theorem IsA.dp {B : Hp} : ∀ {vs : List V} {ds : List D} {ps : List PyData}, IsA K B vs ds → pyA ds = some ps → DpAll K B vs ps
  | _, _, _, .nil, e => by cases e; exact .nil
  | _, d :: ds, _, .cons h k, e => by
    rw [pyA] at e
    cases q : d.py with
    | none => rw [q] at e; cases e
    | some p =>
      rw [q] at e
      cases q2 : pyA ds with
      | none => rw [q2] at e; cases e
      | some ps =>
        rw [q2] at e
        cases e
        exact .cons (Is.dp h q) (IsA.dp k q2)
end
theorem eqD_of {dx dy : D} {b : Bool} (e : eqD dx dy = some b) : ∃ p q, dx.py = some p ∧ dy.py = some q ∧ SeqAt.shaped p = true ∧ SeqAt.shaped q = true ∧ b = PyData.eqv p q := by
  unfold eqD at e
  split at e
  · rename_i p q e1 e2
    by_cases hs : SeqAt.shaped p = true ∧ SeqAt.shaped q = true
    · rw [if_pos hs] at e
      cases e
      exact ⟨p, q, e1, e2, hs.1, hs.2, rfl⟩
    · rw [if_neg hs] at e
      cases e
  · cases e
theorem od_eq : OpD K (rEqD K) cEq := by
  intro ks σ0 Fm B H σ ρ x y dx dy rv Q I hx hy e q
  unfold cEq at e
  cases e1 : eqD dx dy with
  | none => rw [e1] at e; cases e
  | some b =>
    rw [e1] at e
    cases e
    obtain ⟨p, r, h1, h2, s1, s2, rfl⟩ := eqD_of e1
    exact ⟨p, r, (hx.mono I.ex).dp h1, (hy.mono I.ex).dp h2, s1, s2, q B H _ (Same.refl B) I (.bl _)⟩
theorem od_ne : OpD K (rNeD K) cNe := by
  intro ks σ0 Fm B H σ ρ x y dx dy rv Q I hx hy e q
  unfold cNe at e
  cases e1 : eqD dx dy with
  | none => rw [e1] at e; cases e
  | some b =>
    rw [e1] at e
    cases e
    obtain ⟨p, r, h1, h2, s1, s2, rfl⟩ := eqD_of e1
    exact ⟨p, r, (hx.mono I.ex).dp h1, (hy.mono I.ex).dp h2, s1, s2, q B H _ (Same.refl B) I (.bl _)⟩
theorem isNon_of {B : Hp} {v : V} {d : D} (h : Is K B v d) : decide (v = .non) = isNonD d := by
  cases h <;> rfl
theorem od_isN : OpD K rIsND cIsN := by
  intro ks σ0 Fm B H σ ρ x y dx dy rv Q I hx hy e q
  unfold cIsN at e
  split at e
  · cases e
    refine ⟨hy.nonV, ?_⟩
    rw [isNon_of hx]
    exact q B H _ (Same.refl B) I (.bl _)
  · cases e
theorem od_isNotN : OpD K rIsNotND cIsNotN := by
  intro ks σ0 Fm B H σ ρ x y dx dy rv Q I hx hy e q
  unfold cIsNotN at e
  split at e
  · cases e
    refine ⟨hy.nonV, ?_⟩
    rw [isNon_of hx]
    exact q B H _ (Same.refl B) I (.bl _)
  · cases e
theorem od_isB : OpD K rIsBD cIsB := by
  intro ks σ0 Fm B H σ ρ x y dx dy rv Q I hx hy e q
  unfold cIsB at e
  split at e
  · cases e
    exact ⟨_, _, hx.blV, hy.blV, q B H _ (Same.refl B) I (.bl _)⟩
  · cases e
theorem od_isNotB : OpD K rIsNotBD cIsNotB := by
  intro ks σ0 Fm B H σ ρ x y dx dy rv Q I hx hy e q
  unfold cIsNotB at e
  split at e
  · cases e
    exact ⟨_, _, hx.blV, hy.blV, q B H _ (Same.refl B) I (.bl _)⟩
  · cases e
theorem od_ix : OpD K (rIx K) ixD := by
  intro ks σ0 Fm B H σ ρ x y dx dy rv Q I hx hy e q
  unfold ixD at e
  split at e
  · rename_i ds k
    cases e1 : atI ds k with
    | none => rw [e1] at e; cases e
    | some d =>
      rw [e1] at e
      cases e
      obtain ⟨a, xs, rfl, ha, kk⟩ := hx.lstV
      obtain ⟨v, hv, iv⟩ := atI_is kk e1
      exact .inl ⟨a, xs, k, v, rfl, hy.intV, .inl (.inl (I.ex _ _ ha)), hv, q B H v (Same.refl B) I iv⟩
  · rename_i ds k
    cases e1 : atI ds k with
    | none => rw [e1] at e; cases e
    | some d =>
      rw [e1] at e
      cases e
      obtain ⟨a, xs, rfl, ha, kk⟩ := hx.tupV
      obtain ⟨v, hv, iv⟩ := atI_is kk e1
      exact .inr (.inl ⟨a, xs, k, v, rfl, hy.intV, .inl (.inl (I.ex _ _ ha)), hv, q B H v (Same.refl B) I iv⟩)
  · rename_i ns k
    cases e1 : atI ns k with
    | none => rw [e1] at e; cases e
    | some n =>
      rw [e1] at e
      cases e
      obtain ⟨a, rfl, ha⟩ := hx.scrV
      have hv : atI (ns.map V.int) k = some (.int n) := by
        unfold atI at e1 ⊢
        rw [List.length_map]
        cases q : ixN ns.length k with
        | none => rw [q] at e1; cases e1
        | some j =>
          rw [q] at e1
          show (ns.map V.int)[j]? = some (.int n)
          rw [List.getElem?_map, show ns[j]? = some n from e1]
          rfl
      exact .inl ⟨a, _, k, _, rfl, hy.intV, I.ex.seq ha, hv, q B H _ (Same.refl B) I (.int n)⟩
  · rename_i z k
    by_cases hl : z.length ≤ 100000
    · rw [if_pos hl] at e
      cases e1 : atI z.cps.toList k with
      | none => rw [e1] at e; cases e
      | some c =>
        rw [e1] at e
        cases e
        exact .inr (.inr ⟨z, k, c, hx.strV, hy.intV, sz_of hl, e1, q B H _ (Same.refl B) I (.str _)⟩)
    · rw [if_neg hl] at e
      cases e
  · cases e

/-! ### built-ins -/
def rLenD (K : PySem.W.Frag) : List V → Hp → VK → Prop := fun xs H Q => ∃ p ys, xs = [.ref p] ∧ (SqL K H p ys ∨ SqT K H p ys) ∧ Q (.int ys.length) H
def rListD (K : PySem.W.Frag) : List V → Hp → VK → Prop := fun xs H Q => ∃ p ys, xs = [.ref p] ∧ (SqL K H p ys ∨ SqT K H p ys) ∧ ∀ l, H l = none → Q (.ref l) (upd H l (.lst ys))
def rMax2D : List V → Hp → VK → Prop := fun xs H Q => ∃ i j, xs = [.int i, .int j] ∧ Q (.int (if j > i then j else i)) H
def rMin2D : List V → Hp → VK → Prop := fun xs H Q => ∃ i j, xs = [.int i, .int j] ∧ Q (.int (if j < i then j else i)) H
theorem cr_lenD {X : Cx} : CallR X (.builtin "len") (rLenD X.K) := call_len_seq
theorem cr_listD {X : Cx} : CallR X (.type "list") (rListD X.K) := call_list_of
theorem cr_max2D {X : Cx} (hc : X.calm = true) : CallR X (.builtin "max") rMax2D := call_max2 hc
theorem cr_min2D {X : Cx} (hc : X.calm = true) : CallR X (.builtin "min") rMin2D := call_min2 hc
theorem isA_1 {B : Hp} {xs : List V} {d : D} (h : IsA K B xs [d]) : ∃ v, xs = [v] ∧ Is K B v d := by
  cases h with
  | cons a b =>
    cases b
    exact ⟨_, rfl, a⟩
theorem isA_2 {B : Hp} {xs : List V} {d e : D} (h : IsA K B xs [d, e]) : ∃ v w, xs = [v, w] ∧ Is K B v d ∧ Is K B w e := by
  cases h with
  | cons a b =>
    obtain ⟨w, rfl, h⟩ := isA_1 b
    exact ⟨_, _, rfl, a, h⟩
theorem cd_len : CbD K (rLenD K) bLen := by
  intro ks σ0 Fm B H σ ρ xs ds rv Q I hx e q
  unfold bLen at e
  split at e
  · cases e
    obtain ⟨v, rfl, h⟩ := isA_1 hx
    obtain ⟨a, ys, rfl, ha, k⟩ := h.lstV
    refine ⟨a, ys, rfl, .inl (.inl (.inl (I.ex _ _ ha))), ?_⟩
    rw [k.len]
    exact q B H _ (Same.refl B) I (.int _)
  · cases e
    obtain ⟨v, rfl, h⟩ := isA_1 hx
    obtain ⟨a, ys, rfl, ha, k⟩ := h.tupV
    refine ⟨a, ys, rfl, .inr (.inl (.inl (I.ex _ _ ha))), ?_⟩
    rw [k.len]
    exact q B H _ (Same.refl B) I (.int _)
  · cases e
    obtain ⟨v, rfl, h⟩ := isA_1 hx
    obtain ⟨a, rfl, ha⟩ := h.scrV
    refine ⟨a, _, rfl, .inl (I.ex.seq ha), ?_⟩
    rw [List.length_map]
    exact q B H _ (Same.refl B) I (.int _)
  · cases e
theorem cd_list : CbD K (rListD K) bList := by
  intro ks σ0 Fm B H σ ρ xs ds rv Q I hx e q
  unfold bList at e
  split at e
  · cases e
    obtain ⟨v, rfl, h⟩ := isA_1 hx
    obtain ⟨a, ys, rfl, ha, k⟩ := h.lstV
    exact ⟨a, ys, rfl, .inl (.inl (.inl (I.ex _ _ ha))), fun p hp => q B _ _ (Same.refl B) (I.made hp) (I.madeV hp k)⟩
  · cases e
    obtain ⟨v, rfl, h⟩ := isA_1 hx
    obtain ⟨a, ys, rfl, ha, k⟩ := h.tupV
    exact ⟨a, ys, rfl, .inr (.inl (.inl (I.ex _ _ ha))), fun p hp => q B _ _ (Same.refl B) (I.made hp) (I.madeV hp k)⟩
  · cases e
theorem cd_max2 : CbD K rMax2D bMax2 := by
  intro ks σ0 Fm B H σ ρ xs ds rv Q I hx e q
  unfold bMax2 at e
  split at e
  · cases e
    obtain ⟨v, w, rfl, h1, h2⟩ := isA_2 hx
    exact ⟨_, _, by rw [h1.intV, h2.intV], q B H _ (Same.refl B) I (.int _)⟩
  · cases e
theorem cd_min2 : CbD K rMin2D bMin2 := by
  intro ks σ0 Fm B H σ ρ xs ds rv Q I hx e q
  unfold bMin2 at e
  split at e
  · cases e
    obtain ⟨v, w, rfl, h1, h2⟩ := isA_2 hx
    exact ⟨_, _, by rw [h1.intV, h2.intV], q B H _ (Same.refl B) I (.int _)⟩
  · cases e
/-! isinstance of built-in classes -/
def tyN : D → Option String
  | .non => some "NoneType"
  | .bl _ => some "bool"
  | .int _ => some "int"
  | .str _ => some "str"
  | .lst _ => some "list"
  | .tup _ => some "tuple"
  | .dic _ => some "dict"
  | .scr _ => some "list"
  | _ => none
def isiOne (t : String) : D → Option Bool
  | .ty n => kitB t n
  | _ => none
def isiAny (t : String) : List D → Option Bool
  | [] => some false
  | c :: cs => (isiOne t c).bind fun b => (isiAny t cs).map fun r => b || r
def isiD (d c : D) : Option Bool :=
  match c with
  | .ty n => (tyN d).bind fun t => kitB t n
  | .tup cs => (tyN d).bind fun t => isiAny t cs
  | _ => none
def bIsi : List D → Option Rv
  | [d, c] => (isiD d c).map fun b => .im (.bl b)
  | _ => none
def rIsiD (K : PySem.W.Frag) : List V → Hp → VK → Prop := fun xs H Q => rIsi K xs H Q ∨ rIsiT K xs H Q
theorem CallR.or {X : Cx} {f : Value} {r r' : List V → Hp → VK → Prop} (h : CallR X f r) (h' : CallR X f r') : CallR X f fun xs H Q => r xs H Q ∨ r' xs H Q := by
  intro pins s σ H xs us Q I rr q
  rcases q with q | q
  · exact h pins s σ H xs us Q I rr q
  · exact h' pins s σ H xs us Q I rr q
theorem cr_isiD {X : Cx} : CallR X (.builtin "isinstance") (rIsiD X.K) := CallR.or call_isi call_isiT
theorem tyX_of {B : Hp} {v : V} {d : D} {t : String} (h : Is K B v d) (e : tyN d = some t) : TyX K B v (.type t) := by
  cases h with
  | non => cases e; exact .base .non
  | bl b => cases e; exact .base (.bl b)
  | int b => cases e; exact .base (.int b)
  | str b => cases e; exact .base (.str b)
  | lst h _ => cases e; exact .base (.lst h)
  | tup h _ =>
    cases e
    exact .base (.tup h)
  | dic h _ => cases e; exact .base (.dK h)
  | scr h =>
    cases e
    rcases h with (h | ⟨o, h⟩) | ⟨o, its, n, h1, h2, _⟩
    · exact .base (.lst h)
    · exact .base (.frz h)
    · exact .kList h1 h2
  | ref a => cases e
  | ty n => cases e
theorem isi_any {B : Hp} {t : String} : ∀ {cs : List D} {xs : List V} {b : Bool}, IsA K B xs cs → isiAny t cs = some b → ∃ us, Paired ClsV xs us ∧ PySem.W.kitAny K (.type t) us = some b
  | [], _, b, .nil, e => by
    cases e
    exact ⟨[], .nil, kitAny_nil⟩
  | c :: cs, _, b, .cons h k, e => by
    rw [show isiAny t (c :: cs) = (isiOne t c).bind fun b => (isiAny t cs).map fun r => b || r from rfl] at e
    cases q : isiOne t c with
    | none => rw [q] at e; cases e
    | some b1 =>
      rw [q] at e
      cases q2 : isiAny t cs with
      | none => rw [q2] at e; cases e
      | some b2 =>
        rw [q2] at e
        cases e
        obtain ⟨us, h1, h2⟩ := isi_any k q2
        cases h with
        | ty n =>
          refine ⟨.type n :: us, .cons (.ty n) h1, kitAny_cons (kit_ty q) (fun z => ?_) (fun z => ?_)⟩
          · subst z
            show PySem.W.kitAny K (.type t) us = some (false || b2)
            rw [Bool.false_or]
            exact h2
          · subst z
            show (true || b2) = true
            rw [Bool.true_or]
        | _ => cases q
theorem cd_isi : CbD K (rIsiD K) bIsi := by
  intro ks σ0 Fm B H σ ρ xs ds rv Q I hx e q
  unfold bIsi at e
  split at e
  · rename_i d c
    obtain ⟨v, w, rfl, h1, h2⟩ := isA_2 hx
    cases e1 : isiD d c with
    | none => rw [e1] at e; cases e
    | some b =>
      rw [e1] at e
      cases e
      unfold isiD at e1
      split at e1
      · rename_i n
        cases e2 : tyN d with
        | none => rw [e2] at e1; cases e1
        | some t =>
          rw [e2] at e1
          cases h2 with
          | ty n => exact .inl ⟨v, .ty n, .type t, .type n, b, rfl, .ty n, tyX_of (h1.mono I.ex) e2, kit_ty e1, q B H _ (Same.refl B) I (.bl b)⟩
      · rename_i cs
        cases e2 : tyN d with
        | none => rw [e2] at e1; cases e1
        | some t =>
          rw [e2] at e1
          cases h2 with
          | tup hs hk =>
            rename_i tp ys
            obtain ⟨us, g1, g2⟩ := isi_any hk e1
            exact .inr ⟨v, tp, ys, .type t, us, b, rfl, I.ex _ _ hs, g1, tyX_of (h1.mono I.ex) e2, g2, q B H _ (Same.refl B) I (.bl b)⟩
      · cases e1
  · cases e
end

/-! the rules with the written part named -/
section
variable {X : Cx} {K : PySem.W.Frag}
theorem ix_seqK (e : X.K = K) : IxR X (rIx K) := by subst e; exact ix_seq
theorem sl_listK (e : X.K = K) : SlR X (rSlL K) := by subst e; exact sl_list
theorem op_eqK (e : X.K = K) (hu : X.A.units + 64 < cLine) : OpR X (compareOp .Eq) (rEqD K) := by subst e; exact op_eqD hu
theorem op_neK (e : X.K = K) (hu : X.A.units + 64 < cLine) : OpR X (compareOp .NotEq) (rNeD K) := by subst e; exact op_neD hu
theorem cr_lenK (e : X.K = K) : CallR X (.builtin "len") (rLenD K) := by subst e; exact cr_lenD
theorem cr_listK (e : X.K = K) : CallR X (.type "list") (rListD K) := by subst e; exact cr_listD
theorem cr_isiK (e : X.K = K) : CallR X (.builtin "isinstance") (rIsiD K) := by subst e; exact cr_isiD
theorem pg_tupK {es : List Expr} {k : Nat} {t : TGs} {n : Nat} {pos : Pos} (e : X.K = K) (hc : X.calm = true) (h : PGs X es t) (hn : (assignEach es X.env).length = n := by rfl) (hst : (assignEach es X.env).findIdx? (·.1) = none := by rfl) : PG X (.Tuple es k pos) (gTup K n t) := by
  subst e
  exact pg_tup hc h hn hst
theorem pi_listK {tg l : Expr} {tl : TE} (e : X.K = K) (hl : PE X l tl) : PI X tg l (iList K tl) := by subst e; exact pi_list hl
end
end DL

/-! DL, part d: what is walked, targets, statements, loops. -/
namespace DL
open PySem PySem.Spec PyProof.Rows L2

/-! ### statements -/
inductive Out where
  | nx (ρ : Env) | ret (rv : Rv) (ρ : Env) | brk (ρ : Env) | ct (ρ : Env) | exc (C : Addr) (d : Option (Str × D)) (ρ : Env) | bad
def R.toO {α : Type} (r : R α) (k : α → Env → Out) : Out :=
  match r with
  | .ok a ρ => k a ρ
  | .exc C d ρ => .exc C d ρ
  | .bad => .bad
def Out.seq (o : Out) (k : Env → Out) : Out :=
  match o with
  | .nx ρ => k ρ
  | o => o
def PtS (K : PySem.W.Frag) (ks : List Nat) (σ0 : L2.St) (Fm : Hp) (W : WX) (B : Hp) (E : Ends) : Out → Prop
  | .nx ρ' => ∀ B' H' σ', Same B B' → IV K ks σ0 Fm B' H' σ' ρ' → E.nx σ' H'
  | .ret rv ρ' => ∀ B' H' σ' v, Same B B' → IV K ks σ0 Fm B' H' σ' ρ' → vE K Fm σ' B' H' ρ' v rv → E.rt v H'
  | .brk ρ' => ∀ B' H' σ', Same B B' → IV K ks σ0 Fm B' H' σ' ρ' → E.bk σ' H'
  | .ct ρ' => ∀ B' H' σ', Same B B' → IV K ks σ0 Fm B' H' σ' ρ' → E.ct σ' H'
  | .exc C d ρ' => ∀ B' H' σ' dx, Same B B' → IV K ks σ0 Fm B' H' σ' ρ' → XAt K B' dx d → W (.ref C) dx σ' H'
  | .bad => False
def DS (K : PySem.W.Frag) (W : WX) (ks : List Nat) (t : TS) (g : Env → Out) : Prop := ∀ σ0 Fm B H σ ρ E, IV K ks σ0 Fm B H σ ρ → PtS K ks σ0 Fm W B E (g ρ) → t E σ H

def sNext : Env → Out := fun ρ => .nx ρ
def sBrk : Env → Out := fun ρ => .brk ρ
def sCont : Env → Out := fun ρ => .ct ρ
def sNever : Env → Out := fun _ => .bad
def sSeq (g k : Env → Out) : Env → Out := fun ρ => (g ρ).seq k
/-- x = e; the value stays as it is from now on -/
def sSet (i : Nat) (f : Env → R Rv) : Env → Out := fun ρ => (f ρ).toO fun rv ρ => .nx (ρ.set i (.im rv.d))
/-- x = e; a list of one's own -/
def sSetO (i : Nat) (f : Env → R Rv) : Env → Out := fun ρ => (f ρ).toO fun rv ρ => .nx (ρ.set i rv.sl)
def sDrop (f : Env → R Rv) : Env → Out := fun ρ => (f ρ).toO fun _ ρ => .nx ρ
def sRet (f : Env → R Rv) : Env → Out := fun ρ => (f ρ).toO fun rv ρ => .ret rv ρ
def sRetN : Env → Out := fun ρ => .ret (.im .non) ρ
def sIf (t : Env → R Bool) (g k : Env → Out) : Env → Out := fun ρ => (t ρ).toO fun c ρ => cond c (g ρ) (k ρ)
def sApp (i : Nat) (f : Env → R Rv) : Env → Out := fun ρ =>
  match ρ[i]? with
  | some (.own _) => (f ρ).toO fun rv ρ => match ρ[i]? with
    | some (.own ds) => if ds.length < 100000 then .nx (ρ.set i (.own (ds ++ [rv.d]))) else .bad
    | _ => .bad
  | _ => .bad
def sSetIx (i : Nat) (fk f : Env → R Rv) : Env → Out := fun ρ => (f ρ).toO fun rv ρ =>
  match ρ[i]? with
  | some (.own _) => (fk ρ).toO fun kv ρ => match ρ[i]?, kv.d with
    | some (.own ds), .int k => match ixN ds.length k with
      | some j => .nx (ρ.set i (.own (ds.set j rv.d)))
      | none => .bad
    | _, _ => .bad
  | _ => .bad
def sAug (i : Nat) (op : D → D → Option Rv) (f : Env → R Rv) : Env → Out := fun ρ => (eVar i ρ).toO fun x ρ => (f ρ).toO fun y ρ => (lift (op x.d y.d) ρ).toO fun z ρ => .nx (ρ.set i (.im z.d))
/-- a, b = e, f -/
def sPar (i j : Nat) (f : Env → R (List Av)) : Env → Out := fun ρ => (f ρ).toO fun as ρ => (lift (ims as) ρ).toO fun ds ρ =>
  match ds with
  | [x, y] => .nx ((ρ.set i (.im x)).set j (.im y))
  | _ => .bad
def dFor (step : D → Env → Out) : List D → Env → Out
  | [], ρ => .nx ρ
  | d :: ds, ρ =>
    match step d ρ with
    | .nx ρ' => dFor step ds ρ'
    | .ct ρ' => dFor step ds ρ'
    | .brk ρ' => .nx ρ'
    | o => o
abbrev Tg := D → Env → Option Env
def tgName (j : Nat) : Tg := fun d ρ => some (ρ.set j (.im d))
def tgAll : List Tg → List D → Env → Option Env
  | [], [], ρ => some ρ
  | t :: ts, d :: ds, ρ => (t d ρ).bind fun ρ => tgAll ts ds ρ
  | _, _, _ => none
def tgTup (ts : List Tg) : Tg := fun d ρ =>
  match d with
  | .tup ds => tgAll ts ds ρ
  | _ => none
def stepOf (tg : Tg) (g : Env → Out) : D → Env → Out := fun d ρ =>
  match tg d ρ with
  | some ρ' => g ρ'
  | none => .bad
def sFor (fi : Env → R (List D)) (tg : Tg) (g : Env → Out) : Env → Out := fun ρ => (fi ρ).toO fun ds ρ => dFor (stepOf tg g) ds ρ
/-- target = e -/
def sAsg (tg : Tg) (f : Env → R Rv) : Env → Out := fun ρ => (f ρ).toO fun rv ρ =>
  match tg rv.d ρ with
  | some ρ' => .nx ρ'
  | none => .bad

section
variable {K : PySem.W.Frag} {W : WX} {ks : List Nat} {te ta tb : TE} {f fa fb : Env → R Rv} {t u : TS} {g k : Env → Out}
theorem PtS.mono {σ0 : L2.St} {Fm B B1 : Hp} {E : Ends} {o : Out} (h : PtS K ks σ0 Fm W B E o) (e : Same B B1) : PtS K ks σ0 Fm W B1 E o := by
  cases o with
  | nx ρ' => exact fun B' H' σ' s i => h B' H' σ' (e.trans s) i
  | ret rv ρ' => exact fun B' H' σ' v s i x => h B' H' σ' v (e.trans s) i x
  | brk ρ' => exact fun B' H' σ' s i => h B' H' σ' (e.trans s) i
  | ct ρ' => exact fun B' H' σ' s i => h B' H' σ' (e.trans s) i
  | exc C d ρ' => exact fun B' H' σ' dx s i x => h B' H' σ' dx (e.trans s) i x
  | bad => exact h
/-- from an expression to what follows it -/
theorem PtS.step {α β : Type} {vis : Hp → Hp → Env → β → α → Prop} {σ0 σ : L2.St} {Fm B : Hp} {E : Ends} {Q1 : β → Hp → Prop} {r : R α} {kk : α → Env → Out} (h : PtS K ks σ0 Fm W B E (r.toO kk))
    (go : ∀ a ρ1 B1 H1 b, Same B B1 → IV K ks σ0 Fm B1 H1 σ ρ1 → vis B1 H1 ρ1 b a → PtS K ks σ0 Fm W B1 E (kk a ρ1) → Q1 b H1) : PtG K ks σ0 Fm W vis B σ Q1 r := by
  cases r with
  | ok a ρ1 => exact fun B1 H1 b s i v => go a ρ1 B1 H1 b s i v (PtS.mono h s)
  | exc C d ρ' => exact fun B' H' dx s i x => h B' H' σ dx s i x
  | bad => exact h
theorem ds_next : DS K W ks tNext sNext := fun σ0 Fm B H σ ρ E I p => p B H σ (Same.refl B) I
theorem ds_brk : DS K W ks tBreak sBrk := fun σ0 Fm B H σ ρ E I p => p B H σ (Same.refl B) I
theorem ds_cont : DS K W ks tCont sCont := fun σ0 Fm B H σ ρ E I p => p B H σ (Same.refl B) I
theorem ds_never : DS K W ks tNever sNever := fun σ0 Fm B H σ ρ E I p => p
theorem ds_seq (h1 : DS K W ks t g) (h2 : DS K W ks u k) : DS K W ks (tSeq t u) (sSeq g k) := fun σ0 Fm B H σ ρ E I p => by
  refine h1 σ0 Fm B H σ ρ _ I ?_
  unfold sSeq at p
  cases q : g ρ with
  | nx ρ' =>
    rw [q] at p
    exact fun B' H' σ' s i => h2 σ0 Fm B' H' σ' ρ' E i (PtS.mono p s)
  | ret rv ρ' => rw [q] at p; exact p
  | brk ρ' => rw [q] at p; exact p
  | ct ρ' => rw [q] at p; exact p
  | exc C d ρ' => rw [q] at p; exact p
  | bad => rw [q] at p; exact p.elim
theorem ds_set {i : Nat} (hi : i ∉ ks) (h : DE K W te f) : DS K W ks (tAsg te (gName i)) (sSet i f) := fun σ0 Fm B H σ ρ E I p =>
  h ks σ0 Fm B H σ ρ _ I (PtS.step p fun rv ρ1 B1 H1 v s I1 v1 p1 => by
    obtain ⟨B2, s2, I2, i2⟩ := freeze I1 v1
    exact p1 B2 H1 _ s2 (I2.setIm hi i2))
theorem ds_setO {i : Nat} (hi : i ∉ ks) (h : DE K W te f) : DS K W ks (tAsg te (gName i)) (sSetO i f) := fun σ0 Fm B H σ ρ E I p =>
  h ks σ0 Fm B H σ ρ _ I (PtS.step p fun rv ρ1 B1 H1 v s I1 v1 p1 => p1 B1 H1 _ (Same.refl B1) (I1.setSl hi v1))
theorem ds_drop (h : DE K W te f) : DS K W ks (tDrop te) (sDrop f) := fun σ0 Fm B H σ ρ E I p =>
  h ks σ0 Fm B H σ ρ _ I (PtS.step p fun rv ρ1 B1 H1 v s I1 v1 p1 => p1 B1 H1 σ (Same.refl B1) I1)
theorem ds_ret (h : DE K W te f) : DS K W ks (tRet te) (sRet f) := fun σ0 Fm B H σ ρ E I p =>
  h ks σ0 Fm B H σ ρ _ I (PtS.step p fun rv ρ1 B1 H1 v s I1 v1 p1 => p1 B1 H1 σ v (Same.refl B1) I1 v1)
theorem ds_retN : DS K W ks tRetN sRetN := fun σ0 Fm B H σ ρ E I p => p B H σ .non (Same.refl B) I (Is.non)
theorem ds_if {tc : TT} {fc : Env → R Bool} (hc : DT K W tc fc) (h1 : DS K W ks t g) (h2 : DS K W ks u k) : DS K W ks (tIfS tc t u) (sIf fc g k) := fun σ0 Fm B H σ ρ E I p =>
  hc ks σ0 Fm B H σ ρ _ I (PtS.step p fun c ρ1 B1 H1 b s I1 v1 p1 => by
    cases (show b = c from v1)
    cases c with
    | true => exact h1 σ0 Fm B1 H1 σ ρ1 E I1 p1
    | false => exact h2 σ0 Fm B1 H1 σ ρ1 E I1 p1)
/-- an object of one's own changes -/
theorem IV.wr {σ0 : L2.St} {Fm B H : Hp} {σ : L2.St} {ρ : Env} (I : IV K ks σ0 Fm B H σ ρ) {i : Nat} {a : Addr} {ds es : List D} {ys : List V} (e : ρ[i]? = some (.own ds)) (h1 : σ[i]? = some (some (.ref a))) (k : IsA K B ys es) :
    IV K ks σ0 Fm B (upd H a (.lst ys)) σ (ρ.set i (.own es)) := by
  obtain ⟨b, xs, g1, g2, g3, g4, g5⟩ := I.own i ds e
  rw [h1] at g1
  cases g1
  have hl : i < ρ.length := (List.getElem?_eq_some_iff.mp e).1
  have sub : ∀ {j : Nat} {x : Sl}, i ≠ j → (ρ.set i (.own es))[j]? = some x → ρ[j]? = some x := fun {j x} hx h => by
    rw [List.getElem?_set_ne hx] at h
    exact h
  refine ⟨fun c o q => ?_, fun c o q => ?_, I.fb, by rw [List.length_set]; exact I.len, fun j d q => ?_, fun j zs q => ?_, fun j m ds' es' c hjm q1 q2 q3 q4 => ?_, I.pin⟩
  · have hne : c ≠ a := ne_of_none q g3
    rw [upd_ne hne]
    exact I.ex c o q
  · have hne : c ≠ a := ne_of_none q g4
    rw [upd_ne hne]
    exact I.fr c o q
  · by_cases hij : i = j
    · subst hij
      rw [List.getElem?_set_self hl] at q
      cases q
    · exact I.im j d (sub hij q)
  · by_cases hij : i = j
    · subst hij
      rw [List.getElem?_set_self hl] at q
      cases q
      exact ⟨a, ys, h1, upd_same, g3, g4, k⟩
    · obtain ⟨c, zs', m1, m2, m3, m4, m5⟩ := I.own j zs (sub hij q)
      have hne : c ≠ a := fun z => I.dj i j ds zs a hij e (sub hij q) h1 (by rw [m1, z])
      exact ⟨c, zs', m1, by rw [upd_ne hne]; exact m2, m3, m4, m5⟩
  · have own_of : ∀ {m : Nat} {zs : List D}, (ρ.set i (.own es))[m]? = some (.own zs) → ∃ zs', ρ[m]? = some (.own zs') := fun {m zs} q => by
      by_cases him : i = m
      · subst him
        exact ⟨ds, e⟩
      · exact ⟨zs, sub him q⟩
    obtain ⟨w1, r1⟩ := own_of q1
    obtain ⟨w2, r2⟩ := own_of q2
    exact I.dj j m w1 w2 c hjm r1 r2 q3 q4
theorem ds_app {i : Nat} (h : DE K W te f) : DS K W ks (tDrop (tBM K "list" rAppend (tVar i) (tCons te tNil))) (sApp i f) := fun σ0 Fm B H σ ρ E I p => by
  unfold sApp at p
  cases e : ρ[i]? with
  | none => rw [e] at p; exact p.elim
  | some x =>
    rw [e] at p
    cases x with
    | no => exact p.elim
    | im d => exact p.elim
    | own ds =>
      obtain ⟨a, xs, h1, h2, _⟩ := I.own i ds e
      refine ⟨.ref a, h1, .inl ⟨rfl, xs, .inl (.inl h2)⟩, h ks σ0 Fm B H σ ρ _ I (PtS.step p fun rv ρ1 B1 H1 v s I1 v1 p1 => ?_)⟩
      obtain ⟨B2, s2, I2, i2⟩ := freeze I1 v1
      cases e1 : ρ1[i]? with
      | none => rw [e1] at p1; exact p1.elim
      | some x1 =>
        rw [e1] at p1
        cases x1 with
        | no => exact p1.elim
        | im d => exact p1.elim
        | own es =>
          have p2 : PtS K ks σ0 Fm W B1 E (if es.length < 100000 then .nx (ρ1.set i (.own (es ++ [rv.d]))) else .bad) := p1
          obtain ⟨b, ys, g1, g2, g3, g4, g5⟩ := I2.own i es e1
          rw [h1] at g1
          cases g1
          by_cases hl : es.length < 100000
          · rw [if_pos hl] at p2
            refine ⟨a, ys, v, rfl, rfl, g2, by rw [g5.len]; exact sz_lt hl, ?_⟩
            exact p2 B2 _ σ s2 (I2.wr e1 h1 (g5.app (.cons i2 .nil)))
          · rw [if_neg hl] at p2
            exact p2.elim
theorem ds_setIx {i : Nat} (hk : DE K W ta fa) (h : DE K W te f) : DS K W ks (tAsg te (gSub (tVar i) ta rSetL)) (sSetIx i fa f) := fun σ0 Fm B H σ ρ E I p =>
  h ks σ0 Fm B H σ ρ _ I (PtS.step p fun rv ρ1 B1 H1 v s I1 v1 p1 => by
    obtain ⟨B2, s2, I2, i2⟩ := freeze I1 v1
    cases e : ρ1[i]? with
    | none => rw [e] at p1; exact p1.elim
    | some x =>
      rw [e] at p1
      cases x with
      | no => exact p1.elim
      | im d => exact p1.elim
      | own ds =>
        obtain ⟨a, xs, h1, h2, _⟩ := I2.own i ds e
        refine ⟨.ref a, h1, hk ks σ0 Fm B2 H1 σ ρ1 _ I2 (PtS.step (PtS.mono p1 s2) fun kv ρ3 B3 H3 w s3 I3 v3 p3 => ?_)⟩
        cases e3 : ρ3[i]? with
        | none => rw [e3] at p3; exact p3.elim
        | some x3 =>
          rw [e3] at p3
          cases x3 with
          | no => exact p3.elim
          | im d => exact p3.elim
          | own es =>
            obtain ⟨b, ys, g1, g2, g3, g4, g5⟩ := I3.own i es e3
            rw [h1] at g1
            cases g1
            cases e5 : kv.d with
            | int z =>
              rw [e5] at p3
              dsimp only at p3
              cases e6 : ixN es.length z with
              | none => rw [e6] at p3; exact p3.elim
              | some j =>
                rw [e6] at p3
                have ew : w = .int z := int_of v3 (by rw [e5]; rfl)
                refine ⟨a, ys, z, j, rfl, ew, g2, by rw [g5.len]; exact e6, ?_⟩
                exact p3 B3 _ σ (Same.refl B3) (I3.wr e3 h1 (g5.set j (i2.mono s3)))
            | _ => rw [e5] at p3; exact p3.elim)
theorem ds_par {i j : Nat} {tr : TA} {fr : Env → R (List Av)} (hi : i ∉ ks) (hj : j ∉ ks) (h : DA K W tr fr) : DS K W ks (tPar i j tr) (sPar i j fr) := fun σ0 Fm B H σ ρ E I p =>
  h ks σ0 Fm B H σ ρ _ I (PtS.step p fun as ρ1 B1 H1 vs s I1 v1 p1 => by
    cases e : ims as with
    | none => rw [e] at p1; exact p1.elim
    | some ds =>
      rw [e] at p1
      have kk := ims_is v1 e
      match ds, kk, p1 with
      | [x, y], kk, p1 =>
        obtain ⟨v, w, rfl, h1, h2⟩ := isA_2 kk
        exact ⟨v, w, rfl, p1 B1 H1 _ (Same.refl B1) ((I1.setIm hi h1).setIm hj h2)⟩)

/-! ### targets -/
theorem wipe_get {σ : L2.St} : ∀ {vs : List Nat} (i : Nat), (wipe σ vs)[i]? = if i ∈ vs then (if i < σ.length then some none else none) else σ[i]?
  | [], i => by
    rw [if_neg (by simp)]
    rfl
  | v :: vs, i => by
    show ((wipe σ vs).set v none)[i]? = _
    by_cases h : v = i
    · subst h
      rw [if_pos (by simp)]
      by_cases hl : v < σ.length
      · rw [if_pos hl, List.getElem?_set_self (by rw [wipe_length]; exact hl)]
      · rw [if_neg hl, List.getElem?_eq_none (by rw [List.length_set, wipe_length]; omega)]
    · rw [List.getElem?_set_ne h, wipe_get (vs := vs) i]
      have e : (i ∈ v :: vs) = (i ∈ vs) := by
        rw [List.mem_cons]
        exact propext ⟨fun z => z.elim (fun q => absurd q.symm h) id, .inr⟩
      simp only [e]
theorem wipe_set {σ : L2.St} {vs : List Nat} {j : Nat} {x : Option V} (h : j ∈ vs) : wipe (σ.set j x) vs = wipe σ vs := by
  refine List.ext_getElem? fun i => ?_
  rw [wipe_get, wipe_get, List.length_set]
  by_cases hi : i ∈ vs
  · rw [if_pos hi, if_pos hi]
  · rw [if_neg hi, if_neg hi, List.getElem?_set_ne (fun z => hi (by rw [← z]; exact h))]
/-- js: the slots of the target -/
def DTg (K : PySem.W.Frag) (ks js : List Nat) (gt : TG) (tg : Tg) : Prop := ∀ σ0 Fm B H σ ρ v d ρ' (Q : L2.St → Hp → Prop), IV K ks σ0 Fm B H σ ρ → Is K B v d → tg d ρ = some ρ' →
  (∀ σ', IV K ks σ0 Fm B H σ' ρ' → (∀ vs : List Nat, (∀ j ∈ js, j ∈ vs) → wipe σ' vs = wipe σ vs) → Q σ' H) → gt v σ H Q
def DTgs (K : PySem.W.Frag) (ks js : List Nat) (gt : TGs) (ts : List Tg) : Prop := ∀ σ0 Fm B H σ ρ vs ds ρ' (Q : L2.St → Hp → Prop), IV K ks σ0 Fm B H σ ρ → IsA K B vs ds → tgAll ts ds ρ = some ρ' →
  (∀ σ', IV K ks σ0 Fm B H σ' ρ' → (∀ vs : List Nat, (∀ j ∈ js, j ∈ vs) → wipe σ' vs = wipe σ vs) → Q σ' H) → gt vs σ H Q
theorem dg_name {j : Nat} (hj : j ∉ ks) : DTg K ks [j] (gName j) (tgName j) := by
  intro σ0 Fm B H σ ρ v d ρ' Q I h e q
  cases e
  exact q _ (I.setIm hj h) fun vs hv => wipe_set (hv j (by simp))
theorem dgs_nil : DTgs K ks [] gNil [] := by
  intro σ0 Fm B H σ ρ vs ds ρ' Q I h e q
  cases h with
  | nil =>
    cases e
    exact ⟨rfl, q σ I fun _ _ => rfl⟩
  | cons _ _ => cases e
theorem dgs_cons {js js' : List Nat} {gt : TG} {gr : TGs} {tg : Tg} {ts : List Tg} (h1 : DTg K ks js gt tg) (h2 : DTgs K ks js' gr ts) : DTgs K ks (js ++ js') (gCons gt gr) (tg :: ts) := by
  intro σ0 Fm B H σ ρ vs ds ρ' Q I h e q
  cases h with
  | nil => cases e
  | @cons v vs d ds hv hr =>
    rw [show tgAll (tg :: ts) (d :: ds) ρ = (tg d ρ).bind fun ρ => tgAll ts ds ρ from rfl] at e
    cases e1 : tg d ρ with
    | none => rw [e1] at e; cases e
    | some ρ1 =>
      rw [e1] at e
      refine ⟨v, vs, rfl, h1 σ0 Fm B H σ ρ v d ρ1 _ I hv e1 fun σ1 I1 w1 => ?_⟩
      refine h2 σ0 Fm B H σ1 ρ1 vs ds ρ' Q I1 hr e fun σ2 I2 w2 => q σ2 I2 fun zs hz => ?_
      rw [w2 zs fun j hj => hz j (List.mem_append_right _ hj), w1 zs fun j hj => hz j (List.mem_append_left _ hj)]
theorem tgAll_len : ∀ {ts : List Tg} {ds : List D} {ρ ρ' : Env}, tgAll ts ds ρ = some ρ' → ds.length = ts.length
  | [], [], _, _, _ => rfl
  | t :: ts, d :: ds, ρ, ρ', e => by
    rw [show tgAll (t :: ts) (d :: ds) ρ = (t d ρ).bind fun ρ => tgAll ts ds ρ from rfl] at e
    cases e1 : t d ρ with
    | none => rw [e1] at e; cases e
    | some ρ1 =>
      rw [e1] at e
      rw [List.length_cons, List.length_cons, tgAll_len e]
  | [], _ :: _, _, _, e => by cases e
  | _ :: _, [], _, _, e => by cases e
theorem dg_tup {js : List Nat} {n : Nat} {gr : TGs} {ts : List Tg} (hn : ts.length = n) (h : DTgs K ks js gr ts) : DTg K ks js (gTup K n gr) (tgTup ts) := by
  intro σ0 Fm B H σ ρ v d ρ' Q I hv e q
  unfold tgTup at e
  split at e
  · obtain ⟨a, xs, rfl, ha, kk⟩ := hv.tupV
    refine ⟨a, xs, rfl, .inl (.inl (I.ex _ _ ha)), ?_, h σ0 Fm B H σ ρ xs _ ρ' Q I kk e q⟩
    rw [kk.len, tgAll_len e, hn]
  · cases e
theorem ds_asg {js : List Nat} {gt : TG} {tg : Tg} (hg : DTg K ks js gt tg) (h : DE K W te f) : DS K W ks (tAsg te gt) (sAsg tg f) := fun σ0 Fm B H σ ρ E I p =>
  h ks σ0 Fm B H σ ρ _ I (PtS.step p fun rv ρ1 B1 H1 v s I1 v1 p1 => by
    obtain ⟨B2, s2, I2, i2⟩ := freeze I1 v1
    cases e : tg rv.d ρ1 with
    | none => rw [e] at p1; exact p1.elim
    | some ρ2 =>
      rw [e] at p1
      exact hg σ0 Fm B2 H1 σ ρ1 v rv.d ρ2 _ I2 i2 e fun σ' I' _ => p1 B2 H1 σ' s2 I')

/-! ### what is walked -/
def Wk (K : PySem.W.Frag) (J : It) (items : List D) (B0 : Hp) : Prop := ∀ ks σ0 Fm B H σ ρ (i : Nat), Same B0 B → IV K ks σ0 Fm B H σ ρ →
  (i < items.length → J.go i H ∧ ∀ x H', J.yld i H x H' → ∃ B' d, items[i]? = some d ∧ Same B B' ∧ Same H H' ∧ IV K ks σ0 Fm B' H' σ ρ ∧ Is K B' x d) ∧ (items.length ≤ i → J.stop i H)
def DI (K : PySem.W.Frag) (W : WX) (wi : TI) (f : Env → R (List D)) : Prop := ∀ ks σ0 Fm B H σ ρ Q, IV K ks σ0 Fm B H σ ρ → PtG K ks σ0 Fm W (fun B' _ _ J items => Wk K J items B') B σ Q (f ρ) → wi σ H Q
theorem Wk.mono {J : It} {items : List D} {B0 B1 : Hp} (h : Wk K J items B0) (s : Same B0 B1) : Wk K J items B1 := fun ks σ0 Fm B H σ ρ i s1 I => h ks σ0 Fm B H σ ρ i (s.trans s1) I
theorem wk_list {a : Addr} {xs : List V} {ds : List D} {B0 : Hp} (h : SqL K B0 a xs) (kk : IsA K B0 xs ds) : Wk K (Itl K a) ds B0 := by
  intro ks σ0 Fm B H σ ρ i s I
  have hq : SqL K H a xs := I.ex.seq (s.seq h)
  refine ⟨fun hi => ?_, fun hi => ⟨xs, hq, by rw [kk.len]; exact hi⟩⟩
  have hi2 : i < xs.length := by rw [kk.len]; exact hi
  refine ⟨⟨xs, xs[i], hq, List.getElem?_eq_getElem hi2⟩, fun x H' y => ?_⟩
  obtain ⟨rfl, y⟩ := y
  obtain ⟨d, hd, iv⟩ := kk.getV (y xs hq)
  exact ⟨B, d, hd, Same.refl B, Same.refl _, I, iv.mono s⟩
theorem wk_tup {a : Addr} {xs : List V} {ds : List D} {B0 : Hp} (h : SqT K B0 a xs) (kk : IsA K B0 xs ds) : Wk K (Itt K a) ds B0 := by
  intro ks σ0 Fm B H σ ρ i s I
  have hq : SqT K H a xs := same_t I.ex (same_t s h)
  refine ⟨fun hi => ?_, fun hi => ⟨xs, hq, by rw [kk.len]; exact hi⟩⟩
  have hi2 : i < xs.length := by rw [kk.len]; exact hi
  refine ⟨⟨xs, xs[i], hq, List.getElem?_eq_getElem hi2⟩, fun x H' y => ?_⟩
  obtain ⟨rfl, y⟩ := y
  obtain ⟨d, hd, iv⟩ := kk.getV (y xs hq)
  exact ⟨B, d, hd, Same.refl B, Same.refl _, I, iv.mono s⟩
def rngD (lo : Int) (n : Nat) : List D := (List.range n).map fun (k : Nat) => .int (lo + (k : Int))
theorem rngD_len (lo : Int) (n : Nat) : (rngD lo n).length = n := by
  unfold rngD
  rw [List.length_map, List.length_range]
theorem rngD_get {lo : Int} {n i : Nat} (h : i < n) : (rngD lo n)[i]? = some (.int (lo + (i : Int))) := by
  unfold rngD
  rw [List.getElem?_map, List.getElem?_range h]
  rfl
theorem wk_rng {lo : Int} {n : Nat} {B0 : Hp} : Wk K (Itr lo n) (rngD lo n) B0 := by
  intro ks σ0 Fm B H σ ρ i s I
  rw [rngD_len]
  refine ⟨fun hi => ⟨hi, fun x H' y => ?_⟩, fun hi => hi⟩
  obtain ⟨rfl, rfl⟩ := y
  exact ⟨B, _, rngD_get hi, Same.refl B, Same.refl _, I, .int _⟩
def zipD : List D → List D → List D
  | x :: xs, y :: ys => .tup [x, y] :: zipD xs ys
  | _, _ => []
theorem zipD_get : ∀ {xs ys : List D} {i : Nat} {x y : D}, xs[i]? = some x → ys[i]? = some y → (zipD xs ys)[i]? = some (.tup [x, y])
  | _ :: _, _ :: _, 0, _, _, h1, h2 => by
    cases h1
    cases h2
    rfl
  | _ :: xs, _ :: ys, i + 1, x, y, h1, h2 => zipD_get (xs := xs) (ys := ys) (i := i) h1 h2
  | [], _, _, _, _, h1, _ => by simp at h1
  | _ :: _, [], _, _, _, _, h2 => by simp at h2
theorem zipD_len : ∀ {xs ys : List D}, (zipD xs ys).length = min xs.length ys.length
  | [], _ => by simp [zipD]
  | _ :: _, [] => by simp [zipD]
  | _ :: xs, _ :: ys => by
    rw [show zipD (_ :: xs) (_ :: ys) = _ :: zipD xs ys from rfl, List.length_cons, List.length_cons, List.length_cons, zipD_len (xs := xs)]
    omega
theorem wk_zip {a b : Addr} {xs ys : List V} {ds es : List D} {B0 : Hp} (h : SqL K B0 a xs) (h' : SqL K B0 b ys) (kk : IsA K B0 xs ds) (kk' : IsA K B0 ys es) : Wk K (Itz K a b) (zipD ds es) B0 := by
  intro ks σ0 Fm B H σ ρ i s I
  have hq : SqL K H a xs := I.ex.seq (s.seq h)
  have hq' : SqL K H b ys := I.ex.seq (s.seq h')
  rw [zipD_len]
  refine ⟨fun hi => ?_, fun hi => ⟨xs, ys, hq, hq', by rw [kk.len, kk'.len]; omega⟩⟩
  have hi2 : i < xs.length := by rw [kk.len]; omega
  have hi3 : i < ys.length := by rw [kk'.len]; omega
  refine ⟨⟨xs, ys, xs[i], ys[i], hq, hq', List.getElem?_eq_getElem hi2, List.getElem?_eq_getElem hi3⟩, fun v H' y => ?_⟩
  obtain ⟨T, x, z, rfl, hT, rfl, f1, f2⟩ := y
  obtain ⟨d, hd, iv⟩ := kk.getV (f1 xs hq)
  obtain ⟨e, he, iv'⟩ := kk'.getV (f2 ys hq')
  have s2 := same_upd (o := .tup [x, z]) (I.ex.free hT)
  exact ⟨_, _, zipD_get hd he, s2, same_upd hT, I.laid hT, .tup upd_same (.cons ((iv.mono s).mono s2) (.cons ((iv'.mono s).mono s2) .nil))⟩
def iListD (f : Env → R Rv) : Env → R (List D) := fun ρ => (f ρ).bind fun x ρ =>
  match x.d with
  | .lst ds => .ok ds ρ
  | .scr ns => .ok (ns.map D.int) ρ
  | _ => .bad
def iTupD (f : Env → R Rv) : Env → R (List D) := fun ρ => (f ρ).bind fun x ρ =>
  match x.d with
  | .tup ds => .ok ds ρ
  | _ => .bad
def iRng1D (f : Env → R (List Av)) : Env → R (List D) := fun ρ => (f ρ).bind fun as ρ =>
  match as with
  | [.im (.int j)] => if -(2 ^ 60) < j ∧ j < 2 ^ 60 then .ok (rngD 0 j.toNat) ρ else .bad
  | _ => .bad
def iRng2D (f : Env → R (List Av)) : Env → R (List D) := fun ρ => (f ρ).bind fun as ρ =>
  match as with
  | [.im (.int i), .im (.int j)] => if (-(2 ^ 60) < i ∧ i < 2 ^ 60) ∧ -(2 ^ 60) < j ∧ j < 2 ^ 60 then .ok (rngD i (j - i).toNat) ρ else .bad
  | _ => .bad
def iZipD (f : Env → R (List Av)) : Env → R (List D) := fun ρ => (f ρ).bind fun as ρ =>
  match as with
  | [.im (.lst ds), .im (.lst es)] => .ok (zipD ds es) ρ
  | _ => .bad
variable {tr : TA} {fr : Env → R (List Av)}
theorem di_list (h : DE K W te f) : DI K W (iList K te) (iListD f) := fun ks σ0 Fm B H σ ρ Q I p =>
  h ks σ0 Fm B H σ ρ _ I (PtG.step p fun rv ρ1 B1 H1 v s I1 v1 p1 => by
    obtain ⟨B2, s2, I2, i2⟩ := freeze I1 v1
    cases e : rv.d with
    | lst ds =>
      rw [e] at p1 i2
      obtain ⟨a, xs, rfl, ha, kk⟩ := i2.lstV
      exact ⟨a, rfl, ⟨xs, .inl (.inl (I2.ex _ _ ha))⟩, p1 B2 H1 _ s2 I2 (wk_list (.inl (.inl ha)) kk)⟩
    | scr ns =>
      rw [e] at p1 i2
      obtain ⟨a, rfl, ha⟩ := i2.scrV
      exact ⟨a, rfl, ⟨_, I2.ex.seq ha⟩, p1 B2 H1 _ s2 I2 (wk_list ha (isA_ints ns))⟩
    | _ => rw [e] at p1; exact p1.elim)
theorem di_tup (h : DE K W te f) : DI K W (iTup K te) (iTupD f) := fun ks σ0 Fm B H σ ρ Q I p =>
  h ks σ0 Fm B H σ ρ _ I (PtG.step p fun rv ρ1 B1 H1 v s I1 v1 p1 => by
    obtain ⟨B2, s2, I2, i2⟩ := freeze I1 v1
    cases e : rv.d with
    | tup ds =>
      rw [e] at p1 i2
      obtain ⟨a, xs, rfl, ha, kk⟩ := i2.tupV
      exact ⟨a, rfl, ⟨xs, .inl (.inl (I2.ex _ _ ha))⟩, p1 B2 H1 _ s2 I2 (wk_tup (.inl (.inl ha)) kk)⟩
    | _ => rw [e] at p1; exact p1.elim)
theorem arg1 {σ : L2.St} {B H : Hp} {ρ : Env} {vs : List V} {d : D} (h : ArgIs K σ B H ρ vs [.im d]) : ∃ v, vs = [v] ∧ Is K B v d := by
  cases h with
  | cons a b =>
    cases b
    exact ⟨_, rfl, a⟩
theorem arg2 {σ : L2.St} {B H : Hp} {ρ : Env} {vs : List V} {d e : D} (h : ArgIs K σ B H ρ vs [.im d, .im e]) : ∃ v w, vs = [v, w] ∧ Is K B v d ∧ Is K B w e := by
  cases h with
  | cons a b =>
    obtain ⟨w, rfl, h⟩ := arg1 (σ := σ) (B := B) (H := H) (ρ := ρ) b
    exact ⟨_, _, rfl, a, h⟩
theorem di_rng1 (h : DA K W tr fr) : DI K W (iRng1 tr) (iRng1D fr) := fun ks σ0 Fm B H σ ρ Q I p =>
  h ks σ0 Fm B H σ ρ _ I (PtG.step p fun as ρ1 B1 H1 vs s I1 v1 p1 => by
    split at p1
    · rename_i j
      obtain ⟨v, rfl, hv⟩ := arg1 v1
      by_cases hl : -(2 ^ 60) < j ∧ j < 2 ^ 60
      · rw [if_pos hl] at p1
        exact ⟨j, by rw [hv.intV], by omega, by omega, p1 B1 H1 _ (Same.refl B1) I1 wk_rng⟩
      · rw [if_neg hl] at p1
        exact p1.elim
    · exact p1.elim)
theorem di_rng2 (h : DA K W tr fr) : DI K W (iRng2 tr) (iRng2D fr) := fun ks σ0 Fm B H σ ρ Q I p =>
  h ks σ0 Fm B H σ ρ _ I (PtG.step p fun as ρ1 B1 H1 vs s I1 v1 p1 => by
    split at p1
    · rename_i i j
      obtain ⟨v, w, rfl, hv, hw⟩ := arg2 v1
      by_cases hl : (-(2 ^ 60) < i ∧ i < 2 ^ 60) ∧ -(2 ^ 60) < j ∧ j < 2 ^ 60
      · rw [if_pos hl] at p1
        exact ⟨i, j, by rw [hv.intV, hw.intV], by omega, p1 B1 H1 _ (Same.refl B1) I1 wk_rng⟩
      · rw [if_neg hl] at p1
        exact p1.elim
    · exact p1.elim)
theorem di_zip (h : DA K W tr fr) : DI K W (iZip K tr) (iZipD fr) := fun ks σ0 Fm B H σ ρ Q I p =>
  h ks σ0 Fm B H σ ρ _ I (PtG.step p fun as ρ1 B1 H1 vs s I1 v1 p1 => by
    split at p1
    · obtain ⟨v, w, rfl, hv, hw⟩ := arg2 v1
      obtain ⟨a, xs, rfl, ha, kk⟩ := hv.lstV
      obtain ⟨b, ys, rfl, hb, kk'⟩ := hw.lstV
      exact ⟨a, b, xs, ys, rfl, .inl (.inl (I1.ex _ _ ha)), .inl (.inl (I1.ex _ _ hb)), p1 B1 H1 _ (Same.refl B1) I1 (wk_zip (.inl (.inl ha)) (.inl (.inl hb)) kk kk')⟩
    · exact p1.elim)

/-! ### for -/
theorem ds_for {wi : TI} {fi : Env → R (List D)} {js : List Nat} {gt : TG} {tg : Tg} (hi : DI K W wi fi) (hg : DTg K ks js gt tg) (hb : DS K W ks t g) : DS K W ks (tFor wi gt t) (sFor fi tg g) := fun σ0 Fm B H σ ρ E I p =>
  hi ks σ0 Fm B H σ ρ _ I (PtS.step p fun items ρ1 B1 H1 J s I1 v1 p1 => by
    refine ⟨fun i m σ' H' => m = items.length - i ∧ i ≤ items.length ∧ ∃ B' ρ', Same B1 B' ∧ IV K ks σ0 Fm B' H' σ' ρ' ∧ PtS K ks σ0 Fm W B1 E (dFor (stepOf tg g) (items.drop i) ρ'),
      ⟨items.length, by simp, Nat.zero_le _, B1, ρ1, Same.refl B1, I1, p1⟩, ?_⟩
    rintro i m σ' H' ⟨rfl, hi', B', ρ', s', I', p'⟩
    obtain ⟨hgo, hstop⟩ := v1 ks σ0 Fm B' H' σ' ρ' i s' I'
    by_cases hlt : i < items.length
    · obtain ⟨go, yl⟩ := hgo hlt
      refine .inr ⟨go, fun σ2 H2 => ∃ B2 ρ2, Same B1 B2 ∧ IV K ks σ0 Fm B2 H2 σ2 ρ2 ∧ PtS K ks σ0 Fm W B1 E (dFor (stepOf tg g) (items.drop (i + 1)) ρ2),
        fun σ2 H2 ⟨B2, ρ2, a, b, c⟩ => ⟨items.length - (i + 1), by omega, rfl, hlt, B2, ρ2, a, b, c⟩, fun x H2 y => ?_⟩
      obtain ⟨B2, d, hd, s2, _, I2, i2⟩ := yl x H2 y
      have ed : items.drop i = d :: items.drop (i + 1) := by
        rw [List.drop_eq_getElem_cons hlt]
        rw [List.getElem?_eq_getElem hlt] at hd
        rw [Option.some.inj hd]
      rw [ed] at p'
      have p2 : PtS K ks σ0 Fm W B1 E (match stepOf tg g d ρ' with
        | .nx ρ' => dFor (stepOf tg g) (items.drop (i + 1)) ρ'
        | .ct ρ' => dFor (stepOf tg g) (items.drop (i + 1)) ρ'
        | .brk ρ' => .nx ρ'
        | o => o) := p'
      cases e : tg d ρ' with
      | none =>
        rw [show stepOf tg g d ρ' = .bad by unfold stepOf; rw [e]] at p2
        exact p2.elim
      | some ρ3 =>
        rw [show stepOf tg g d ρ' = g ρ3 by unfold stepOf; rw [e]] at p2
        refine hg σ0 Fm B2 H2 σ' ρ' x d ρ3 _ I2 i2 e fun σ3 I3 _ => ?_
        refine hb σ0 Fm B2 H2 σ3 ρ3 _ I3 ?_
        have s3 : Same B1 B2 := s'.trans s2
        cases eg : g ρ3 with
        | nx ρ4 =>
          rw [eg] at p2
          exact fun B4 H4 σ4 s4 I4 => ⟨B4, ρ4, s3.trans s4, I4, p2⟩
        | ct ρ4 =>
          rw [eg] at p2
          exact fun B4 H4 σ4 s4 I4 => ⟨B4, ρ4, s3.trans s4, I4, p2⟩
        | brk ρ4 =>
          rw [eg] at p2
          exact fun B4 H4 σ4 s4 I4 => p2 B4 H4 σ4 (s3.trans s4) I4
        | ret rv ρ4 =>
          rw [eg] at p2
          exact fun B4 H4 σ4 v s4 I4 x4 => p2 B4 H4 σ4 v (s3.trans s4) I4 x4
        | exc C dd ρ4 =>
          rw [eg] at p2
          exact fun B4 H4 σ4 dx s4 I4 x4 => p2 B4 H4 σ4 dx (s3.trans s4) I4 x4
        | bad =>
          rw [eg] at p2
          exact p2.elim
    · have e : i = items.length := by omega
      subst e
      rw [List.drop_length] at p'
      exact .inl ⟨hstop (Nat.le_refl _), p' B' H' σ' s' I'⟩)
end
end DL

/-! DL, part e: comprehensions, calls, defs. -/
namespace DL
open PySem PySem.Spec PyProof.Rows L2

/-! ### comprehensions -/
def isOwn : Option Sl → Bool
  | some (.own _) => true
  | _ => false
def okW (vs : List Nat) (ρ : Env) : Bool := vs.all fun i => !isOwn ρ[i]?
def wipeE (ρ : Env) : List Nat → Env
  | [] => ρ
  | v :: vs => (wipeE ρ vs).set v .no
def restore (ρ : Env) : List Nat → Env → Env
  | [], ρ' => ρ'
  | v :: vs, ρ' => (restore ρ vs ρ').set v (ρ.getD v .no)
def dComp (vs : List Nat) (tg : Tg) (ft : Env → R Bool) (fe : Env → R Rv) : List D → List D → Env → R (List D)
  | acc, [], ρ => .ok acc ρ
  | acc, d :: ds, ρ =>
    match tg d (wipeE ρ vs) with
    | none => .bad
    | some ρ2 => ((ft ρ2).nx).bind fun b ρ3 => if b = true then ((fe ρ3).nx).bind fun rv ρ4 => if acc.length < 100000 then dComp vs tg ft fe (acc ++ [rv.d]) ds (restore ρ vs ρ4) else .bad
      else dComp vs tg ft fe acc ds (restore ρ vs ρ3)
def eComp (vs : List Nat) (fi : Env → R (List D)) (tg : Tg) (ft : Env → R Bool) (fe : Env → R Rv) : Env → R Rv := fun ρ => (fi ρ).bind fun items ρ => cond (okW vs ρ) ((dComp vs tg ft fe [] items ρ).bind fun acc ρ => .ok (.own acc) ρ) .bad
def tYesD : Env → R Bool := fun ρ => .ok true ρ
abbrev W0 : WX := fun _ _ _ _ => False
section
variable {K : PySem.W.Frag} {W : WX} {ks : List Nat} {σ0 : L2.St} {Fm B H : Hp} {σ : L2.St} {ρ : Env}
theorem okW_get {vs : List Nat} (h : okW vs ρ = true) {i : Nat} (hi : i ∈ vs) {ds : List D} (e : ρ[i]? = some (.own ds)) : False := by
  have h1 := List.all_eq_true.mp h i hi
  rw [e] at h1
  exact Bool.noConfusion (show false = true from h1)
theorem wipeE_len : ∀ {vs : List Nat}, (wipeE ρ vs).length = ρ.length
  | [] => rfl
  | v :: vs => by
    show ((wipeE ρ vs).set v .no).length = _
    rw [List.length_set, wipeE_len]
theorem wipeE_get : ∀ {vs : List Nat} (i : Nat), (wipeE ρ vs)[i]? = if i ∈ vs then (if i < ρ.length then some .no else none) else ρ[i]?
  | [], i => by
    rw [if_neg (by simp)]
    rfl
  | v :: vs, i => by
    show ((wipeE ρ vs).set v .no)[i]? = _
    by_cases h : v = i
    · subst h
      rw [if_pos (by simp)]
      by_cases hl : v < ρ.length
      · rw [if_pos hl, List.getElem?_set_self (by rw [wipeE_len]; exact hl)]
      · rw [if_neg hl, List.getElem?_eq_none (by rw [List.length_set, wipeE_len]; omega)]
    · rw [List.getElem?_set_ne h, wipeE_get (vs := vs) i]
      have e : (i ∈ v :: vs) = (i ∈ vs) := by
        rw [List.mem_cons]
        exact propext ⟨fun z => z.elim (fun q => absurd q.symm h) id, .inr⟩
      simp only [e]
theorem restore_len {ρ' : Env} : ∀ {vs : List Nat}, (restore ρ vs ρ').length = ρ'.length
  | [] => rfl
  | v :: vs => by
    show ((restore ρ vs ρ').set v _).length = _
    rw [List.length_set, restore_len]
theorem restore_get {ρ' : Env} : ∀ {vs : List Nat} (i : Nat), (restore ρ vs ρ')[i]? = if i ∈ vs then (if i < ρ'.length then some (ρ.getD i .no) else none) else ρ'[i]?
  | [], i => by
    rw [if_neg (by simp)]
    rfl
  | v :: vs, i => by
    show ((restore ρ vs ρ').set v (ρ.getD v .no))[i]? = _
    by_cases h : v = i
    · subst h
      rw [if_pos (by simp)]
      by_cases hl : v < ρ'.length
      · rw [if_pos hl, List.getElem?_set_self (by rw [restore_len]; exact hl)]
      · rw [if_neg hl, List.getElem?_eq_none (by rw [List.length_set, restore_len]; omega)]
    · rw [List.getElem?_set_ne h, restore_get (vs := vs) i]
      have e : (i ∈ v :: vs) = (i ∈ vs) := by
        rw [List.mem_cons]
        exact propext ⟨fun z => z.elim (fun q => absurd q.symm h) id, .inr⟩
      simp only [e]
theorem getD_of {i : Nat} {x : Sl} (h : ρ.getD i .no = x) (hl : i < ρ.length) : ρ[i]? = some x := by
  rw [List.getD_eq_getElem?_getD] at h
  rw [List.getElem?_eq_getElem hl] at h ⊢
  exact congrArg some h
theorem okW_restore {vs : List Nat} {ρ' : Env} (h : okW vs ρ = true) : okW vs (restore ρ vs ρ') = true := by
  refine List.all_eq_true.mpr fun i hi => ?_
  rw [restore_get, if_pos hi]
  by_cases hl : i < ρ'.length
  · rw [if_pos hl]
    have h1 := List.all_eq_true.mp h i hi
    rw [List.getD_eq_getElem?_getD]
    cases e : ρ[i]? with
    | none => rfl
    | some x =>
      rw [e] at h1
      exact h1
  · rw [if_neg hl]
    rfl
theorem IV.wiped (I : IV K ks σ0 Fm B H σ ρ) (vs : List Nat) : IV K [] σ0 Fm B H (wipe σ vs) (wipeE ρ vs) := by
  have sub : ∀ {i : Nat} {x : Sl}, x ≠ .no → (wipeE ρ vs)[i]? = some x → i ∉ vs ∧ ρ[i]? = some x := fun {i x} hx h => by
    rw [wipeE_get] at h
    by_cases hi : i ∈ vs
    · rw [if_pos hi] at h
      by_cases hl : i < ρ.length
      · rw [if_pos hl] at h
        exact absurd (Option.some.inj h).symm hx
      · rw [if_neg hl] at h
        cases h
    · rw [if_neg hi] at h
      exact ⟨hi, h⟩
  refine ⟨I.ex, I.fr, I.fb, by rw [wipe_length, wipeE_len]; exact I.len, fun i d h => ?_, fun i ds h => ?_, fun i j ds es a hij h1 h2 h3 h4 => ?_, fun j hj => by cases hj⟩
  · obtain ⟨hi, h⟩ := sub (by intro z; cases z) h
    rw [wipe_get, if_neg hi]
    exact I.im i d h
  · obtain ⟨hi, h⟩ := sub (by intro z; cases z) h
    rw [wipe_get, if_neg hi]
    exact I.own i ds h
  · obtain ⟨hi, h1⟩ := sub (by intro z; cases z) h1
    obtain ⟨hj, h2⟩ := sub (by intro z; cases z) h2
    rw [wipe_get, if_neg hi] at h3
    rw [wipe_get, if_neg hj] at h4
    exact I.dj i j ds es a hij h1 h2 h3 h4
theorem IV.restored {vs : List Nat} {B4 H4 : Hp} {σ2 : L2.St} {ρ4 : Env} (I : IV K ks σ0 Fm B H σ ρ) (hw : okW vs ρ = true) (s : Same B B4) (I4 : IV K [] σ0 Fm B4 H4 σ2 ρ4) (e : wipe σ2 vs = wipe σ vs) : IV K ks σ0 Fm B4 H4 σ (restore ρ vs ρ4) := by
  have el : σ2.length = σ.length := by
    have := congrArg List.length e
    rwa [wipe_length, wipe_length] at this
  have elr : ρ4.length = ρ.length := by rw [← I4.len, el, I.len]
  have same : ∀ {i : Nat}, i ∉ vs → σ2[i]? = σ[i]? := fun {i} hi => by
    have := congrArg (fun l => l[i]?) e
    simp only [wipe_get, if_neg hi] at this
    exact this
  have own_out : ∀ {i : Nat} {ds : List D}, (restore ρ vs ρ4)[i]? = some (.own ds) → i ∉ vs ∧ ρ4[i]? = some (.own ds) := fun {i ds} h => by
    rw [restore_get] at h
    by_cases hi : i ∈ vs
    · rw [if_pos hi] at h
      by_cases hl : i < ρ4.length
      · rw [if_pos hl] at h
        exact (okW_get hw hi (getD_of (Option.some.inj h) (by omega))).elim
      · rw [if_neg hl] at h
        cases h
    · rw [if_neg hi] at h
      exact ⟨hi, h⟩
  refine ⟨I4.ex, I4.fr, I4.fb, by rw [restore_len, elr, I.len], fun i d h => ?_, fun i ds h => ?_, fun i j ds es a hij h1 h2 h3 h4 => ?_, I.pin⟩
  · rw [restore_get] at h
    by_cases hi : i ∈ vs
    · rw [if_pos hi] at h
      by_cases hl : i < ρ4.length
      · rw [if_pos hl] at h
        obtain ⟨v, h1, h2⟩ := I.im i d (getD_of (Option.some.inj h) (by omega))
        exact ⟨v, h1, h2.mono s⟩
      · rw [if_neg hl] at h
        cases h
    · rw [if_neg hi] at h
      rw [← same hi]
      exact I4.im i d h
  · obtain ⟨hi, h⟩ := own_out h
    rw [← same hi]
    exact I4.own i ds h
  · obtain ⟨hi, h1⟩ := own_out h1
    obtain ⟨hj, h2⟩ := own_out h2
    rw [← same hi] at h3
    rw [← same hj] at h4
    exact I4.dj i j ds es a hij h1 h2 h3 h4
/-- an object that nothing knows may be held fast, and let go -/
theorem IV.lock {p : Addr} {o : HO} (I : IV K ks σ0 Fm B H σ ρ) (h : H p = some o) (hB : B p = none) (hF : Fm p = none) (hn : ∀ (i : Nat) es, ρ[i]? = some (.own es) → σ[i]? ≠ some (some (.ref p))) : IV K ks σ0 (upd Fm p o) B H σ ρ := by
  refine ⟨I.ex, fun b u e => ?_, fun b u e => ?_, I.len, I.im, fun i ds e => ?_, I.dj, I.pin⟩
  · by_cases hb : b = p
    · subst hb
      rw [upd_same] at e
      rw [h, e]
    · rw [upd_ne hb] at e
      exact I.fr b u e
  · by_cases hb : b = p
    · subst hb
      exact hB
    · rw [upd_ne hb] at e
      exact I.fb b u e
  · obtain ⟨a, xs, h1, h2, h3, h4, h5⟩ := I.own i ds e
    have hne : a ≠ p := fun z => hn i ds e (by rw [h1, z])
    exact ⟨a, xs, h1, h2, h3, by rw [upd_ne hne]; exact h4, h5⟩
theorem IV.unlock {p : Addr} {o : HO} (I : IV K ks σ0 (upd Fm p o) B H σ ρ) (hF : Fm p = none) : IV K ks σ0 Fm B H σ ρ ∧ H p = some o ∧ B p = none ∧ ∀ (i : Nat) es, ρ[i]? = some (.own es) → σ[i]? ≠ some (some (.ref p)) := by
  refine ⟨⟨I.ex, fun b u e => I.fr b u ?_, fun b u e => I.fb b u ?_, I.len, I.im, fun i ds e => ?_, I.dj, I.pin⟩, I.fr p o upd_same, I.fb p o upd_same, fun i es e z => ?_⟩
  · rw [upd_ne (ne_of_none e hF)]
    exact e
  · rw [upd_ne (ne_of_none e hF)]
    exact e
  · obtain ⟨a, xs, h1, h2, h3, h4, h5⟩ := I.own i ds e
    have hne : a ≠ p := fun z => by
      subst z
      rw [upd_same] at h4
      cases h4
    rw [upd_ne hne] at h4
    exact ⟨a, xs, h1, h2, h3, h4, h5⟩
  · obtain ⟨a, xs, h1, h2, h3, h4, h5⟩ := I.own i es e
    rw [z] at h1
    cases h1
    rw [upd_same] at h4
    cases h4
theorem IV.updFree {p : Addr} {o : HO} (I : IV K ks σ0 Fm B H σ ρ) (hB : B p = none) (hF : Fm p = none) (hn : ∀ (i : Nat) es, ρ[i]? = some (.own es) → σ[i]? ≠ some (some (.ref p))) : IV K ks σ0 Fm B (upd H p o) σ ρ := by
  refine ⟨fun b u e => ?_, fun b u e => ?_, I.fb, I.len, I.im, fun i ds e => ?_, I.dj, I.pin⟩
  · rw [upd_ne (ne_of_none e hB)]
    exact I.ex b u e
  · rw [upd_ne (ne_of_none e hF)]
    exact I.fr b u e
  · obtain ⟨a, xs, h1, h2, h3, h4, h5⟩ := I.own i ds e
    have hne : a ≠ p := fun z => hn i ds e (by rw [h1, z])
    exact ⟨a, xs, h1, by rw [upd_ne hne]; exact h2, h3, h4, h5⟩
theorem nx_step {α β γ δ : Type} {vis : Hp → Hp → Env → β → α → Prop} {vis2 : Hp → Hp → Env → δ → γ → Prop} {ks2 : List Nat} {Fm2 B2 : Hp} {σ2 : L2.St} {Q : δ → Hp → Prop} {Q1 : β → Hp → Prop} {r : R α} {k : α → Env → R γ}
    (h : PtG K ks σ0 Fm W vis2 B σ Q ((r.nx).bind k))
    (go : ∀ a ρ1 B1 H1 b, Same B2 B1 → IV K ks2 σ0 Fm2 B1 H1 σ2 ρ1 → vis B1 H1 ρ1 b a → PtG K ks σ0 Fm W vis2 B σ Q (k a ρ1) → Q1 b H1) : PtG K ks2 σ0 Fm2 W0 vis B2 σ2 Q1 r := by
  cases r with
  | ok a ρ1 => exact fun B1 H1 b s i v => go a ρ1 B1 H1 b s i v h
  | exc C d ρ' => exact h.elim
  | bad => exact h.elim
theorem PtG.ends {α β γ : Type} {vis : Hp → Hp → Env → β → γ → Prop} {Q : β → Hp → Prop} {r : R α} {k : α → Env → R γ} (h : PtG K ks σ0 Fm W vis B σ Q (r.bind k)) (e : r = .bad) : False := by
  rw [e] at h
  exact h
theorem de_comp {wi : TI} {fi : Env → R (List D)} {js vs : List Nat} {gt : TG} {tg : Tg} {tt : TT} {ft : Env → R Bool} {te : TE} {fe : Env → R Rv} (hi : DI K W wi fi) (hg : DTg K [] js gt tg) (hj : ∀ j ∈ js, j ∈ vs) (ht : DT K W0 tt ft) (he : DE K W0 te fe) :
    DE K W (tLc wi gt tt te vs) (eComp vs fi tg ft fe) := fun ks σ0 Fm B H σ ρ Q I p =>
  hi ks σ0 Fm B H σ ρ _ I (PtG.step p fun items ρ1 B1 H1 J s I1 v1 p1 => by
    have p1 : PtG K ks σ0 Fm W (vE K Fm σ) B1 σ Q (cond (okW vs ρ1) ((dComp vs tg ft fe [] items ρ1).bind fun acc ρ => .ok (.own acc) ρ) .bad) := p1
    cases hw : okW vs ρ1 with
    | false =>
      rw [hw] at p1
      exact p1.elim
    | true =>
    rw [hw] at p1
    intro Dl hDl
    have hB1 : B1 Dl = none := I1.ex.free hDl
    have hF : Fm Dl = none := I1.fr.free hDl
    have hn1 : ∀ (i : Nat) es, ρ1[i]? = some (.own es) → σ[i]? ≠ some (some (.ref Dl)) := fun i es e z => by
      obtain ⟨b, ys, g1, g2, _⟩ := I1.own i es e
      rw [z] at g1
      cases g1
      rw [hDl] at g2
      cases g2
    refine ⟨fun i m H' => m = items.length - i ∧ i ≤ items.length ∧ ∃ B' ρ' accV acc, Same B1 B' ∧ IV K ks σ0 Fm B' H' σ ρ' ∧ okW vs ρ' = true ∧ H' Dl = some (.lst accV) ∧ B' Dl = none ∧
        (∀ (i : Nat) es, ρ'[i]? = some (.own es) → σ[i]? ≠ some (some (.ref Dl))) ∧ IsA K B' accV acc ∧ PtG K ks σ0 Fm W (vE K Fm σ) B1 σ Q ((dComp vs tg ft fe acc (items.drop i) ρ').bind fun acc ρ => .ok (.own acc) ρ),
      ⟨items.length, by simp, Nat.zero_le _, B1, ρ1, [], [], Same.refl B1, I1.made hDl, hw, upd_same, hB1, hn1, .nil, p1⟩, ?_⟩
    rintro i m H' ⟨rfl, hi', B', ρ', accV, acc, s', I', hw', hD', hB', hn', hA', p'⟩
    have IL := I'.lock hD' hB' hF hn'
    obtain ⟨hgo, hstop⟩ := v1 ks σ0 _ B' H' σ ρ' i s' IL
    by_cases hlt : i < items.length
    · obtain ⟨go, yl⟩ := hgo hlt
      refine .inr ⟨go, fun H2 => ∃ B2 ρ2 accV acc, Same B1 B2 ∧ IV K ks σ0 Fm B2 H2 σ ρ2 ∧ okW vs ρ2 = true ∧ H2 Dl = some (.lst accV) ∧ B2 Dl = none ∧
        (∀ (i : Nat) es, ρ2[i]? = some (.own es) → σ[i]? ≠ some (some (.ref Dl))) ∧ IsA K B2 accV acc ∧ PtG K ks σ0 Fm W (vE K Fm σ) B1 σ Q ((dComp vs tg ft fe acc (items.drop (i + 1)) ρ2).bind fun acc ρ => .ok (.own acc) ρ),
        fun H2 h2 => ⟨items.length - (i + 1), by omega, rfl, hlt, h2⟩, fun x H2 y => ?_⟩
      obtain ⟨B2, d, hd, s2, _, I2, i2⟩ := yl x H2 y
      have ed : items.drop i = d :: items.drop (i + 1) := by
        rw [List.drop_eq_getElem_cons hlt]
        rw [List.getElem?_eq_getElem hlt] at hd
        rw [Option.some.inj hd]
      rw [ed] at p'
      cases e : tg d (wipeE ρ' vs) with
      | none =>
        refine (PtG.ends p' ?_).elim
        rw [dComp, e]
      | some ρ3 =>
        have p2 : PtG K ks σ0 Fm W (vE K Fm σ) B1 σ Q ((((ft ρ3).nx).bind fun b ρ3 => if b = true then ((fe ρ3).nx).bind fun rv ρ4 => if acc.length < 100000 then dComp vs tg ft fe (acc ++ [rv.d]) (items.drop (i + 1)) (restore ρ' vs ρ4) else .bad
            else dComp vs tg ft fe acc (items.drop (i + 1)) (restore ρ' vs ρ3)).bind fun acc ρ => .ok (.own acc) ρ) := by
          rw [dComp, e] at p'
          exact p'
        refine hg σ0 _ B2 H2 (wipe σ vs) (wipeE ρ' vs) x d ρ3 _ (I2.wiped vs) i2 e fun σ3 I3 w3 => ?_
        have ew : wipe σ3 vs = wipe σ vs := by
          rw [w3 vs hj]
          refine List.ext_getElem? fun j => ?_
          rw [wipe_get, wipe_get, wipe_length]
          by_cases hjv : j ∈ vs
          · rw [if_pos hjv, if_pos hjv]
          · rw [if_neg hjv, if_neg hjv]
        refine ⟨ew, ?_⟩
        have as1 : ∀ {α : Type} {r : R α} {k1 : α → Env → R (List D)} {k2 : List D → Env → R Rv}, ((r.bind k1).bind k2) = r.bind fun a ρ => (k1 a ρ).bind k2 := fun {α r k1 k2} => by cases r <;> rfl
        rw [as1] at p2
        refine ht [] σ0 _ B2 H2 σ3 ρ3 _ I3 (nx_step p2 fun b ρ4 B4 H4 b' s4 I4 v4 p4 => ?_)
        cases (show b' = b from v4)
        cases b with
        | false =>
          show ∃ B2 ρ2 accV acc, _
          obtain ⟨I5, g1, g2, g3⟩ := (IV.restored I2 hw' s4 I4 ew).unlock hF
          exact ⟨B4, restore ρ' vs ρ4, accV, acc, (s'.trans s2).trans s4, I5, okW_restore hw', g1, g2, g3, hA'.mono (s2.trans s4), p4⟩
        | true =>
          have p5 : PtG K ks σ0 Fm W (vE K Fm σ) B1 σ Q ((((fe ρ4).nx).bind fun rv ρ4 => if acc.length < 100000 then dComp vs tg ft fe (acc ++ [rv.d]) (items.drop (i + 1)) (restore ρ' vs ρ4) else .bad).bind fun acc ρ => .ok (.own acc) ρ) := p4
          rw [as1] at p5
          show te σ3 H4 _
          refine he [] σ0 _ B4 H4 σ3 ρ4 _ I4 (nx_step p5 fun rv ρ6 B6 H6 v s6 I6 v6 p6 => ?_)
          obtain ⟨B7, s7, I7, i7⟩ := freeze I6 v6
          obtain ⟨I8, g1, g2, g3⟩ := (IV.restored I2 hw' ((s4.trans s6).trans s7) I7 ew).unlock hF
          by_cases hl : acc.length < 100000
          · rw [if_pos hl] at p6
            have sA : Same B' B7 := ((s2.trans s4).trans s6).trans s7
            exact ⟨accV, g1, by rw [hA'.len]; exact sz_lt hl, B7, restore ρ' vs ρ6, accV ++ [v], acc ++ [rv.d], s'.trans sA, I8.updFree g2 hF g3, okW_restore hw', upd_same, g2, g3, (hA'.mono sA).app (.cons i7 .nil), p6⟩
          · rw [if_neg hl] at p6
            exact p6.elim
    · have e : i = items.length := by omega
      subst e
      rw [List.drop_length] at p'
      refine .inl ⟨hstop (Nat.le_refl _), ?_⟩
      exact p' B' H' (.ref Dl) s' I' ⟨Dl, accV, rfl, hD', hB', hF, hA', hn'⟩)
theorem dt_yes : DT K W tYes tYesD := fun ks σ0 Fm B H σ ρ Q I p => p B H true (Same.refl B) I rfl
end
end DL

/-! DL, part f: calls and defs. -/
namespace DL
open PySem PySem.Spec PyProof.Rows L2

/-- the arguments as a callee's first frame -/
def argsOf (ρ : Env) : List Av → Option Env
  | [] => some []
  | .im d :: r => (argsOf ρ r).map (Sl.im d :: ·)
  | .sl i :: r =>
    match ρ[i]? with
    | some (.own ds) => (argsOf ρ r).map (Sl.own ds :: ·)
    | _ => none
def slots : List Av → List Nat
  | [] => []
  | .im _ :: r => slots r
  | .sl i :: r => i :: slots r
def putBack : List Av → Env → Env → Env
  | .sl i :: avs, a :: as, ρ => putBack avs as (ρ.set i a)
  | .im _ :: avs, _ :: as, ρ => putBack avs as ρ
  | _, _, ρ => ρ
def backTo1 (avs : List Av) (ρ : Env) (r : R Rv) : R Rv :=
  match r with
  | .ok rv as' => .ok rv (putBack avs as' ρ)
  | .exc C d as' => .exc C d (putBack avs as' ρ)
  | .bad => .bad
def doCall (n : Nat) (F : Env → R Rv) (avs : List Av) (ρ : Env) : R Rv :=
  if avs.length = n ∧ (slots avs).Nodup then
    match argsOf ρ avs with
    | some as => backTo1 avs ρ (F as)
    | none => .bad
  else .bad
def eCall (n : Nat) (F : Env → R Rv) (fa : Env → R (List Av)) : Env → R Rv := fun ρ => (fa ρ).bind fun avs ρ => doCall n F avs ρ
/-- a call from which nothing may leave -/
def eCall0 (n : Nat) (F : Env → R Rv) (fa : Env → R (List Av)) : Env → R Rv := fun ρ => (fa ρ).bind fun avs ρ => (doCall n F avs ρ).nx
/-- a promise: the data function -/
def spD (K : PySem.W.Frag) (n : Nat) (F : Env → R Rv) : Sp := fun vs H Q E => vs.length = n ∧ ∃ Fm B as, IV K [] [] Fm B H (vs.map some) as ∧ (∀ a ∈ as, a ≠ .no) ∧
  PtG K [] [] Fm (fun c d _ H' => E c d H') (vE K Fm (vs.map some)) B (vs.map some) Q (F as)

section
variable {K : PySem.W.Frag} {W : WX} {ks : List Nat} {σ0 : L2.St} {Fm B H : Hp} {σ : L2.St} {ρ : Env}
theorem pb_out : ∀ {avs : List Av} {as ρ : Env} {j : Nat}, j ∉ slots avs → (putBack avs as ρ)[j]? = ρ[j]?
  | [], _, _, _, _ => rfl
  | .im _ :: avs, [], _, _, _ => rfl
  | .sl _ :: avs, [], _, _, _ => rfl
  | .im d :: avs, a :: as, ρ, j, h => pb_out (avs := avs) (as := as) (ρ := ρ) h
  | .sl i :: avs, a :: as, ρ, j, h => by
    show (putBack avs as (ρ.set i a))[j]? = _
    have h1 : i ≠ j := fun z => h (by rw [z]; exact List.mem_cons_self)
    rw [pb_out (avs := avs) fun z => h (List.mem_cons_of_mem _ z), List.getElem?_set_ne h1]
theorem pb_in : ∀ {avs : List Av} {as ρ : Env} {p j : Nat} {a : Sl}, (slots avs).Nodup → avs[p]? = some (.sl j) → as[p]? = some a → j < ρ.length → (putBack avs as ρ)[j]? = some a
  | [], _, _, _, _, _, _, h, _, _ => by simp at h
  | _ :: _, [], _, _, _, _, _, _, h, _ => by simp at h
  | .im d :: avs, b :: as, ρ, 0, j, a, n, h, h2, hl => by simp at h
  | .im d :: avs, b :: as, ρ, p + 1, j, a, n, h, h2, hl => pb_in (avs := avs) (as := as) (ρ := ρ) (p := p) n (by simpa using h) (by simpa using h2) hl
  | .sl i :: avs, b :: as, ρ, 0, j, a, n, h, h2, hl => by
    have e1 : i = j := by
      simp at h
      exact h
    have e2 : b = a := by
      simp at h2
      exact h2
    subst e1 e2
    show (putBack avs as (ρ.set i b))[i]? = _
    rw [pb_out (List.nodup_cons.mp n).1, List.getElem?_set_self hl]
  | .sl i :: avs, b :: as, ρ, p + 1, j, a, n, h, h2, hl =>
    pb_in (avs := avs) (as := as) (ρ := ρ.set i b) (p := p) (List.nodup_cons.mp n).2 (by simpa using h) (by simpa using h2) (by rw [List.length_set]; exact hl)
theorem pb_len : ∀ {avs : List Av} {as ρ : Env}, (putBack avs as ρ).length = ρ.length
  | [], _, _ => rfl
  | .im _ :: avs, [], _ => rfl
  | .sl _ :: avs, [], _ => rfl
  | .im d :: avs, a :: as, ρ => pb_len (avs := avs)
  | .sl i :: avs, a :: as, ρ => by
    show (putBack avs as (ρ.set i a)).length = _
    rw [pb_len, List.length_set]
theorem slots_at : ∀ {avs : List Av} {j : Nat}, j ∈ slots avs → ∃ p : Nat, avs[p]? = some (Av.sl j)
  | [], _, h => by cases h
  | .im d :: avs, j, h => by
    obtain ⟨p, e⟩ := slots_at (avs := avs) h
    exact ⟨p + 1, by simpa using e⟩
  | .sl i :: avs, j, h => by
    rcases List.mem_cons.mp h with e | h
    · exact ⟨0, by rw [e]; rfl⟩
    · obtain ⟨p, e⟩ := slots_at (avs := avs) h
      exact ⟨p + 1, by simpa using e⟩
theorem at_slots : ∀ {avs : List Av} {p j : Nat}, avs[p]? = some (.sl j) → j ∈ slots avs
  | [], _, _, h => by simp at h
  | .im d :: avs, 0, j, h => by simp at h
  | .im d :: avs, p + 1, j, h => at_slots (avs := avs) (p := p) (by simpa using h)
  | .sl i :: avs, 0, j, h => by
    simp at h
    rw [h]
    exact List.mem_cons_self
  | .sl i :: avs, p + 1, j, h => List.mem_cons_of_mem _ (at_slots (avs := avs) (p := p) (by simpa using h))
theorem slots_inj : ∀ {avs : List Av} {p q j : Nat}, (slots avs).Nodup → avs[p]? = some (.sl j) → avs[q]? = some (.sl j) → p = q
  | [], _, _, _, _, h, _ => by simp at h
  | .im d :: avs, 0, _, _, _, h, _ => by simp at h
  | .im d :: avs, _ + 1, 0, _, _, _, h => by simp at h
  | .im d :: avs, p + 1, q + 1, j, n, h, h2 => congrArg (· + 1) (slots_inj (avs := avs) n (by simpa using h) (by simpa using h2))
  | .sl i :: avs, 0, 0, _, _, _, _ => rfl
  | .sl i :: avs, 0, q + 1, j, n, h, h2 => by
    simp at h
    subst h
    exact ((List.nodup_cons.mp n).1 (at_slots (avs := avs) (p := q) (by simpa using h2))).elim
  | .sl i :: avs, p + 1, 0, j, n, h, h2 => by
    simp at h2
    subst h2
    exact ((List.nodup_cons.mp n).1 (at_slots (avs := avs) (p := p) (by simpa using h))).elim
  | .sl i :: avs, p + 1, q + 1, j, n, h, h2 => congrArg (· + 1) (slots_inj (avs := avs) (List.nodup_cons.mp n).2 (by simpa using h) (by simpa using h2))
theorem args_im : ∀ {avs : List Av} {as : Env} {p : Nat} {d : D}, argsOf ρ avs = some as → as[p]? = some (.im d) → avs[p]? = some (.im d)
  | [], _, _, _, e, h => by
    cases e
    simp at h
  | .im c :: avs, as, p, d, e, h => by
    rw [show argsOf ρ (.im c :: avs) = (argsOf ρ avs).map (Sl.im c :: ·) from rfl] at e
    cases q : argsOf ρ avs with
    | none => rw [q] at e; cases e
    | some bs =>
      rw [q] at e
      cases e
      cases p with
      | zero =>
        simp at h
        rw [h]
        rfl
      | succ p => exact args_im (avs := avs) q (by simpa using h)
  | .sl i :: avs, as, p, d, e, h => by
    rw [argsOf] at e
    split at e
    · cases q : argsOf ρ avs with
      | none => rw [q] at e; cases e
      | some bs =>
        rw [q] at e
        cases e
        cases p with
        | zero => simp at h
        | succ p => exact args_im (avs := avs) q (by simpa using h)
    · cases e
theorem args_own : ∀ {avs : List Av} {as : Env} {p : Nat} {ds : List D}, argsOf ρ avs = some as → as[p]? = some (.own ds) → ∃ i, avs[p]? = some (.sl i) ∧ ρ[i]? = some (.own ds)
  | [], _, _, _, e, h => by
    cases e
    simp at h
  | .im c :: avs, as, p, d, e, h => by
    rw [show argsOf ρ (.im c :: avs) = (argsOf ρ avs).map (Sl.im c :: ·) from rfl] at e
    cases q : argsOf ρ avs with
    | none => rw [q] at e; cases e
    | some bs =>
      rw [q] at e
      cases e
      cases p with
      | zero => simp at h
      | succ p => exact args_own (avs := avs) q (by simpa using h)
  | .sl i :: avs, as, p, d, e, h => by
    rw [argsOf] at e
    split at e
    · rename_i ds hds
      cases q : argsOf ρ avs with
      | none => rw [q] at e; cases e
      | some bs =>
        rw [q] at e
        cases e
        cases p with
        | zero =>
          simp at h
          subst h
          exact ⟨i, rfl, hds⟩
        | succ p => exact args_own (avs := avs) q (by simpa using h)
    · cases e
theorem args_no : ∀ {avs : List Av} {as : Env}, argsOf ρ avs = some as → as.length = avs.length ∧ ∀ a ∈ as, a ≠ Sl.no
  | [], _, e => by
    cases e
    exact ⟨rfl, fun _ h => by cases h⟩
  | .im c :: avs, as, e => by
    rw [show argsOf ρ (.im c :: avs) = (argsOf ρ avs).map (Sl.im c :: ·) from rfl] at e
    cases q : argsOf ρ avs with
    | none => rw [q] at e; cases e
    | some bs =>
      rw [q] at e
      cases e
      obtain ⟨h1, h2⟩ := args_no q
      exact ⟨by rw [List.length_cons, List.length_cons, h1], fun a h => (List.mem_cons.mp h).elim (fun z => by rw [z]; intro w; cases w) (h2 a)⟩
  | .sl i :: avs, as, e => by
    rw [argsOf] at e
    split at e
    · cases q : argsOf ρ avs with
      | none => rw [q] at e; cases e
      | some bs =>
        rw [q] at e
        cases e
        obtain ⟨h1, h2⟩ := args_no q
        exact ⟨by rw [List.length_cons, List.length_cons, h1], fun a h => (List.mem_cons.mp h).elim (fun z => by rw [z]; intro w; cases w) (h2 a)⟩
    · cases e
theorem argIs_get : ∀ {avs : List Av} {vs : List V} {p : Nat}, ArgIs K σ B H ρ vs avs → (∀ d, avs[p]? = some (.im d) → ∃ v, vs[p]? = some v ∧ Is K B v d) ∧ (∀ i, avs[p]? = some (.sl i) → ∃ v, vs[p]? = some v ∧ σ[i]? = some (some v))
  | [], _, p, .nil => ⟨fun d h => by simp at h, fun d h => by simp at h⟩
  | a :: avs, v :: vs, 0, .cons h t => ⟨fun d e => by
      simp at e
      subst e
      exact ⟨v, rfl, h⟩, fun i e => by
      simp at e
      subst e
      exact ⟨v, rfl, h⟩⟩
  | a :: avs, v :: vs, p + 1, .cons h t => by
    obtain ⟨h1, h2⟩ := argIs_get (avs := avs) (vs := vs) (p := p) t
    exact ⟨fun d e => by simpa using h1 d (by simpa using e), fun d e => by simpa using h2 d (by simpa using e)⟩
/-- the caller's other objects, held fast -/
noncomputable def held (Fm H : Hp) (σ : L2.St) (ρ : Env) (ss : List Nat) : Hp := fun a =>
  open Classical in if ∃ (i : Nat) (es : List D), ρ[i]? = some (.own es) ∧ i ∉ ss ∧ σ[i]? = some (some (.ref a)) then H a else Fm a
theorem held_yes {ss : List Nat} {a : Addr} {i : Nat} {es : List D} (h1 : ρ[i]? = some (.own es)) (h2 : i ∉ ss) (h3 : σ[i]? = some (some (.ref a))) : held Fm H σ ρ ss a = H a := by
  unfold held
  rw [if_pos ⟨i, es, h1, h2, h3⟩]
theorem held_no {ss : List Nat} {a : Addr} (h : ¬ ∃ (i : Nat) (es : List D), ρ[i]? = some (.own es) ∧ i ∉ ss ∧ σ[i]? = some (some (.ref a))) : held Fm H σ ρ ss a = Fm a := by
  unfold held
  rw [if_neg h]
theorem held_fm (I : IV K ks σ0 Fm B H σ ρ) {ss : List Nat} {a : Addr} {o : HO} (h : Fm a = some o) : held Fm H σ ρ ss a = some o := by
  refine (held_no fun ⟨i, es, h1, _, h3⟩ => ?_).trans h
  obtain ⟨b, ys, g1, _, _, g4, _⟩ := I.own i es h1
  rw [h3] at g1
  cases g1
  rw [h] at g4
  cases g4
theorem iv_args (I : IV K ks σ0 Fm B H σ ρ) {vs : List V} {avs : List Av} {as : Env} (r : ArgIs K σ B H ρ vs avs) (e : argsOf ρ avs = some as) (nd : (slots avs).Nodup) :
    IV K [] [] (held Fm H σ ρ (slots avs)) B H (vs.map some) as := by
  have hl : vs.length = avs.length := Paired.length r
  obtain ⟨hl2, _⟩ := args_no e
  refine ⟨I.ex, fun a o h => ?_, fun a o h => ?_, by rw [List.length_map, hl, hl2], fun p d h => ?_, fun p ds h => ?_, fun p q ds es a hpq h1 h2 h3 h4 => ?_, fun j h => by cases h⟩
  · by_cases c : ∃ (i : Nat) (es : List D), ρ[i]? = some (.own es) ∧ i ∉ slots avs ∧ σ[i]? = some (some (.ref a))
    · obtain ⟨i, es, h1, h2, h3⟩ := c
      rw [held_yes h1 h2 h3] at h
      exact h
    · rw [held_no c] at h
      exact I.fr a o h
  · by_cases c : ∃ (i : Nat) (es : List D), ρ[i]? = some (.own es) ∧ i ∉ slots avs ∧ σ[i]? = some (some (.ref a))
    · obtain ⟨i, es, h1, h2, h3⟩ := c
      obtain ⟨b, ys, g1, _, g3, _⟩ := I.own i es h1
      rw [h3] at g1
      cases g1
      exact g3
    · rw [held_no c] at h
      exact I.fb a o h
  · obtain ⟨v, h1, h2⟩ := (argIs_get (vs := vs) (p := p) r).1 d (args_im e h)
    exact ⟨v, by rw [List.getElem?_map, h1]; rfl, h2⟩
  · obtain ⟨i, h1, h2⟩ := args_own e h
    obtain ⟨v, h3, h4⟩ := (argIs_get (vs := vs) (p := p) r).2 i h1
    obtain ⟨a, xs, g1, g2, g3, g4, g5⟩ := I.own i ds h2
    rw [h4] at g1
    cases g1
    refine ⟨a, xs, by rw [List.getElem?_map, h3]; rfl, g2, g3, ?_, g5⟩
    refine (held_no fun ⟨j, es, k1, k2, k3⟩ => ?_).trans g4
    have hij : i ≠ j := fun z => k2 (by rw [← z]; exact at_slots h1)
    exact I.dj i j ds es a hij h2 k1 h4 k3
  · obtain ⟨i, k1, k2⟩ := args_own e h1
    obtain ⟨j, m1, m2⟩ := args_own e h2
    obtain ⟨v, k3, k4⟩ := (argIs_get (vs := vs) (p := p) r).2 i k1
    obtain ⟨w, m3, m4⟩ := (argIs_get (vs := vs) (p := q) r).2 j m1
    rw [List.getElem?_map, k3] at h3
    rw [List.getElem?_map, m3] at h4
    cases h3
    cases h4
    have hij : i ≠ j := fun z => hpq (slots_inj nd k1 (by rw [z]; exact m1))
    exact I.dj i j ds es a hij k2 m2 k4 m4
theorem iv_back (I : IV K ks σ0 Fm B H σ ρ) {vs : List V} {avs : List Av} {as as' : Env} {B' H' : Hp} (r : ArgIs K σ B H ρ vs avs) (e : argsOf ρ avs = some as) (nd : (slots avs).Nodup) (s : Same B B')
    (I' : IV K [] [] (held Fm H σ ρ (slots avs)) B' H' (vs.map some) as') : IV K ks σ0 Fm B' H' σ (putBack avs as' ρ) ∧
      ∀ v rv, vE K (held Fm H σ ρ (slots avs)) (vs.map some) B' H' as' v rv → vE K Fm σ B' H' (putBack avs as' ρ) v rv := by
  have hl : vs.length = avs.length := Paired.length r
  have hla : as'.length = avs.length := by rw [← I'.len, List.length_map, hl]
  -- a passed slot, behind the call
  have inn : ∀ {i : Nat} {x : Sl}, i ∈ slots avs → (putBack avs as' ρ)[i]? = some x → ∃ (p : Nat) (v : V), avs[p]? = some (Av.sl i) ∧ as'[p]? = some x ∧ vs[p]? = some v ∧ σ[i]? = some (some v) := fun {i x} hi hx => by
    obtain ⟨p, hp⟩ := slots_at hi
    have hpl : p < as'.length := by
      rw [hla]
      exact (List.getElem?_eq_some_iff.mp hp).1
    have hil : i < ρ.length := by
      have := (List.getElem?_eq_some_iff.mp hx).1
      rwa [pb_len] at this
    have h1 := pb_in nd hp (List.getElem?_eq_getElem hpl) hil
    rw [h1] at hx
    obtain ⟨v, h3, h4⟩ := (argIs_get (vs := vs) (p := p) r).2 i hp
    exact ⟨p, v, hp, by rw [List.getElem?_eq_getElem hpl]; exact hx, h3, h4⟩
  -- one's own objects behind the call: where they stand
  have ownI : ∀ {i : Nat} {es : List D}, (putBack avs as' ρ)[i]? = some (.own es) → ∃ a xs, σ[i]? = some (some (.ref a)) ∧ H' a = some (.lst xs) ∧ B' a = none ∧ Fm a = none ∧ IsA K B' xs es ∧
      ((i ∉ slots avs ∧ ρ[i]? = some (.own es) ∧ held Fm H σ ρ (slots avs) a = some (.lst xs)) ∨ (i ∈ slots avs ∧ held Fm H σ ρ (slots avs) a = none ∧ ∃ p : Nat, avs[p]? = some (.sl i) ∧ as'[p]? = some (.own es) ∧ vs[p]? = some (.ref a))) := fun {i es} h => by
    by_cases hi : i ∈ slots avs
    · obtain ⟨p, v, h1, h2, h3, h4⟩ := inn hi h
      obtain ⟨a, xs, g1, g2, g3, g4, g5⟩ := I'.own p es h2
      rw [List.getElem?_map, h3] at g1
      cases g1
      have hf : Fm a = none := by
        cases q : Fm a with
        | none => rfl
        | some o =>
          rw [held_fm I q] at g4
          cases g4
      exact ⟨a, xs, h4, g2, g3, hf, g5, .inr ⟨hi, g4, p, h1, h2, h3⟩⟩
    · rw [pb_out hi] at h
      obtain ⟨a, xs, g1, g2, g3, g4, g5⟩ := I.own i es h
      have hh : held Fm H σ ρ (slots avs) a = some (.lst xs) := (held_yes h hi g1).trans g2
      exact ⟨a, xs, g1, I'.fr a _ hh, I'.fb a _ hh, g4, g5.mono s, .inl ⟨hi, h, hh⟩⟩
  refine ⟨⟨I'.ex, fun a o h => I'.fr a o (held_fm I h), fun a o h => I'.fb a o (held_fm I h), by rw [pb_len]; exact I.len, fun i d h => ?_, fun i es h => ?_, fun i j ds es a hij h1 h2 h3 h4 => ?_, I.pin⟩, fun v rv h => ?_⟩
  · by_cases hi : i ∈ slots avs
    · obtain ⟨p, v, h1, h2, h3, h4⟩ := inn hi h
      obtain ⟨v', k1, k2⟩ := I'.im p d h2
      rw [List.getElem?_map, h3] at k1
      cases k1
      exact ⟨v, h4, k2⟩
    · rw [pb_out hi] at h
      obtain ⟨v, k1, k2⟩ := I.im i d h
      exact ⟨v, k1, k2.mono s⟩
  · obtain ⟨a, xs, g1, g2, g3, g4, g5, _⟩ := ownI h
    exact ⟨a, xs, g1, g2, g3, g4, g5⟩
  · obtain ⟨b, xs, g1, _, _, _, _, k⟩ := ownI h1
    obtain ⟨c, ys, m1, _, _, _, _, k'⟩ := ownI h2
    rw [h3] at g1
    cases g1
    rw [h4] at m1
    cases m1
    rcases k with ⟨_, k1, k2⟩ | ⟨_, k2, p, k3, k4, k5⟩
    · rcases k' with ⟨_, n1, _⟩ | ⟨_, n2, _⟩
      · exact I.dj i j ds es a hij k1 n1 h3 h4
      · rw [k2] at n2
        cases n2
    · rcases k' with ⟨_, _, n2⟩ | ⟨_, n2, q, n3, n4, n5⟩
      · rw [k2] at n2
        cases n2
      · have hpq : p ≠ q := fun z => hij (by
          subst z
          rw [k3] at n3
          exact Av.sl.inj (Option.some.inj n3))
        exact I'.dj p q ds es a hpq k4 n4 (by rw [List.getElem?_map, k5]; rfl) (by rw [List.getElem?_map, n5]; rfl)
  · cases rv with
    | im d => exact h
    | own ds =>
      obtain ⟨a, xs, rfl, h2, h3, h4, h5, h6⟩ := h
      have hf : Fm a = none := by
        cases q : Fm a with
        | none => rfl
        | some o =>
          rw [held_fm I q] at h4
          cases h4
      refine ⟨a, xs, rfl, h2, h3, hf, h5, fun i es hi z => ?_⟩
      obtain ⟨b, ys, g1, _, _, _, _, k⟩ := ownI hi
      rw [z] at g1
      cases g1
      rcases k with ⟨_, _, k2⟩ | ⟨_, k2, p, k3, k4, k5⟩
      · rw [h4] at k2
        cases k2
      · exact h6 p es k4 (by rw [List.getElem?_map, k5]; rfl)
theorem call_core {n : Nat} {F : Env → R Rv} {avs : List Av} {vs : List V} {E : XK} {Q : VK} (I : IV K ks σ0 Fm B H σ ρ) (r : ArgIs K σ B H ρ vs avs) (p : PtG K ks σ0 Fm W (vE K Fm σ) B σ Q (doCall n F avs ρ))
    (hE : ∀ C dx H', (∀ c d as', F c = .exc C d as' → True) → W (.ref C) dx σ H' → E (.ref C) dx H') : spD K n F vs H Q E := by
  unfold doCall at p
  by_cases hc : avs.length = n ∧ (slots avs).Nodup
  · rw [if_pos hc] at p
    cases e : argsOf ρ avs with
    | none => rw [e] at p; exact p.elim
    | some as =>
      rw [e] at p
      have hl : vs.length = avs.length := Paired.length r
      refine ⟨by rw [hl]; exact hc.1, _, B, as, iv_args I r e hc.2, (args_no e).2, ?_⟩
      have p2 : PtG K ks σ0 Fm W (vE K Fm σ) B σ Q (backTo1 avs ρ (F as)) := p
      cases q : F as with
      | ok rv as' =>
        rw [q] at p2
        exact fun B' H' v s I' hv => by
          obtain ⟨I2, k⟩ := iv_back I r e hc.2 s I'
          exact p2 B' H' v s I2 (k v rv hv)
      | exc C d as' =>
        rw [q] at p2
        exact fun B' H' dx s I' hx => by
          obtain ⟨I2, k⟩ := iv_back I r e hc.2 s I'
          exact hE C dx H' (fun _ _ _ _ => trivial) (p2 B' H' dx s I2 hx)
      | bad =>
        rw [q] at p2
        exact p2
  · rw [if_neg hc] at p
    exact p.elim
variable {ta : TA} {fa : Env → R (List Av)}
theorem de_call {n : Nat} {F : Env → R Rv} (ha : DA K W ta fa) : DE K W (tCallS (spD K n F) (WE W) ta) (eCall n F fa) := fun ks σ0 Fm B H σ ρ Q I p =>
  ha ks σ0 Fm B H σ ρ _ I (PtG.step p fun as ρ1 B1 H1 vs s1 I1 v1 p1 => call_core I1 v1 p1 fun _ _ _ _ h => h)
theorem de_call0 {n : Nat} {F : Env → R Rv} (ha : DA K W ta fa) : DE K W (tCall (spD K n F) [] E0 ta) (eCall0 n F fa) := fun ks σ0 Fm B H σ ρ Q I p =>
  ha ks σ0 Fm B H σ ρ _ I (PtG.step p fun as ρ1 B1 H1 vs s1 I1 v1 p1 => by
    show spD K n F (vs ++ []) H1 Q E0
    rw [List.append_nil]
    refine call_core (W := W0) I1 v1 ?_ fun _ _ _ _ h => h
    cases q : doCall n F as ρ1 with
    | ok rv as' =>
      rw [q] at p1
      exact p1
    | exc C d as' =>
      rw [q] at p1
      exact p1.elim
    | bad =>
      rw [q] at p1
      exact p1.elim)

/-! ### a def -/
/-- the parameters' slots behind the body: what was one's own as it is now, else as handed in -/
def outs : Env → Env → Env
  | [], _ => []
  | .own _ :: as, r :: rs => r :: outs as rs
  | .own _ :: as, [] => .no :: outs as []
  | a :: as, rs => a :: outs as rs.tail
/-- the parameters that are handed in to be changed are among ks -/
def ownOk (ks : List Nat) : Nat → Env → Bool
  | _, [] => true
  | i, .own _ :: as => ks.contains i && ownOk ks (i + 1) as
  | i, _ :: as => ownOk ks (i + 1) as
def endOf (as : Env) (o : Out) : R Rv :=
  match o with
  | .nx ρ => .ok (.im .non) (outs as ρ)
  | .ret rv ρ => .ok rv (outs as ρ)
  | .exc C d ρ => .exc C d (outs as ρ)
  | _ => .bad
def runDef (n : Nat) (ks : List Nat) (g : Env → Out) : Env → R Rv := fun as =>
  if ownOk ks 0 as = true then endOf as (g (as ++ List.replicate (n - as.length) .no)) else .bad
theorem outs_len : ∀ {as rs : Env}, (outs as rs).length = as.length
  | [], _ => rfl
  | .own d :: as, r :: rs => congrArg (· + 1) (outs_len (as := as) (rs := rs))
  | .own d :: as, [] => congrArg (· + 1) (outs_len (as := as) (rs := []))
  | .no :: as, rs => congrArg (· + 1) (outs_len (as := as) (rs := rs.tail))
  | .im d :: as, rs => congrArg (· + 1) (outs_len (as := as) (rs := rs.tail))
theorem outs_get : ∀ {as rs : Env} {i : Nat} {x : Sl}, x ≠ .no → (outs as rs)[i]? = some x → (isOwn as[i]? = true ∧ rs[i]? = some x) ∨ (isOwn as[i]? = false ∧ as[i]? = some x)
  | [], _, _, _, _, h => by simp [outs] at h
  | .own d :: as, r :: rs, 0, x, _, h => .inl ⟨rfl, h⟩
  | .own d :: as, [], 0, x, n, h => by
    simp [outs] at h
    exact absurd h.symm n
  | .own d :: as, r :: rs, i + 1, x, n, h => outs_get (as := as) (rs := rs) (i := i) n h
  | .own d :: as, [], i + 1, x, n, h => by
    rcases outs_get (as := as) (rs := []) (i := i) n h with h | h
    · exact absurd h.2 (by simp)
    · exact .inr h
  | .no :: as, rs, 0, x, n, h => .inr ⟨rfl, h⟩
  | .im d :: as, rs, 0, x, n, h => .inr ⟨rfl, h⟩
  | .no :: as, rs, i + 1, x, n, h => by
    rcases outs_get (as := as) (rs := rs.tail) (i := i) n h with h | h
    · exact .inl ⟨h.1, by rw [List.getElem?_tail] at h; exact h.2⟩
    · exact .inr h
  | .im d :: as, rs, i + 1, x, n, h => by
    rcases outs_get (as := as) (rs := rs.tail) (i := i) n h with h | h
    · exact .inl ⟨h.1, by rw [List.getElem?_tail] at h; exact h.2⟩
    · exact .inr h
theorem ownOk_get {ks : List Nat} : ∀ {as : Env} {j i : Nat}, ownOk ks j as = true → isOwn as[i]? = true → j + i ∈ ks
  | [], _, _, _, h => by simp [isOwn] at h
  | .own d :: as, j, 0, h, _ => by
    have h1 : (ks.contains j && ownOk ks (j + 1) as) = true := h
    rw [Bool.and_eq_true] at h1
    exact List.contains_iff_mem.mp h1.1
  | .own d :: as, j, i + 1, h, h2 => by
    have h1 : (ks.contains j && ownOk ks (j + 1) as) = true := h
    rw [Bool.and_eq_true] at h1
    have := ownOk_get (as := as) (j := j + 1) (i := i) h1.2 h2
    rwa [Nat.add_assoc, Nat.add_comm 1 i] at this
  | .no :: as, j, 0, _, h => by simp [isOwn] at h
  | .im d :: as, j, 0, _, h => by simp [isOwn] at h
  | .no :: as, j, i + 1, h, h2 => by
    have := ownOk_get (as := as) (j := j + 1) (i := i) h h2
    rwa [Nat.add_assoc, Nat.add_comm 1 i] at this
  | .im d :: as, j, i + 1, h, h2 => by
    have := ownOk_get (as := as) (j := j + 1) (i := i) h h2
    rwa [Nat.add_assoc, Nat.add_comm 1 i] at this
theorem start_get {N : List Str} {vs : List V} {i : Nat} (hi : i < vs.length) : (L2.start N vs)[i]? = (vs.map some)[i]? := by
  unfold L2.start
  rw [List.getElem?_append_left (by rw [List.length_map]; exact hi)]
/-- into the body -/
theorem iv_enter {N : List Str} {vs : List V} {as : Env} (hN : vs.length ≤ N.length) (I : IV K [] [] Fm B H (vs.map some) as) (ks : List Nat) : IV K ks (L2.start N vs) Fm B H (L2.start N vs) (as ++ List.replicate (N.length - as.length) .no) := by
  have hl : as.length = vs.length := by rw [← I.len, List.length_map]
  have sub : ∀ {i : Nat} {x : Sl}, x ≠ .no → (as ++ List.replicate (N.length - as.length) .no)[i]? = some x → i < vs.length ∧ as[i]? = some x := fun {i x} hx h => by
    by_cases hi : i < as.length
    · rw [List.getElem?_append_left hi] at h
      exact ⟨by omega, h⟩
    · rw [List.getElem?_append_right (by omega), List.getElem?_replicate] at h
      split at h
      · exact absurd (Option.some.inj h).symm hx
      · cases h
  refine ⟨I.ex, I.fr, I.fb, ?_, fun i d h => ?_, fun i ds h => ?_, fun i j ds es a hij h1 h2 h3 h4 => ?_, fun j _ => rfl⟩
  · unfold L2.start
    rw [List.length_append, List.length_append, List.length_map, List.length_replicate, List.length_replicate, hl]
  · obtain ⟨hi, h⟩ := sub (by intro z; cases z) h
    rw [start_get hi]
    exact I.im i d h
  · obtain ⟨hi, h⟩ := sub (by intro z; cases z) h
    rw [start_get hi]
    exact I.own i ds h
  · obtain ⟨hi, h1⟩ := sub (by intro z; cases z) h1
    obtain ⟨hj, h2⟩ := sub (by intro z; cases z) h2
    rw [start_get hi] at h3
    rw [start_get hj] at h4
    exact I.dj i j ds es a hij h1 h2 h3 h4
/-- out of the body. ks: the slots of the parameters that are handed in to be changed -/
theorem iv_leave {N : List Str} {vs : List V} {as ρ' : Env} {B' H' : Hp} {σ' : L2.St} (I : IV K [] [] Fm B H (vs.map some) as) (hks : ∀ i, isOwn as[i]? = true → i ∈ ks) (s : Same B B')
    (I' : IV K ks (L2.start N vs) Fm B' H' σ' ρ') : IV K [] [] Fm B' H' (vs.map some) (outs as ρ') ∧ ∀ v rv, vE K Fm σ' B' H' ρ' v rv → vE K Fm (vs.map some) B' H' (outs as ρ') v rv := by
  have hl : as.length = vs.length := by rw [← I.len, List.length_map]
  have st : ∀ {i : Nat}, isOwn as[i]? = true → σ'[i]? = (vs.map some)[i]? := fun {i} h => by
    rw [I'.pin i (hks i h)]
    refine start_get ?_
    by_cases hi : i < as.length
    · omega
    · rw [List.getElem?_eq_none (by omega)] at h
      cases h
  have ownI : ∀ {i : Nat} {es : List D}, (outs as ρ')[i]? = some (.own es) → isOwn as[i]? = true ∧ ρ'[i]? = some (.own es) := fun {i es} h => by
    rcases outs_get (by intro z; cases z) h with h | ⟨h1, h2⟩
    · exact h
    · rw [h2] at h1
      cases h1
  refine ⟨⟨I'.ex, I'.fr, I'.fb, by rw [List.length_map, outs_len, hl], fun i d h => ?_, fun i ds h => ?_, fun i j ds es a hij h1 h2 h3 h4 => ?_, fun j h => by cases h⟩, fun v rv h => ?_⟩
  · rcases outs_get (by intro z; cases z) h with ⟨h1, h2⟩ | ⟨h1, h2⟩
    · rw [← st h1]
      exact I'.im i d h2
    · obtain ⟨v, k1, k2⟩ := I.im i d h2
      exact ⟨v, k1, k2.mono s⟩
  · obtain ⟨h1, h2⟩ := ownI h
    rw [← st h1]
    exact I'.own i ds h2
  · obtain ⟨k1, k2⟩ := ownI h1
    obtain ⟨m1, m2⟩ := ownI h2
    rw [← st k1] at h3
    rw [← st m1] at h4
    exact I'.dj i j ds es a hij k2 m2 h3 h4
  · cases rv with
    | im d => exact h
    | own ds =>
      obtain ⟨a, xs, rfl, h2, h3, h4, h5, h6⟩ := h
      refine ⟨a, xs, rfl, h2, h3, h4, h5, fun i es hi z => ?_⟩
      obtain ⟨k1, k2⟩ := ownI hi
      rw [← st k1] at z
      exact h6 i es k2 z
variable {P : Program} {w : World} {mg : Str → Option Value} {base : Heap}
/-- THE RULE for a def: its body by HandS's rules, what they say by the data's -/
theorem def_ok {x qual : Str} {st : Stmt} {f : Addr} {fd : FuncData} {N ps : List Str} {k n m : Nat} (Fn : Fun K x qual st f fd) (S : FnScope N ps (defScope st)) (ks : List Nat) (g : Env → Out) (hm : N.length = m) (hn : ps.length = n)
    (hbody : ∀ (cdv : Value) (A : Around) (outer : List PySem.Env) (s : Shared) (H : Hp) (E : XK), Room k (A.deeper (envOfC qual (defScope st) s.heap.objs.size f cdv)) →
      ∃ t, PSs (cxOf (L2.CX P w) P w K mg base N qual (defScope st) f cdv A outer s H E) (defBody st) t ∧ DS K (fun c d _ H' => E c d H') ks t g) :
    FnOk P w K mg base (L2.CX P w) (k + 1) f fd ps (spD K n (runDef m ks g)) := by
  have hpN : ps.length ≤ N.length := by
    have := congrArg List.length S.pre
    rw [List.length_take] at this
    omega
  subst hm hn
  refine Fn.okX S (fun vs H Q E h => h.1) (fun cdv A outer s H vs Q E hr h => ?_)
  obtain ⟨hl, Fm, B, as, I, hno, p⟩ := h
  obtain ⟨t, h1, h2⟩ := hbody cdv A outer s H E hr
  refine ⟨t, h1, ?_⟩
  have hla : as.length = ps.length := by rw [← I.len, List.length_map, hl]
  have I1 := iv_enter (N := N) (by omega) I ks
  unfold runDef at p
  by_cases ho : ownOk ks 0 as = true
  · rw [if_pos ho] at p
    have hks : ∀ i, isOwn as[i]? = true → i ∈ ks := fun i h => by
      have := ownOk_get (i := i) ho h
      rwa [Nat.zero_add] at this
    refine h2 _ Fm B H _ _ _ I1 ?_
    cases q : g (as ++ List.replicate (N.length - as.length) .no) with
    | nx ρ' =>
      rw [q] at p
      exact fun B' H' σ' s' I' => by
        obtain ⟨I2, k⟩ := iv_leave I hks s' I'
        exact p B' H' .non s' I2 Is.non
    | ret rv ρ' =>
      rw [q] at p
      exact fun B' H' σ' v s' I' hv => by
        obtain ⟨I2, k⟩ := iv_leave I hks s' I'
        exact p B' H' v s' I2 (k v rv hv)
    | exc C d ρ' =>
      rw [q] at p
      exact fun B' H' σ' dx s' I' hx => by
        obtain ⟨I2, k⟩ := iv_leave I hks s' I'
        exact p B' H' dx s' I2 hx
    | brk ρ' => rw [q] at p; exact p.elim
    | ct ρ' => rw [q] at p; exact p.elim
    | bad => rw [q] at p; exact p.elim
  · rw [if_neg ho] at p
    exact p.elim
end
end DL

/-! DL, part g: the end of a law. -/
namespace DL
open PySem PySem.Spec PyProof.Rows L2
theorem law_sp {K : PySem.W.Frag} {H : Hp} {a : Addr} {ns : List Int} {F : DL.Env → R Rv} (hS : SqL K H a (ns.map V.int)) (h : ∃ ρ, F [.im (.scr ns)] = .ok (.im (.bl true)) ρ) : spD K 1 F [.ref a] H (fun v _ => v = .bl true) fun _ _ _ => False := by
  obtain ⟨ρ, e⟩ := h
  refine ⟨rfl, fun _ => none, H, [.im (.scr ns)], ⟨Same.refl H, fun _ _ z => (by cases z), fun _ _ z => (by cases z), rfl, fun i d z => ?_, fun i d z => ?_, fun i j ds es a _ z => ?_, fun _ z => (by cases z)⟩, fun a z => ?_, ?_⟩
  · cases i with
    | zero =>
      cases z
      exact ⟨.ref a, rfl, .scr hS⟩
    | succ i => simp at z
  · cases i with
    | zero => cases z
    | succ i => simp at z
  · cases i with
    | zero => cases z
    | succ i => simp at z
  · rw [List.mem_singleton] at z
    rw [z]
    intro q
    cases q
  · rw [e]
    exact fun B' H' v _ _ hv => Is.blV hv
theorem law_cx {P : Program} {w : World} {H : Hp} {s : Shared} {e : Value} {s' : Shared} (h : L2.CX P w [] H s (fun _ _ _ => False) e s') : False := by
  obtain ⟨_, _, _, _, _, _, _, _, _, _, _, _, z⟩ := h
  exact z
end DL

/-! DL, part m: how data functions are reckoned. -/
namespace DL
open PySem PySem.Spec PyProof.Rows L2

section
variable {α β : Type} {ρ : DL.Env} {a : α} {i j n : Nat} {d e : D} {ds es : List D} {rv : Rv}
theorem x_bind {k : α → DL.Env → R β} : (R.ok a ρ).bind k = k a ρ := (rfl)
theorem x_toO {k : α → DL.Env → Out} : (R.ok a ρ).toO k = k a ρ := (rfl)
theorem x_nx : (R.ok a ρ).nx = R.ok a ρ := (rfl)
theorem x_seq1 {k : DL.Env → Out} : (Out.nx ρ).seq k = k ρ := (rfl)
theorem x_seq2 {k : DL.Env → Out} : (Out.ret rv ρ).seq k = .ret rv ρ := (rfl)
theorem x_seq3 {k : DL.Env → Out} : (Out.brk ρ).seq k = .brk ρ := (rfl)
theorem x_seq4 {k : DL.Env → Out} : (Out.ct ρ).seq k = .ct ρ := (rfl)
theorem x_seq5 {k : DL.Env → Out} {C : Addr} {x : Option (Str × D)} : (Out.exc C x ρ).seq k = .exc C x ρ := (rfl)
theorem x_lift : lift (some a) ρ = .ok a ρ := (rfl)
theorem x_dI : (Rv.im d).d = d := (rfl)
theorem x_dO : (Rv.own ds).d = .lst ds := (rfl)
theorem x_slI : (Rv.im d).sl = .im d := (rfl)
theorem x_slO : (Rv.own ds).sl = .own ds := (rfl)
theorem x_c : eC d ρ = .ok (.im d) ρ := (rfl)
def varK (o : Option Sl) (i : Nat) (ρ : DL.Env) : R Rv :=
  match o with
  | some (.im d) => .ok (.im d) ρ
  | some (.own ds) => .ok (.im (.lst ds)) (ρ.set i (.im (.lst ds)))
  | _ => .bad
theorem x_var : eVar i ρ = varK ρ[i]? i ρ := (rfl)
theorem x_varI : varK (some (.im d)) i ρ = .ok (.im d) ρ := (rfl)
theorem x_varO : varK (some (.own ds)) i ρ = .ok (.im (.lst ds)) (ρ.set i (.im (.lst ds))) := (rfl)
def moveK (o : Option Sl) (i : Nat) (ρ : DL.Env) : R Rv :=
  match o with
  | some (.im d) => .ok (.im d) ρ
  | some (.own ds) => .ok (.own ds) (ρ.set i .no)
  | _ => .bad
theorem x_move : eMove i ρ = moveK ρ[i]? i ρ := (rfl)
theorem x_moveI : moveK (some (.im d)) i ρ = .ok (.im d) ρ := (rfl)
theorem x_moveO : moveK (some (.own ds)) i ρ = .ok (.own ds) (ρ.set i .no) := (rfl)
theorem x_op {op : D → D → Option Rv} {f g : DL.Env → R Rv} : eOp op f g ρ = (f ρ).bind fun x ρ => (g ρ).bind fun y ρ => lift (op x.d y.d) ρ := (rfl)
theorem x_un {op : D → Option Rv} {f : DL.Env → R Rv} : eUn op f ρ = (f ρ).bind fun x ρ => lift (op x.d) ρ := (rfl)
theorem x_asB {b : Bool} : asB (.bl b) = some b := (rfl)
theorem x_asI {z : Int} : asI (.int z) = some z := (rfl)
theorem x_tOf {f : DL.Env → R Rv} : tOf f ρ = (f ρ).bind fun x ρ => lift (asB x.d) ρ := (rfl)
theorem x_tAnd {f g : DL.Env → R Bool} : tAndD f g ρ = (f ρ).bind fun c ρ => cond c (g ρ) (.ok false ρ) := (rfl)
theorem x_tOr {f g : DL.Env → R Bool} : tOrD f g ρ = (f ρ).bind fun c ρ => cond c (.ok true ρ) (g ρ) := (rfl)
theorem x_tNot {f : DL.Env → R Bool} : tNotD f ρ = (f ρ).bind fun c ρ => .ok (!c) ρ := (rfl)
theorem x_tYes : tYesD ρ = .ok true ρ := (rfl)
theorem x_and {f g : DL.Env → R Rv} : eAnd f g ρ = (f ρ).bind fun x ρ => (lift (asB x.d) ρ).bind fun c ρ => cond c (g ρ) (.ok (.im (.bl false)) ρ) := (rfl)
theorem x_or {f g : DL.Env → R Rv} : eOr f g ρ = (f ρ).bind fun x ρ => (lift (asB x.d) ρ).bind fun c ρ => cond c (.ok (.im (.bl true)) ρ) (g ρ) := (rfl)
theorem x_not {f : DL.Env → R Rv} : eNot f ρ = (f ρ).bind fun x ρ => (lift (asB x.d) ρ).bind fun c ρ => .ok (.im (.bl (!c))) ρ := (rfl)
theorem x_if {t : DL.Env → R Bool} {f g : DL.Env → R Rv} : eIf t f g ρ = (t ρ).bind fun c ρ => cond c (f ρ) (g ρ) := (rfl)
theorem x_chain {op op' : D → D → Option Rv} {f g h : DL.Env → R Rv} : eChain op op' f g h ρ = (f ρ).bind fun x ρ => (g ρ).bind fun y ρ => (lift (op x.d y.d) ρ).bind fun z ρ => (lift (asB z.d) ρ).bind fun k ρ =>
  cond k ((h ρ).bind fun w ρ => lift (op' y.d w.d) ρ) (.ok (.im (.bl false)) ρ) := (rfl)
theorem x_aNil : aNil ρ = .ok [] ρ := (rfl)
theorem x_aCons {f : DL.Env → R Rv} {r : DL.Env → R (List Av)} : aCons f r ρ = (f ρ).bind fun x ρ => (r ρ).bind fun xs ρ => .ok (.im x.d :: xs) ρ := (rfl)
def slotK (o : Option Sl) (i : Nat) (r : DL.Env → R (List Av)) (ρ : DL.Env) : R (List Av) :=
  match o with
  | some (.own _) => (r ρ).bind fun xs ρ => .ok (.sl i :: xs) ρ
  | _ => .bad
theorem x_aSlot {r : DL.Env → R (List Av)} : aSlot i r ρ = slotK ρ[i]? i r ρ := (rfl)
theorem x_slotO {r : DL.Env → R (List Av)} : slotK (some (.own ds)) i r ρ = (r ρ).bind fun xs ρ => .ok (.sl i :: xs) ρ := (rfl)
theorem x_ims0 : ims [] = some [] := (rfl)
theorem x_ims1 {r : List Av} : ims (.im d :: r) = (ims r).map (d :: ·) := (rfl)
theorem x_lst {f : DL.Env → R (List Av)} : eLst f ρ = (f ρ).bind fun xs ρ => (lift (ims xs) ρ).bind fun ds ρ => cond (Nat.ble ds.length 100000) (.ok (.own ds) ρ) .bad := (rfl)
theorem x_tup {f : DL.Env → R (List Av)} : eTup f ρ = (f ρ).bind fun xs ρ => (lift (ims xs) ρ).bind fun ds ρ => cond (Nat.ble ds.length 100000) (.ok (.im (.tup ds)) ρ) .bad := (rfl)
theorem x_cb {op : List D → Option Rv} {f : DL.Env → R (List Av)} : eCB op f ρ = (f ρ).bind fun xs ρ => (lift (ims xs) ρ).bind fun ds ρ => lift (op ds) ρ := (rfl)
theorem x_oNone : oNone ρ = .ok none ρ := (rfl)
theorem x_oSome {f : DL.Env → R Rv} : oSome f ρ = (f ρ).bind fun x ρ => (lift (asI x.d) ρ).bind fun i ρ => .ok (some i) ρ := (rfl)
theorem x_slD {lo hi : Option Int} : slD (.lst ds) lo hi = some (.own (cutD ds lo hi)) := (rfl)
theorem x_eSl {f : DL.Env → R Rv} {lo hi : DL.Env → R (Option Int)} : eSl f lo hi ρ = (f ρ).bind fun x ρ => (lo ρ).bind fun l ρ => (hi ρ).bind fun u ρ => lift (slD x.d l u) ρ := (rfl)
def ixK1 (o : Option Sl) (i : Nat) (f : DL.Env → R Rv) (ρ : DL.Env) : R Rv :=
  match o with
  | some (.own _) => (f ρ).bind fun x ρ => match ρ[i]?, x.d with
    | some (.own ds), .int k => match atI ds k with
      | some d => .ok (.im d) ρ
      | none => .bad
    | _, _ => .bad
  | _ => .bad
def ixK2 (o : Option Sl) (d : D) (ρ : DL.Env) : R Rv :=
  match o, d with
  | some (.own ds), .int k => lift ((atI ds k).map Rv.im) ρ
  | _, _ => .bad
theorem x_ixO {f : DL.Env → R Rv} : eIxO i f ρ = ixK1 ρ[i]? i f ρ := (rfl)
theorem x_ixK1 {f : DL.Env → R Rv} : ixK1 (some (.own ds)) i f ρ = (f ρ).bind fun x ρ => ixK2 ρ[i]? x.d ρ := by
  show (f ρ).bind _ = _
  congr 1
  funext x ρ
  cases ρ[i]? with
  | none => rfl
  | some s =>
    cases s with
    | no => rfl
    | im d => rfl
    | own ds =>
      cases x.d with
      | int k =>
        show (match atI ds k with | some d => R.ok (Rv.im d) ρ | none => .bad) = lift ((atI ds k).map Rv.im) ρ
        cases atI ds k <;> rfl
      | _ => rfl
theorem x_ixK2 {k : Int} : ixK2 (some (.own ds)) (.int k) ρ = lift ((atI ds k).map Rv.im) ρ := (rfl)
def lenK (o : Option Sl) (ρ : DL.Env) : R Rv :=
  match o with
  | some (.own ds) => .ok (.im (.int ds.length)) ρ
  | _ => .bad
theorem x_lenO : eLenO i ρ = lenK ρ[i]? ρ := (rfl)
theorem x_lenK : lenK (some (.own ds)) ρ = .ok (.im (.int ds.length)) ρ := (rfl)
/-! operators -/
theorem x_add {p q : Int} : opAdd (.int p) (.int q) = some (.im (.int (p + q))) := (rfl)
theorem x_cat (h : ds.length + es.length ≤ 100000) : opAdd (.lst ds) (.lst es) = some (.own (ds ++ es)) := if_pos h
theorem x_sub {p q : Int} : opSub (.int p) (.int q) = some (.im (.int (p - q))) := (rfl)
theorem log2_of {p : Int} (h1 : -(2 ^ 200) < p) (h2 : p < 2 ^ 200) : p.natAbs.log2 < 200 := by
  refine PySem.Flt.log2_lt_of (by decide) ?_
  have : (p.natAbs : Int) < 2 ^ 200 := by omega
  exact_mod_cast this
theorem x_mul {p q : Int} (h1 : -(2 ^ 200) < p) (h2 : p < 2 ^ 200) (h3 : -(2 ^ 200) < q) (h4 : q < 2 ^ 200) : opMul (.int p) (.int q) = some (.im (.int (p * q))) := by
  have a := log2_of h1 h2
  have b := log2_of h3 h4
  exact if_pos (by omega)
theorem x_rep {k : Int} (h1 : k < 2 ^ 60) (h2 : -(2 ^ 60) < k) (h : ds.length * k.toNat ≤ 100000) : opMul (.lst ds) (.int k) = some (.own (List.replicate k.toNat ds).flatten) := if_pos ⟨h1, h2, h⟩
theorem x_div {p q : Int} (h1 : 0 < q) (h2 : q < 2 ^ 200) : opDiv (.int p) (.int q) = some (.im (.int (p / q))) := by
  have b := log2_of (p := q) (by omega) h2
  exact if_pos ⟨h1, by omega⟩
theorem x_mod {p q : Int} (h1 : 0 < q) : opMod (.int p) (.int q) = some (.im (.int (p % q))) := if_pos h1
theorem bits_of {p : Int} (h1 : -(2 ^ 200) < p) (h2 : p < 2 ^ 200) : Builtin.Int.intBits p ≤ 201 := by
  have a := log2_of h1 h2
  unfold Builtin.Int.intBits
  split <;> omega
theorem x_pow {p q : Int} (h1 : -(2 ^ 200) < p) (h2 : p < 2 ^ 200) (h3 : 0 ≤ q) (h4 : q ≤ 1000) : opPow (.int p) (.int q) = some (.im (.int (p ^ q.toNat))) := by
  have a := bits_of h1 h2
  refine if_pos ⟨h3, ?_⟩
  have h5 : (Builtin.Int.intBits p : Int) * q ≤ 201 * q := Int.mul_le_mul_of_nonneg_right (by exact_mod_cast a) h3
  omega
theorem x_neg {p : Int} : opNeg (.int p) = some (.im (.int (-p))) := (rfl)
theorem x_lt {p q : Int} : cLt (.int p) (.int q) = some (.im (.bl (ltB p q))) := (rfl)
theorem x_le {p q : Int} : cLe (.int p) (.int q) = some (.im (.bl (leB p q))) := (rfl)
theorem x_gt {p q : Int} : cGt (.int p) (.int q) = some (.im (.bl (ltB q p))) := (rfl)
theorem x_ge {p q : Int} : cGe (.int p) (.int q) = some (.im (.bl (leB q p))) := (rfl)
theorem shaped_int (p : Int) : SeqAt.shaped (.int p) = true := by
  simp [SeqAt.shaped, PyData.canLay0, PyData.depth]
theorem eqD_int {p q : Int} : eqD (.int p) (.int q) = some (p == q) := by
  unfold eqD
  simp only [D.py]
  rw [if_pos ⟨shaped_int p, shaped_int q⟩]
  simp only [PyData.eqv]
theorem beq_dec {p q : Int} : (p == q) = decide (p = q) := by by_cases h : p = q <;> simp [h]
theorem x_eqI {p q : Int} : cEq (.int p) (.int q) = some (.im (.bl (eqB p q))) := by unfold cEq; rw [eqD_int, beq_dec]; rfl
theorem x_neI {p q : Int} : cNe (.int p) (.int q) = some (.im (.bl (!eqB p q))) := by unfold cNe; rw [eqD_int, beq_dec]; rfl
theorem lt_t {p q : Int} (h : p < q) : ltB p q = true := decide_eq_true h
theorem lt_f {p q : Int} (h : ¬ p < q) : ltB p q = false := decide_eq_false h
theorem le_t {p q : Int} (h : p ≤ q) : leB p q = true := decide_eq_true h
theorem le_f {p q : Int} (h : ¬ p ≤ q) : leB p q = false := decide_eq_false h
theorem eq_t {p q : Int} (h : p = q) : eqB p q = true := decide_eq_true h
theorem eq_f {p q : Int} (h : ¬ p = q) : eqB p q = false := decide_eq_false h
theorem ble_f {n m : Nat} (h : ¬ n ≤ m) : Nat.ble n m = false := by
  cases q : Nat.ble n m with
  | false => rfl
  | true => exact absurd (Nat.le_of_ble_eq_true q) h
theorem ble_t {n m : Nat} (h : n ≤ m) : Nat.ble n m = true := Nat.ble_eq_true_of_le h
theorem x_isN {x : D} : cIsN x .non = some (.im (.bl (isNonD x))) := (rfl)
theorem x_isNotN {x : D} : cIsNotN x .non = some (.im (.bl (!isNonD x))) := (rfl)
theorem x_isB {p q : Bool} : cIsB (.bl p) (.bl q) = some (.im (.bl (decide (p = q)))) := (rfl)
theorem x_isNotB {p q : Bool} : cIsNotB (.bl p) (.bl q) = some (.im (.bl (!decide (p = q)))) := (rfl)
theorem x_ixL {k : Int} : ixD (.lst ds) (.int k) = (atI ds k).map .im := (rfl)
theorem x_ixT {k : Int} : ixD (.tup ds) (.int k) = (atI ds k).map .im := (rfl)
theorem x_ixS {ns : List Int} {k : Int} : ixD (.scr ns) (.int k) = (atI ns k).map fun n => .im (.int n) := (rfl)
theorem x_len : bLen [.lst ds] = some (.im (.int ds.length)) := (rfl)
theorem x_lenT : bLen [.tup ds] = some (.im (.int ds.length)) := (rfl)
theorem x_lenS {ns : List Int} : bLen [.scr ns] = some (.im (.int ns.length)) := (rfl)
theorem x_max {p q : Int} : bMax2 [.int p, .int q] = some (.im (.int (if q > p then q else p))) := (rfl)
theorem x_min {p q : Int} : bMin2 [.int p, .int q] = some (.im (.int (if q < p then q else p))) := (rfl)
theorem x_list : bList [.lst ds] = some (.own ds) := (rfl)
theorem x_isi : bIsi [d, e] = (isiD d e).map fun b => .im (.bl b) := (rfl)
/-! statements -/
theorem x_next : sNext ρ = .nx ρ := (rfl)
theorem x_sSeq {g k : DL.Env → Out} : sSeq g k ρ = (g ρ).seq k := (rfl)
theorem x_set {f : DL.Env → R Rv} : sSet i f ρ = (f ρ).toO fun rv ρ => .nx (ρ.set i (.im rv.d)) := (rfl)
theorem x_setO {f : DL.Env → R Rv} : sSetO i f ρ = (f ρ).toO fun rv ρ => .nx (ρ.set i rv.sl) := (rfl)
theorem x_drop {f : DL.Env → R Rv} : sDrop f ρ = (f ρ).toO fun _ ρ => .nx ρ := (rfl)
theorem x_ret {f : DL.Env → R Rv} : sRet f ρ = (f ρ).toO fun rv ρ => .ret rv ρ := (rfl)
theorem x_sIf {t : DL.Env → R Bool} {g k : DL.Env → Out} : sIf t g k ρ = (t ρ).toO fun c ρ => cond c (g ρ) (k ρ) := (rfl)
def parK (i j : Nat) (ds : List D) (ρ : DL.Env) : Out :=
  match ds with
  | [x, y] => .nx ((ρ.set i (.im x)).set j (.im y))
  | _ => .bad
theorem x_par {f : DL.Env → R (List Av)} : sPar i j f ρ = (f ρ).toO fun as ρ => (lift (ims as) ρ).toO (parK i j) := by
  unfold sPar parK
  rfl
theorem x_parK {x y : D} : parK i j [x, y] ρ = .nx ((ρ.set i (.im x)).set j (.im y)) := (rfl)
def appK1 (o : Option Sl) (i : Nat) (f : DL.Env → R Rv) (ρ : DL.Env) : Out :=
  match o with
  | some (.own _) => (f ρ).toO fun rv ρ => match ρ[i]? with
    | some (.own ds) => if ds.length < 100000 then .nx (ρ.set i (.own (ds ++ [rv.d]))) else .bad
    | _ => .bad
  | _ => .bad
def appK2 (o : Option Sl) (i : Nat) (d : D) (ρ : DL.Env) : Out :=
  match o with
  | some (.own ds) => if ds.length < 100000 then .nx (ρ.set i (.own (ds ++ [d]))) else .bad
  | _ => .bad
theorem x_app {f : DL.Env → R Rv} : sApp i f ρ = appK1 ρ[i]? i f ρ := (rfl)
theorem x_appK1 {f : DL.Env → R Rv} : appK1 (some (.own ds)) i f ρ = (f ρ).toO fun rv ρ => appK2 ρ[i]? i rv.d ρ := (rfl)
theorem x_appK2 (h : ds.length < 100000) : appK2 (some (.own ds)) i d ρ = .nx (ρ.set i (.own (ds ++ [d]))) := if_pos h
def stK2 (o : Option Sl) (i : Nat) (k : D) (d : D) (ρ : DL.Env) : Out :=
  match o, k with
  | some (.own ds), .int k => match ixN ds.length k with
    | some j => .nx (ρ.set i (.own (ds.set j d)))
    | none => .bad
  | _, _ => .bad
def stK1 (o : Option Sl) (i : Nat) (fk : DL.Env → R Rv) (d : D) (ρ : DL.Env) : Out :=
  match o with
  | some (.own _) => (fk ρ).toO fun kv ρ => stK2 ρ[i]? i kv.d d ρ
  | _ => .bad
theorem x_setIx {fk f : DL.Env → R Rv} : sSetIx i fk f ρ = (f ρ).toO fun rv ρ => stK1 ρ[i]? i fk rv.d ρ := by
  unfold sSetIx stK1 stK2
  rfl
theorem x_stK1 {fk : DL.Env → R Rv} : stK1 (some (.own ds)) i fk d ρ = (fk ρ).toO fun kv ρ => stK2 ρ[i]? i kv.d d ρ := (rfl)
def stK3 (o : Option Nat) (i : Nat) (ds : List D) (d : D) (ρ : DL.Env) : Out :=
  match o with
  | some j => .nx (ρ.set i (.own (ds.set j d)))
  | none => .bad
theorem x_stK2 {k : Int} : stK2 (some (.own ds)) i (.int k) d ρ = stK3 (ixN ds.length k) i ds d ρ := by
  show (match ixN ds.length k with | some j => Out.nx (ρ.set i (.own (ds.set j d))) | none => .bad) = _
  cases ixN ds.length k <;> rfl
theorem x_stK3 : stK3 (some j) i ds d ρ = .nx (ρ.set i (.own (ds.set j d))) := (rfl)
theorem x_for {fi : DL.Env → R (List D)} {tg : Tg} {g : DL.Env → Out} : sFor fi tg g ρ = (fi ρ).toO fun ds ρ => dFor (stepOf tg g) ds ρ := (rfl)
def asgK (o : Option DL.Env) : Out :=
  match o with
  | some ρ' => .nx ρ'
  | none => .bad
theorem x_asg {tg : Tg} {f : DL.Env → R Rv} : sAsg tg f ρ = (f ρ).toO fun rv ρ => asgK (tg rv.d ρ) := (rfl)
theorem x_asgK : asgK (some ρ) = .nx ρ := (rfl)
theorem x_tgName : tgName j d ρ = some (ρ.set j (.im d)) := (rfl)
theorem x_tgTup {ts : List Tg} : tgTup ts (.tup ds) ρ = tgAll ts ds ρ := (rfl)
theorem x_tgAll0 : tgAll [] [] ρ = some ρ := (rfl)
theorem x_tgAll1 {t : Tg} {ts : List Tg} : tgAll (t :: ts) (d :: ds) ρ = (t d ρ).bind fun ρ => tgAll ts ds ρ := (rfl)
theorem x_step {tg : Tg} {g : DL.Env → Out} {ρ' : DL.Env} (h : tg d ρ = some ρ') : stepOf tg g d ρ = g ρ' := by unfold stepOf; rw [h]
theorem x_iList {f : DL.Env → R Rv} : iListD f ρ = (f ρ).bind fun x ρ => match x.d with | .lst ds => .ok ds ρ | .scr ns => .ok (ns.map D.int) ρ | _ => .bad := (rfl)
def rng1K (as : List Av) (ρ : DL.Env) : R (List D) :=
  match as with
  | [.im (.int j)] => if -(2 ^ 60) < j ∧ j < 2 ^ 60 then .ok (rngD 0 j.toNat) ρ else .bad
  | _ => .bad
theorem x_rng1 {f : DL.Env → R (List Av)} : iRng1D f ρ = (f ρ).bind rng1K := (rfl)
theorem x_rng1K {j : Int} (h1 : -(2 ^ 60) < j) (h2 : j < 2 ^ 60) : rng1K [.im (.int j)] ρ = .ok (rngD 0 j.toNat) ρ := if_pos ⟨h1, h2⟩
def rng2K (as : List Av) (ρ : DL.Env) : R (List D) :=
  match as with
  | [.im (.int i), .im (.int j)] => if (-(2 ^ 60) < i ∧ i < 2 ^ 60) ∧ -(2 ^ 60) < j ∧ j < 2 ^ 60 then .ok (rngD i (j - i).toNat) ρ else .bad
  | _ => .bad
theorem x_rng2 {f : DL.Env → R (List Av)} : iRng2D f ρ = (f ρ).bind rng2K := (rfl)
theorem x_rng2K {i j : Int} (h1 : -(2 ^ 60) < i) (h2 : i < 2 ^ 60) (h3 : -(2 ^ 60) < j) (h4 : j < 2 ^ 60) : rng2K [.im (.int i), .im (.int j)] ρ = .ok (rngD i (j - i).toNat) ρ := if_pos ⟨⟨h1, h2⟩, h3, h4⟩
def zipK (as : List Av) (ρ : DL.Env) : R (List D) :=
  match as with
  | [.im (.lst ds), .im (.lst es)] => .ok (zipD ds es) ρ
  | _ => .bad
theorem x_zip {f : DL.Env → R (List Av)} : iZipD f ρ = (f ρ).bind zipK := (rfl)
theorem x_zipK : zipK [.im (.lst ds), .im (.lst es)] ρ = .ok (zipD ds es) ρ := (rfl)
/-! calls -/
theorem x_call {F : DL.Env → R Rv} {fa : DL.Env → R (List Av)} : eCall n F fa ρ = (fa ρ).bind fun avs ρ => doCall n F avs ρ := (rfl)
theorem x_call0 {F : DL.Env → R Rv} {fa : DL.Env → R (List Av)} : eCall0 n F fa ρ = (fa ρ).bind fun avs ρ => (doCall n F avs ρ).nx := (rfl)
theorem x_do {F : DL.Env → R Rv} {avs : List Av} {as as' : DL.Env} (h1 : avs.length = n) (h2 : (slots avs).Nodup) (h3 : argsOf ρ avs = some as) (h : F as = .ok rv as') : doCall n F avs ρ = .ok rv (putBack avs as' ρ) := by
  unfold doCall
  rw [if_pos ⟨h1, h2⟩, h3]
  show backTo1 avs ρ (F as) = _
  rw [h]
  rfl
/-- one argument, two, three, that stay -/
theorem x_do1 {F : DL.Env → R Rv} {as' : DL.Env} (h : F [.im d] = .ok rv as') : doCall 1 F [.im d] ρ = .ok rv ρ := by
  refine (x_do (n := 1) (avs := [.im d]) rfl (by simp [slots]) rfl h).trans ?_
  cases as' <;> rfl
theorem pb_ims1 {as' : DL.Env} : putBack [.im d] as' ρ = ρ := by cases as' <;> rfl
theorem pb_ims2 {as' : DL.Env} : putBack [.im d, .im e] as' ρ = ρ := by
  cases as' with
  | nil => rfl
  | cons a r => cases r <;> rfl
theorem pb_ims3 {f : D} {as' : DL.Env} : putBack [.im d, .im e, .im f] as' ρ = ρ := by
  cases as' with
  | nil => rfl
  | cons a r =>
    cases r with
    | nil => rfl
    | cons b r => cases r <;> rfl
theorem x_do2 {F : DL.Env → R Rv} {as' : DL.Env} (h : F [.im d, .im e] = .ok rv as') : doCall 2 F [.im d, .im e] ρ = .ok rv ρ := by
  exact (x_do (n := 2) (avs := [.im d, .im e]) rfl (by simp [slots]) rfl h).trans (by rw [pb_ims2])
theorem x_do3 {F : DL.Env → R Rv} {f : D} {as' : DL.Env} (h : F [.im d, .im e, .im f] = .ok rv as') : doCall 3 F [.im d, .im e, .im f] ρ = .ok rv ρ := by
  exact (x_do (n := 3) (avs := [.im d, .im e, .im f]) rfl (by simp [slots]) rfl h).trans (by rw [pb_ims3])
/-- one to be changed, then none or one that stays -/
theorem args_s {as : List Av} {bs : DL.Env} (h : ρ[i]? = some (.own ds)) (h2 : argsOf ρ as = some bs) : argsOf ρ (.sl i :: as) = some (.own ds :: bs) := by
  rw [argsOf]
  rw [h]
  simp only [h2, Option.map_some]
theorem x_doS {F : DL.Env → R Rv} {b : Sl} (h0 : ρ[i]? = some (.own ds)) (h : F [.own ds] = .ok rv [b]) : doCall 1 F [.sl i] ρ = .ok rv (ρ.set i b) := by
  exact (x_do (n := 1) (avs := [.sl i]) rfl (by simp [slots]) (args_s h0 rfl) h).trans rfl
theorem x_doSI {F : DL.Env → R Rv} {b c : Sl} (h0 : ρ[i]? = some (.own ds)) (h : F [.own ds, .im d] = .ok rv [b, c]) : doCall 2 F [.sl i, .im d] ρ = .ok rv (ρ.set i b) := by
  exact (x_do (n := 2) (avs := [.sl i, .im d]) rfl (by simp [slots]) (args_s h0 rfl) h).trans rfl
/-! runs of defs -/
theorem x_run {ks : List Nat} {g : DL.Env → Out} {as : DL.Env} (h : ownOk ks 0 as = true) : runDef n ks g as = endOf as (g (as ++ List.replicate (n - as.length) .no)) := if_pos h
theorem u_nil {rs : DL.Env} : outs [] rs = [] := (rfl)
theorem u_im {as rs : DL.Env} {r : Sl} : outs (.im d :: as) (r :: rs) = .im d :: outs as rs := (rfl)
theorem u_own {as rs : DL.Env} {r : Sl} : outs (.own ds :: as) (r :: rs) = r :: outs as rs := (rfl)
theorem x_endR {as : DL.Env} : endOf as (.ret rv ρ) = .ok rv (outs as ρ) := (rfl)
theorem x_endN {as : DL.Env} : endOf as (.nx ρ) = .ok (.im .non) (outs as ρ) := (rfl)
/-! loops -/
theorem dFor_cons {step : D → DL.Env → Out} {ρ' : DL.Env} (h : step d ρ = .nx ρ') : dFor step (d :: ds) ρ = dFor step ds ρ' := by
  show (match step d ρ with | .nx ρ' => dFor step ds ρ' | .ct ρ' => dFor step ds ρ' | .brk ρ' => .nx ρ' | o => o) = _
  rw [h]
theorem dFor_ret {step : D → DL.Env → Out} {ρ' : DL.Env} (h : step d ρ = .ret rv ρ') : dFor step (d :: ds) ρ = .ret rv ρ' := by
  show (match step d ρ with | .nx ρ' => dFor step ds ρ' | .ct ρ' => dFor step ds ρ' | .brk ρ' => .nx ρ' | o => o) = _
  rw [h]
theorem dFor_nil {step : D → DL.Env → Out} : dFor step [] ρ = .nx ρ := (rfl)
theorem dFor_inv {step : D → DL.Env → Out} : ∀ (items : List D) (P : Nat → DL.Env → Prop) (i0 : Nat) (ρ : DL.Env), P i0 ρ → (∀ i d ρ, items[i]? = some d → P (i0 + i) ρ → ∃ ρ', step d ρ = .nx ρ' ∧ P (i0 + i + 1) ρ') → ∃ ρ', dFor step items ρ = .nx ρ' ∧ P (i0 + items.length) ρ'
  | [], P, i0, ρ, h0, _ => ⟨ρ, rfl, h0⟩
  | d :: ds, P, i0, ρ, h0, hs => by
    obtain ⟨ρ1, e1, p1⟩ := hs 0 d ρ rfl h0
    obtain ⟨ρ2, e2, p2⟩ := dFor_inv ds P (i0 + 1) ρ1 p1 fun i d' ρ' hi hp => by
      have e : i0 + 1 + i = i0 + (i + 1) := by omega
      rw [e] at hp ⊢
      exact hs (i + 1) d' ρ' (by simpa using hi) hp
    refine ⟨ρ2, (dFor_cons e1).trans e2, ?_⟩
    have e : i0 + 1 + ds.length = i0 + (d :: ds).length := by
      rw [List.length_cons]
      omega
    rwa [e] at p2
theorem dFor_run {step : D → DL.Env → Out} {items : List D} (P : Nat → DL.Env → Prop) {ρ : DL.Env} (h0 : P 0 ρ) (hs : ∀ i d ρ, items[i]? = some d → P i ρ → ∃ ρ', step d ρ = .nx ρ' ∧ P (i + 1) ρ') : ∃ ρ', dFor step items ρ = .nx ρ' ∧ P items.length ρ' := by
  obtain ⟨ρ', e, p⟩ := dFor_inv items P 0 ρ h0 fun i d ρ hi hp => by
    rw [Nat.zero_add] at hp ⊢
    exact hs i d ρ hi hp
  rw [Nat.zero_add] at p
  exact ⟨ρ', e, p⟩
/-! comprehensions -/
theorem x_comp {vs : List Nat} {fi : DL.Env → R (List D)} {tg : Tg} {ft : DL.Env → R Bool} {fe : DL.Env → R Rv} :
    eComp vs fi tg ft fe ρ = (fi ρ).bind fun items ρ => cond (okW vs ρ) ((dComp vs tg ft fe [] items ρ).bind fun acc ρ => .ok (.own acc) ρ) .bad := (rfl)
theorem dComp_cons {vs : List Nat} {tg : Tg} {ft : DL.Env → R Bool} {fe : DL.Env → R Rv} {acc : List D} {ρ2 ρ3 ρ4 : DL.Env} (h1 : tg d (wipeE ρ vs) = some ρ2) (h2 : ft ρ2 = .ok true ρ3) (h3 : fe ρ3 = .ok rv ρ4) (h4 : acc.length < 100000) :
    dComp vs tg ft fe acc (d :: ds) ρ = dComp vs tg ft fe (acc ++ [rv.d]) ds (restore ρ vs ρ4) := by
  rw [dComp, h1]
  show ((ft ρ2).nx).bind _ = _
  rw [h2]
  show ((fe ρ3).nx).bind _ = _
  rw [h3]
  exact if_pos h4
theorem dComp_skip {vs : List Nat} {tg : Tg} {ft : DL.Env → R Bool} {fe : DL.Env → R Rv} {acc : List D} {ρ2 ρ3 : DL.Env} (h1 : tg d (wipeE ρ vs) = some ρ2) (h2 : ft ρ2 = .ok false ρ3) :
    dComp vs tg ft fe acc (d :: ds) ρ = dComp vs tg ft fe acc ds (restore ρ vs ρ3) := by
  rw [dComp, h1]
  show ((ft ρ2).nx).bind _ = _
  rw [h2]
  rfl
theorem dComp_nil {vs : List Nat} {tg : Tg} {ft : DL.Env → R Bool} {fe : DL.Env → R Rv} {acc : List D} : dComp vs tg ft fe acc [] ρ = .ok acc ρ := by rw [dComp]
theorem dComp_inv {vs : List Nat} {tg : Tg} {ft : DL.Env → R Bool} {fe : DL.Env → R Rv} : ∀ (items : List D) (P : Nat → List D → DL.Env → Prop) (i0 : Nat) (acc : List D) (ρ : DL.Env), i0 + items.length ≤ 100000 → acc.length ≤ i0 → P i0 acc ρ →
    (∀ i d acc ρ, items[i]? = some d → P (i0 + i) acc ρ → ∃ ρ2, tg d (wipeE ρ vs) = some ρ2 ∧
      ((∃ rv ρ3 ρ4, ft ρ2 = .ok true ρ3 ∧ fe ρ3 = .ok rv ρ4 ∧ P (i0 + i + 1) (acc ++ [rv.d]) (restore ρ vs ρ4)) ∨ ∃ ρ3, ft ρ2 = .ok false ρ3 ∧ P (i0 + i + 1) acc (restore ρ vs ρ3))) →
    ∃ acc' ρ', dComp vs tg ft fe acc items ρ = .ok acc' ρ' ∧ P (i0 + items.length) acc' ρ'
  | [], P, i0, acc, ρ, _, _, h0, _ => ⟨acc, ρ, dComp_nil, h0⟩
  | d :: ds, P, i0, acc, ρ, hl, ha, h0, hs => by
    rw [List.length_cons] at hl
    have next : ∀ (acc1 : List D) (ρ1 : DL.Env), acc1.length ≤ i0 + 1 → P (i0 + 1) acc1 ρ1 → ∃ acc' ρ', dComp vs tg ft fe acc1 ds ρ1 = .ok acc' ρ' ∧ P (i0 + (d :: ds).length) acc' ρ' := fun acc1 ρ1 h1 h2 => by
      obtain ⟨acc2, ρ2, e2, p2⟩ := dComp_inv ds P (i0 + 1) acc1 ρ1 (by omega) h1 h2 fun i d' acc' ρ' hi hp => by
        have e : i0 + 1 + i = i0 + (i + 1) := by omega
        rw [e] at hp ⊢
        exact hs (i + 1) d' acc' ρ' (by simpa using hi) hp
      refine ⟨acc2, ρ2, e2, ?_⟩
      have e : i0 + 1 + ds.length = i0 + (d :: ds).length := by
        rw [List.length_cons]
        omega
      rwa [e] at p2
    obtain ⟨ρ2, e1, h⟩ := hs 0 d acc ρ rfl h0
    rcases h with ⟨rv, ρ3, ρ4, e2, e3, p⟩ | ⟨ρ3, e2, p⟩
    · obtain ⟨acc', ρ', e, p'⟩ := next _ _ (by rw [List.length_append, List.length_singleton]; omega) p
      exact ⟨acc', ρ', (dComp_cons e1 e2 e3 (by omega)).trans e, p'⟩
    · obtain ⟨acc', ρ', e, p'⟩ := next _ _ (by omega) p
      exact ⟨acc', ρ', (dComp_skip e1 e2).trans e, p'⟩
theorem dComp_run {vs : List Nat} {tg : Tg} {ft : DL.Env → R Bool} {fe : DL.Env → R Rv} {items : List D} (P : Nat → List D → DL.Env → Prop) {ρ : DL.Env} (hl : items.length ≤ 100000) (h0 : P 0 [] ρ)
    (hs : ∀ i d acc ρ, items[i]? = some d → P i acc ρ → ∃ ρ2, tg d (wipeE ρ vs) = some ρ2 ∧
      ((∃ rv ρ3 ρ4, ft ρ2 = .ok true ρ3 ∧ fe ρ3 = .ok rv ρ4 ∧ P (i + 1) (acc ++ [rv.d]) (restore ρ vs ρ4)) ∨ ∃ ρ3, ft ρ2 = .ok false ρ3 ∧ P (i + 1) acc (restore ρ vs ρ3))) :
    ∃ acc' ρ', dComp vs tg ft fe [] items ρ = .ok acc' ρ' ∧ P items.length acc' ρ' := by
  obtain ⟨acc', ρ', e, p⟩ := dComp_inv (vs := vs) (tg := tg) (ft := ft) (fe := fe) items P 0 [] ρ (by omega) (by simp) h0 fun i d acc ρ hi hp => by
    rw [Nat.zero_add] at hp ⊢
    exact hs i d acc ρ hi hp
  rw [Nat.zero_add] at p
  exact ⟨acc', ρ', e, p⟩
/-- every item gives one value, nothing else changes -/
theorem dComp_map {vs : List Nat} {tg : Tg} {fe : DL.Env → R Rv} {items vals : List D} {ρ : DL.Env} (hl : items.length ≤ 100000) (hv : vals.length = items.length)
    (hs : ∀ (i : Nat) d v, items[i]? = some d → vals[i]? = some v → ∃ ρ2 ρ4 rv, tg d (wipeE ρ vs) = some ρ2 ∧ fe ρ2 = .ok rv ρ4 ∧ rv.d = v ∧ restore ρ vs ρ4 = ρ) :
    dComp vs tg tYesD fe [] items ρ = .ok vals ρ := by
  obtain ⟨acc', ρ', e, rfl, rfl⟩ := dComp_run (vs := vs) (tg := tg) (ft := tYesD) (fe := fe) (items := items) (fun i acc ρ' => acc = vals.take i ∧ ρ' = ρ) (ρ := ρ) hl ⟨rfl, rfl⟩ fun i d acc ρ' hi hp => by
    obtain ⟨rfl, rfl⟩ := hp
    have hil : i < vals.length := by
      rw [hv]
      exact (List.getElem?_eq_some_iff.mp hi).1
    obtain ⟨ρ2, ρ4, rv, e1, e2, e3, e4⟩ := hs i d vals[i] hi (List.getElem?_eq_getElem hil)
    exact ⟨ρ2, e1, .inl ⟨rv, ρ2, ρ4, rfl, e2, by rw [e3, List.take_add_one, List.getElem?_eq_getElem hil]; rfl, e4⟩⟩
  rw [e, ← hv, List.take_length]
theorem g_zero {a : α} {l : List α} : (a :: l)[0]? = some a := (rfl)
theorem g_succ {a : α} {l : List α} {i : Nat} : (a :: l)[i + 1]? = l[i]? := (rfl)
theorem s_zero {a b : α} {l : List α} : (a :: l).set 0 b = b :: l := (rfl)
theorem s_succ {a b : α} {l : List α} {i : Nat} : (a :: l).set (i + 1) b = a :: l.set i b := (rfl)
theorem o_map {f : α → β} {a : α} : (some a).map f = some (f a) := (rfl)
theorem o_bind {f : α → Option β} {a : α} : (some a).bind f = f a := (rfl)
theorem c_true {a b : α} : cond true a b = a := (rfl)
theorem c_false {a b : α} : cond false a b = b := (rfl)
theorem l_cons {a : α} {l : List α} : (a :: l).length = l.length + 1 := (rfl)
theorem l_nil : ([] : List α).length = 0 := (rfl)
theorem tn1 {k : Nat} : ((k : Int) + 1).toNat = k + 1 := by omega
theorem tn0 {k : Nat} : (0 + (k : Int)) = (k : Int) := by omega
theorem ix0 {a : α} {l : List α} : atI (a :: l) 0 = some a := atI_nat (xs := a :: l) (j := 0) (v := a) rfl
theorem ix1 {a b : α} {l : List α} : atI (a :: b :: l) 1 = some b := atI_nat (xs := a :: b :: l) (j := 1) (v := b) rfl
theorem ix2 {a b c : α} {l : List α} : atI (a :: b :: c :: l) 2 = some c := atI_nat (xs := a :: b :: c :: l) (j := 2) (v := c) rfl
theorem ix3 {a b c d : α} {l : List α} : atI (a :: b :: c :: d :: l) 3 = some d := atI_nat (xs := a :: b :: c :: d :: l) (j := 3) (v := d) rfl
theorem ix4 {a b c d e : α} {l : List α} : atI (a :: b :: c :: d :: e :: l) 4 = some e := atI_nat (xs := a :: b :: c :: d :: e :: l) (j := 4) (v := e) rfl
theorem ixm {a : α} {l : List α} : atI (l ++ [a]) (-1) = some a := atI_last l a
theorem ixN_at {n : Nat} {k : Int} (h1 : 0 ≤ k) (h2 : k < n) : ixN n k = some k.toNat := by
  unfold ixN
  rw [if_pos h1, if_pos h2]
theorem atI_at {xs : List α} {k : Int} (h1 : 0 ≤ k) (h2 : k < xs.length) : atI xs k = xs[k.toNat]? := by
  unfold atI
  rw [ixN_at h1 h2]
  rfl
/-- a loop that goes on while a test holds, else gives rv back; e: the frame by the loop's name -/
theorem dFor_test {step : D → DL.Env → Out} {ev : Sl → DL.Env} {p : D → Bool} {rv : Rv} : ∀ (items : List D) (x : Sl), (∀ d ∈ items, ∀ x, step d (ev x) = cond (p d) (.nx (ev (.im d))) (.ret rv (ev (.im d)))) →
    ∃ y, dFor step items (ev x) = cond (items.all p) (.nx (ev y)) (.ret rv (ev y))
  | [], x, _ => ⟨x, rfl⟩
  | d :: ds, x, h => by
    have h1 := h d List.mem_cons_self x
    cases hp : p d with
    | true =>
      rw [hp, cond_true] at h1
      obtain ⟨y, e⟩ := dFor_test ds (.im d) fun d' hd x => h d' (List.mem_cons_of_mem _ hd) x
      refine ⟨y, ?_⟩
      rw [dFor_cons h1, e, List.all_cons, hp, Bool.true_and]
    | false =>
      rw [hp, cond_false] at h1
      refine ⟨.im d, ?_⟩
      rw [dFor_ret h1, List.all_cons, hp, Bool.false_and, cond_false]
theorem rngD_cons {lo : Int} {n : Nat} : rngD lo (n + 1) = .int lo :: rngD (lo + 1) n := by
  unfold rngD
  rw [List.range_succ_eq_map, List.map_cons, List.map_map]
  congr 1
  · show D.int (lo + ((0 : Nat) : Int)) = _
    simp
  · refine List.map_congr_left fun k _ => ?_
    show D.int (lo + ((k + 1 : Nat) : Int)) = D.int (lo + 1 + (k : Int))
    congr 1
    omega
theorem rngD_nil {lo : Int} : rngD lo 0 = [] := (rfl)
/-! equality of lists of whole numbers -/
theorem pyA_ints : ∀ ns : List Int, pyA (ns.map D.int) = some (ns.map PyData.int)
  | [] => by simp only [List.map_nil, pyA]
  | n :: r => by
    rw [List.map_cons, pyA, pyA_ints r]
    simp only [D.py]
    rfl
theorem canLay_ints : ∀ ns : List Int, PyData.canLayAll0 (ns.map PyData.int) = true
  | [] => by simp only [List.map_nil, PyData.canLayAll0]
  | n :: r => by
    rw [List.map_cons, PyData.canLayAll0, canLay_ints r]
    simp only [PyData.canLay0, Bool.and_self]
theorem depth_ints : ∀ ns : List Int, PyData.depthAll (ns.map PyData.int) = 0
  | [] => by simp only [List.map_nil, PyData.depthAll]
  | n :: r => by
    rw [List.map_cons, PyData.depthAll, depth_ints r]
    simp only [PyData.depth, Nat.max_self]
theorem shaped_ints (ns : List Int) : SeqAt.shaped (.list (ns.map PyData.int)) = true := by
  simp only [SeqAt.shaped, PyData.canLay0, canLay_ints, PyData.depth, depth_ints]
  decide
theorem eqv_ints : ∀ ns ms : List Int, PyData.eqvAll (ns.map PyData.int) (ms.map PyData.int) = decide (ns = ms)
  | [], [] => by simp [PyData.eqvAll]
  | [], _ :: _ => by simp [PyData.eqvAll]
  | _ :: _, [] => by simp [PyData.eqvAll]
  | n :: r, m :: q => by
    rw [List.map_cons, List.map_cons, PyData.eqvAll, eqv_ints r q]
    simp only [PyData.eqv]
    by_cases h : n = m
    · by_cases h2 : r = q <;> simp [h, h2]
    · simp [h]
theorem eqD_ints (ns ms : List Int) : eqD (.lst (ns.map D.int)) (.lst (ms.map D.int)) = some (decide (ns = ms)) := by
  unfold eqD
  simp only [D.py, pyA_ints, Option.map_some]
  rw [if_pos ⟨shaped_ints ns, shaped_ints ms⟩]
  simp only [PyData.eqv, eqv_ints]
def eqLB (ns ms : List Int) : Bool := decide (ns = ms)
theorem eqL_t {ns ms : List Int} (h : ns = ms) : eqLB ns ms = true := decide_eq_true h
theorem eqL_f {ns ms : List Int} (h : ¬ ns = ms) : eqLB ns ms = false := decide_eq_false h
theorem x_eqL {ns ms : List Int} : cEq (.lst (ns.map D.int)) (.lst (ms.map D.int)) = some (.im (.bl (eqLB ns ms))) := by unfold cEq; rw [eqD_ints]; rfl
theorem x_neL {ns ms : List Int} : cNe (.lst (ns.map D.int)) (.lst (ms.map D.int)) = some (.im (.bl (!eqLB ns ms))) := by unfold cNe; rw [eqD_ints]; rfl
theorem x_eqL0 {ns : List Int} : cEq (.lst (ns.map D.int)) (.lst []) = some (.im (.bl (eqLB ns []))) := x_eqL (ms := [])
theorem x_neL0 {ns : List Int} : cNe (.lst (ns.map D.int)) (.lst []) = some (.im (.bl (!eqLB ns []))) := x_neL (ms := [])
theorem shaped_bl (b : Bool) : SeqAt.shaped (.bool b) = true := by
  simp [SeqAt.shaped, PyData.canLay0, PyData.depth]
theorem eqD_bl {p q : Bool} : eqD (.bl p) (.bl q) = some (p == q) := by
  unfold eqD
  simp only [D.py]
  rw [if_pos ⟨shaped_bl p, shaped_bl q⟩]
  simp only [PyData.eqv]
theorem x_eqB {p q : Bool} : cEq (.bl p) (.bl q) = some (.im (.bl (p == q))) := by unfold cEq; rw [eqD_bl]; rfl
theorem x_neB {p q : Bool} : cNe (.bl p) (.bl q) = some (.im (.bl (!(p == q)))) := by unfold cNe; rw [eqD_bl]; rfl
/-! isinstance -/
theorem kb_ii : kitB "int" "int" = some true := by decide +kernel
theorem kb_bi : kitB "bool" "int" = some true := by decide +kernel
theorem kb_ni : kitB "NoneType" "int" = some false := by decide +kernel
theorem kb_si : kitB "str" "int" = some false := by decide +kernel
theorem kb_li : kitB "list" "int" = some false := by decide +kernel
theorem kb_ti : kitB "tuple" "int" = some false := by decide +kernel
theorem kb_di : kitB "dict" "int" = some false := by decide +kernel
theorem kb_ib : kitB "int" "bool" = some false := by decide +kernel
theorem kb_bb : kitB "bool" "bool" = some true := by decide +kernel
theorem kb_nb : kitB "NoneType" "bool" = some false := by decide +kernel
theorem kb_sb : kitB "str" "bool" = some false := by decide +kernel
theorem kb_lb : kitB "list" "bool" = some false := by decide +kernel
theorem kb_tb : kitB "tuple" "bool" = some false := by decide +kernel
theorem kb_db : kitB "dict" "bool" = some false := by decide +kernel
theorem kb_il : kitB "int" "list" = some false := by decide +kernel
theorem kb_bl : kitB "bool" "list" = some false := by decide +kernel
theorem kb_nl : kitB "NoneType" "list" = some false := by decide +kernel
theorem kb_sl : kitB "str" "list" = some false := by decide +kernel
theorem kb_ll : kitB "list" "list" = some true := by decide +kernel
theorem kb_tl : kitB "tuple" "list" = some false := by decide +kernel
theorem kb_dl : kitB "dict" "list" = some false := by decide +kernel
theorem kb_it : kitB "int" "tuple" = some false := by decide +kernel
theorem kb_bt : kitB "bool" "tuple" = some false := by decide +kernel
theorem kb_nt : kitB "NoneType" "tuple" = some false := by decide +kernel
theorem kb_st : kitB "str" "tuple" = some false := by decide +kernel
theorem kb_lt : kitB "list" "tuple" = some false := by decide +kernel
theorem kb_tt : kitB "tuple" "tuple" = some true := by decide +kernel
theorem kb_dt : kitB "dict" "tuple" = some false := by decide +kernel
/-- data of the plain kinds -/
def plain : D → Bool
  | .scr _ => false
  | .ref _ => false
  | .ty _ => false
  | _ => true
def isIntD : D → Bool
  | .int _ => true
  | _ => false
def isBoolD : D → Bool
  | .bl _ => true
  | _ => false
def isListD : D → Bool
  | .lst _ => true
  | _ => false
def isTupD : D → Bool
  | .tup _ => true
  | _ => false
theorem isi_int (h : plain d = true) : isiD d (.ty "int") = some (isIntD d || isBoolD d) := by
  cases d <;> first | (exact Bool.noConfusion h) | (unfold isiD; simp only [tyN, Option.bind_some]; first | exact kb_ii | exact kb_bi | exact kb_ni | exact kb_si | exact kb_li | exact kb_ti | exact kb_di)
theorem isi_bool (h : plain d = true) : isiD d (.ty "bool") = some (isBoolD d) := by
  cases d <;> first | (exact Bool.noConfusion h) | (unfold isiD; simp only [tyN, Option.bind_some]; first | exact kb_ib | exact kb_bb | exact kb_nb | exact kb_sb | exact kb_lb | exact kb_tb | exact kb_db)
theorem isi_list (h : plain d = true) : isiD d (.ty "list") = some (isListD d) := by
  cases d <;> first | (exact Bool.noConfusion h) | (unfold isiD; simp only [tyN, Option.bind_some]; first | exact kb_il | exact kb_bl | exact kb_nl | exact kb_sl | exact kb_ll | exact kb_tl | exact kb_dl)
theorem isi_tup (h : plain d = true) : isiD d (.ty "tuple") = some (isTupD d) := by
  cases d <;> first | (exact Bool.noConfusion h) | (unfold isiD; simp only [tyN, Option.bind_some]; first | exact kb_it | exact kb_bt | exact kb_nt | exact kb_st | exact kb_lt | exact kb_tt | exact kb_dt)
theorem w_1 {v : Nat} : wipeE ρ [v] = ρ.set v .no := (rfl)
theorem w_2 {v w : Nat} : wipeE ρ [v, w] = (ρ.set w .no).set v .no := (rfl)
theorem r_1 {v : Nat} {ρ' : DL.Env} : restore ρ [v] ρ' = ρ'.set v (ρ.getD v .no) := (rfl)
theorem r_2 {v w : Nat} {ρ' : DL.Env} : restore ρ [v, w] ρ' = (ρ'.set w (ρ.getD w .no)).set v (ρ.getD v .no) := (rfl)
theorem d_zero {a x : α} {l : List α} : (a :: l).getD 0 x = a := (rfl)
theorem d_succ {a x : α} {l : List α} {i : Nat} : (a :: l).getD (i + 1) x = l.getD i x := (rfl)
theorem k_cons {v : Nat} {vs : List Nat} : okW (v :: vs) ρ = (!isOwn ρ[v]? && okW vs ρ) := (rfl)
theorem k_nil : okW [] ρ = true := (rfl)
theorem k_im : isOwn (some (.im d)) = false := (rfl)
theorem k_no : isOwn (some .no) = false := (rfl)
/-- the items that pass a test -/
theorem dComp_filter {vs : List Nat} {tg : Tg} {ft : DL.Env → R Bool} {fe : DL.Env → R Rv} {ρ : DL.Env} (ns : List Int) (p : Int → Bool) (val : Int → D) (hl : ns.length ≤ 100000)
    (hs : ∀ n ∈ ns, ∃ ρ2 ρ3, tg (.int n) (wipeE ρ vs) = some ρ2 ∧ ft ρ2 = .ok (p n) ρ3 ∧ (p n = false → restore ρ vs ρ3 = ρ) ∧ (p n = true → ∃ ρ4, fe ρ3 = .ok (.im (val n)) ρ4 ∧ restore ρ vs ρ4 = ρ)) :
    dComp vs tg ft fe [] (ns.map D.int) ρ = .ok ((ns.filter p).map val) ρ := by
  obtain ⟨acc', ρ', e, rfl, rfl⟩ := dComp_run (vs := vs) (tg := tg) (ft := ft) (fe := fe) (items := ns.map D.int) (fun i acc ρ' => acc = ((ns.take i).filter p).map val ∧ ρ' = ρ) (ρ := ρ) (by rw [List.length_map]; exact hl) ⟨rfl, rfl⟩ fun i d acc ρ' hi hp => by
    obtain ⟨rfl, rfl⟩ := hp
    rw [List.getElem?_map] at hi
    cases hn : ns[i]? with
    | none => rw [hn] at hi; cases hi
    | some n =>
      rw [hn] at hi
      cases hi
      obtain ⟨ρ2, ρ3, e1, e2, h0, h1⟩ := hs n (List.mem_of_getElem? hn)
      refine ⟨ρ2, e1, ?_⟩
      cases hp : p n with
      | true =>
        obtain ⟨ρ4, e3, e4⟩ := h1 hp
        rw [hp] at e2
        exact .inl ⟨_, ρ3, ρ4, e2, e3, by rw [List.take_add_one, hn, Option.toList_some, List.filter_append, List.map_append, List.filter_cons, if_pos hp]; rfl, e4⟩
      | false =>
        rw [hp] at e2
        exact .inr ⟨ρ3, e2, by rw [List.take_add_one, hn, Option.toList_some, List.filter_append, List.map_append, List.filter_cons, if_neg (by rw [hp]; exact Bool.false_ne_true)]; simp, h0 hp⟩
  rw [e, List.length_map, List.take_length]
theorem atI_int {ns : List Int} {k : Nat} {v : Int} (h : ns[k]? = some v) : atI (ns.map D.int) (k : Int) = some (.int v) := by
  refine atI_nat ?_
  rw [List.getElem?_map, h]
  rfl
theorem cut_take {xs : List α} {k : Nat} : cutD xs none (some (k : Int)) = xs.take k := by
  unfold cutD
  rw [HT.sIx_none, HT.sIx_nat, Nat.sub_zero, List.drop_zero]
  by_cases h : k ≤ xs.length
  · rw [Nat.min_eq_left h]
  · rw [Nat.min_eq_right (by omega), List.take_of_length_le (by omega), List.take_of_length_le (by omega)]
theorem cut_drop {xs : List α} {k : Nat} : cutD xs (some (k : Int)) none = xs.drop k := by
  unfold cutD
  rw [HT.sIx_none, HT.sIx_nat]
  by_cases h : k ≤ xs.length
  · rw [Nat.min_eq_left h]
    exact List.take_of_length_le (by rw [List.length_drop]; omega)
  · rw [Nat.min_eq_right (by omega), Nat.sub_self, List.take_zero, List.drop_of_length_le (by omega)]
end
end DL

namespace Law
open PySem PySem.Spec PyProof.Rows L2 DL
def topS (i : Nat) : Stmt := PySem.Challenge.pw_tillpress_k06_whole_levels_and_tills.main.body.getD i (.Pass ⟨0, 0, 0, 0⟩)
abbrev s_is_whole : Stmt := topS 6
abbrev s_are_counts : Stmt := topS 7
abbrev s_are_coins : Stmt := topS 12
abbrev s_check_coins : Stmt := topS 13
abbrev s_are_for_each : Stmt := topS 14
abbrev s_is_till : Stmt := topS 15
abbrev s_check_till : Stmt := topS 16
abbrev s_levels_of : Stmt := topS 17
abbrev s_are_levels : Stmt := topS 18
abbrev s_check_levels : Stmt := topS 19
abbrev s_till_of : Stmt := topS 20
abbrev s__law_sack : Stmt := topS 22
abbrev s__law_fetch : Stmt := topS 23
abbrev s__law_mint : Stmt := topS 24
abbrev s__law_lot : Stmt := topS 25
abbrev s__law_exchanged : Stmt := topS 26
abbrev s__law_exchange_right : Stmt := topS 27
abbrev s__law_wider_right : Stmt := topS 28
abbrev s_law : Stmt := topS 29
theorem sc_is_whole : FnScope ["thing"] ["thing"] (defScope s_is_whole) := ⟨rfl, rfl, rfl, by decide +kernel, rfl, by decide +kernel, by decide +kernel⟩
theorem sc_are_counts : FnScope ["thing", "number"] ["thing"] (defScope s_are_counts) := ⟨rfl, rfl, rfl, by decide +kernel, rfl, by decide +kernel, by decide +kernel⟩
theorem sc_are_coins : FnScope ["thing", "k"] ["thing"] (defScope s_are_coins) := ⟨rfl, rfl, rfl, by decide +kernel, rfl, by decide +kernel, by decide +kernel⟩
theorem sc_check_coins : FnScope ["thing"] ["thing"] (defScope s_check_coins) := ⟨rfl, rfl, rfl, by decide +kernel, rfl, by decide +kernel, by decide +kernel⟩
theorem sc_are_for_each : FnScope ["coins", "thing"] ["coins", "thing"] (defScope s_are_for_each) := ⟨rfl, rfl, rfl, by decide +kernel, rfl, by decide +kernel, by decide +kernel⟩
theorem sc_is_till : FnScope ["coins", "thing"] ["coins", "thing"] (defScope s_is_till) := ⟨rfl, rfl, rfl, by decide +kernel, rfl, by decide +kernel, by decide +kernel⟩
theorem sc_check_till : FnScope ["coins", "thing"] ["coins", "thing"] (defScope s_check_till) := ⟨rfl, rfl, rfl, by decide +kernel, rfl, by decide +kernel, by decide +kernel⟩
theorem sc_levels_of : FnScope ["coins", "till", "levels", "worth", "coin", "many"] ["coins", "till"] (defScope s_levels_of) := ⟨rfl, rfl, rfl, by decide +kernel, rfl, by decide +kernel, by decide +kernel⟩
theorem sc_are_levels : FnScope ["coins", "thing", "below", "coin", "level"] ["coins", "thing"] (defScope s_are_levels) := ⟨rfl, rfl, rfl, by decide +kernel, rfl, by decide +kernel, by decide +kernel⟩
theorem sc_check_levels : FnScope ["coins", "thing"] ["coins", "thing"] (defScope s_check_levels) := ⟨rfl, rfl, rfl, by decide +kernel, rfl, by decide +kernel, by decide +kernel⟩
theorem sc_till_of : FnScope ["coins", "levels", "till", "below", "coin", "level"] ["coins", "levels"] (defScope s_till_of) := ⟨rfl, rfl, rfl, by decide +kernel, rfl, by decide +kernel, by decide +kernel⟩
theorem sc__law_sack : FnScope ["script", "k", "cell"] ["script", "k"] (defScope s__law_sack) := ⟨rfl, rfl, rfl, by decide +kernel, rfl, by decide +kernel, by decide +kernel⟩
theorem sc__law_fetch : FnScope ["sack", "many", "found", "mixed"] ["sack", "many"] (defScope s__law_fetch) := ⟨rfl, rfl, rfl, by decide +kernel, rfl, by decide +kernel, by decide +kernel⟩
theorem sc__law_mint : FnScope ["sack", "found", "turn", "most", "some"] ["sack"] (defScope s__law_mint) := ⟨rfl, rfl, rfl, by decide +kernel, rfl, by decide +kernel, by decide +kernel⟩
theorem sc__law_lot : FnScope ["sack", "mint", "few", "coin"] ["sack", "mint"] (defScope s__law_lot) := ⟨rfl, rfl, rfl, by decide +kernel, rfl, by decide +kernel, by decide +kernel⟩
theorem sc__law_exchanged : FnScope ["mint", "lot", "k", "found"] ["mint", "lot", "k"] (defScope s__law_exchanged) := ⟨rfl, rfl, rfl, by decide +kernel, rfl, by decide +kernel, by decide +kernel⟩
theorem sc__law_exchange_right : FnScope ["mint", "lot", "k", "high", "due"] ["mint", "lot", "k"] (defScope s__law_exchange_right) := ⟨rfl, rfl, rfl, by decide +kernel, rfl, by decide +kernel, by decide +kernel⟩
theorem sc__law_wider_right : FnScope ["mint", "lot", "k", "part", "ways", "factor", "wider", "more", "high"] ["mint", "lot", "k"] (defScope s__law_wider_right) := ⟨rfl, rfl, rfl, by decide +kernel, rfl, by decide +kernel, by decide +kernel⟩
theorem sc_law : FnScope ["script", "k", "sack", "turn", "mint", "lot", "other", "high", "low", "both", "many", "more", "sums", "one", "two", "at"] ["script"] (defScope s_law) := ⟨rfl, rfl, rfl, by decide +kernel, rfl, by decide +kernel, by decide +kernel⟩
def g_is_whole : DL.Env → Out :=
    (sRet (eAnd (eCB bIsi (aCons (eVar 0) (aCons (eC (.ty "int")) aNil))) (eNot (eCB bIsi (aCons (eVar 0) (aCons (eC (.ty "bool")) aNil))))))
def F_is_whole : DL.Env → R Rv := runDef 1 [] g_is_whole
def g_are_counts : DL.Env → Out :=
    (sSeq (sIf (tNotD (tOf (eCB bIsi (aCons (eVar 0) (aCons (eC (.ty "list")) aNil))))) (sRet (eC (.bl false))) sNext)
      (sSeq (sFor (iListD (eVar 0)) (tgName 1)
      (sIf (tOrD (tNotD (tOf (eCall 1 F_is_whole (aCons (eVar 1) aNil)))) (tOf (eOp cLt (eVar 1) (eC (.int 0))))) (sRet (eC (.bl false))) sNext))
      (sRet (eC (.bl true)))))
def F_are_counts : DL.Env → R Rv := runDef 2 [] g_are_counts
def g_are_coins : DL.Env → Out :=
    (sSeq (sIf (tOrD (tNotD (tOf (eCall 1 F_are_counts (aCons (eVar 0) aNil)))) (tNotD (tOf (eChain cLe cLe (eC (.int 2)) (eCB bLen (aCons (eVar 0) aNil)) (eC (.int 5)))))) (sRet (eC (.bl false))) sNext)
      (sSeq (sIf (tOrD (tOf (eOp cNe (eOp ixD (eVar 0) (eC (.int 0))) (eC (.int 1)))) (tOf (eOp cGt (eOp ixD (eVar 0) (eUn opNeg (eC (.int 1)))) (eC (.int 100000))))) (sRet (eC (.bl false))) sNext)
      (sSeq (sFor (iRng2D (aCons (eC (.int 1)) (aCons (eCB bLen (aCons (eVar 0) aNil)) aNil))) (tgName 1)
      (sIf (tOrD (tOf (eOp cLe (eOp ixD (eVar 0) (eVar 1)) (eOp ixD (eVar 0) (eOp opSub (eVar 1) (eC (.int 1)))))) (tOf (eOp cNe (eOp opMod (eOp ixD (eVar 0) (eVar 1)) (eOp ixD (eVar 0) (eOp opSub (eVar 1) (eC (.int 1))))) (eC (.int 0))))) (sRet (eC (.bl false))) sNext))
      (sRet (eC (.bl true))))))
def F_are_coins : DL.Env → R Rv := runDef 2 [] g_are_coins
def g_check_coins : DL.Env → Out :=
    (sIf (tNotD (tOf (eCall 1 F_are_coins (aCons (eVar 0) aNil)))) sNever sNext)
def F_check_coins : DL.Env → R Rv := runDef 1 [] g_check_coins
def g_are_for_each : DL.Env → Out :=
    (sRet (eAnd (eCall 1 F_are_counts (aCons (eVar 1) aNil)) (eOp cEq (eCB bLen (aCons (eVar 1) aNil)) (eCB bLen (aCons (eVar 0) aNil)))))
def F_are_for_each : DL.Env → R Rv := runDef 2 [] g_are_for_each
def g_is_till : DL.Env → Out :=
    (sSeq (sDrop (eCall 1 F_check_coins (aCons (eVar 0) aNil)))
      (sRet (eCall 2 F_are_for_each (aCons (eVar 0) (aCons (eVar 1) aNil)))))
def F_is_till : DL.Env → R Rv := runDef 2 [] g_is_till
def g_check_till : DL.Env → Out :=
    (sIf (tNotD (tOf (eCall 2 F_is_till (aCons (eVar 0) (aCons (eVar 1) aNil))))) sNever sNext)
def F_check_till : DL.Env → R Rv := runDef 2 [] g_check_till
def g_levels_of : DL.Env → Out :=
    (sSeq (sDrop (eCall 2 F_check_till (aCons (eVar 0) (aCons (eVar 1) aNil))))
      (sSeq (sSetO 2 (eLst aNil))
      (sSeq (sSet 3 (eC (.int 0)))
      (sSeq (sFor (iZipD (aCons (eVar 0) (aCons (eVar 1) aNil))) (tgTup [(tgName 4), (tgName 5)])
      (sSeq (sSet 3 (eOp opAdd (eVar 3) (eOp opMul (eVar 4) (eVar 5))))
      (sApp 2 (eVar 3))))
      (sRet (eMove 2))))))
def F_levels_of : DL.Env → R Rv := runDef 6 [] g_levels_of
def g_are_levels : DL.Env → Out :=
    (sSeq (sDrop (eCall 1 F_check_coins (aCons (eVar 0) aNil)))
      (sSeq (sIf (tNotD (tOf (eCall 2 F_are_for_each (aCons (eVar 0) (aCons (eVar 1) aNil))))) (sRet (eC (.bl false))) sNext)
      (sSeq (sSet 2 (eC (.int 0)))
      (sSeq (sFor (iZipD (aCons (eVar 0) (aCons (eVar 1) aNil))) (tgTup [(tgName 3), (tgName 4)])
      (sSeq (sIf (tOrD (tOf (eOp cLt (eVar 4) (eVar 2))) (tOf (eOp cNe (eOp opMod (eOp opSub (eVar 4) (eVar 2)) (eVar 3)) (eC (.int 0))))) (sRet (eC (.bl false))) sNext)
      (sSet 2 (eVar 4))))
      (sRet (eC (.bl true)))))))
def F_are_levels : DL.Env → R Rv := runDef 5 [] g_are_levels
def g_check_levels : DL.Env → Out :=
    (sIf (tNotD (tOf (eCall 2 F_are_levels (aCons (eVar 0) (aCons (eVar 1) aNil))))) sNever sNext)
def F_check_levels : DL.Env → R Rv := runDef 2 [] g_check_levels
def g_till_of : DL.Env → Out :=
    (sSeq (sDrop (eCall 2 F_check_levels (aCons (eVar 0) (aCons (eVar 1) aNil))))
      (sSeq (sSetO 2 (eLst aNil))
      (sSeq (sSet 3 (eC (.int 0)))
      (sSeq (sFor (iZipD (aCons (eVar 0) (aCons (eVar 1) aNil))) (tgTup [(tgName 4), (tgName 5)])
      (sSeq (sApp 2 (eOp opDiv (eOp opSub (eVar 5) (eVar 3)) (eVar 4)))
      (sSet 3 (eVar 5))))
      (sRet (eMove 2))))))
def F_till_of : DL.Env → R Rv := runDef 6 [] g_till_of
def g__law_sack : DL.Env → Out :=
    (sSeq (sSet 2 (eIf (tOf (eOp cLt (eVar 1) (eCB bLen (aCons (eVar 0) aNil)))) (eOp ixD (eVar 0) (eVar 1)) (eC (.int 0))))
      (sRet (eLst (aCons (eCB bMax2 (aCons (eC (.int 0)) (aCons (eOp opSub (eVar 2) (eOp opPow (eC (.int 10)) (eC (.int 18)))) aNil))) (aCons (eOp opAdd (eOp opMul (eOp opMod (eVar 2) (eOp opAdd (eOp opPow (eC (.int 10)) (eC (.int 40))) (eC (.int 121)))) (eC (.int 16))) (eVar 1)) (aCons (eC (.int 0)) aNil))))))
def F__law_sack : DL.Env → R Rv := runDef 3 [] g__law_sack
def g__law_fetch : DL.Env → Out :=
    (sSeq (sIf (tOf (eOp cGt (eIxO 0 (eC (.int 0))) (eC (.int 0)))) (sSeq (sSet 2 (eOp opMod (eIxO 0 (eC (.int 0))) (eVar 1)))
      (sSeq (sSetIx 0 (eC (.int 0)) (eOp opDiv (eIxO 0 (eC (.int 0))) (eVar 1)))
      (sRet (eVar 2)))) sNext)
      (sSeq (sSetIx 0 (eC (.int 2)) (eOp opAdd (eIxO 0 (eC (.int 2))) (eC (.int 1))))
      (sSeq (sSet 3 (eOp opMod (eOp opPow (eOp opAdd (eOp opAdd (eIxO 0 (eC (.int 1))) (eOp opMul (eC (.int 48611)) (eIxO 0 (eC (.int 2))))) (eOp opPow (eC (.int 10)) (eC (.int 21)))) (eC (.int 2))) (eOp opAdd (eOp opPow (eC (.int 10)) (eC (.int 38))) (eC (.int 133)))))
      (sSeq (sSet 3 (eOp opMod (eOp opPow (eOp opAdd (eVar 3) (eOp opMul (eC (.int 611953)) (eIxO 0 (eC (.int 2))))) (eC (.int 3))) (eOp opAdd (eOp opPow (eC (.int 10)) (eC (.int 36))) (eC (.int 67)))))
      (sRet (eOp opMod (eOp opDiv (eVar 3) (eOp opPow (eC (.int 10)) (eC (.int 7)))) (eVar 1)))))))
def F__law_fetch : DL.Env → R Rv := runDef 4 [0] g__law_fetch
def g__law_mint : DL.Env → Out :=
    (sSeq (sSetO 1 (eLst (aCons (eC (.int 1)) aNil)))
      (sSeq (sFor (iRng1D (aCons (eOp opAdd (eC (.int 1)) (eCall 2 F__law_fetch (aSlot 0 (aCons (eC (.int 4)) aNil)))) aNil)) (tgName 2)
      (sSeq (sSet 3 (eOp opDiv (eC (.int 100000)) (eIxO 1 (eUn opNeg (eC (.int 1))))))
      (sIf (tOf (eOp cGt (eVar 3) (eC (.int 1)))) (sSeq (sSet 4 (eLst (aCons (eC (.int 2)) (aCons (eC (.int 5)) (aCons (eOp opAdd (eC (.int 2)) (eCall 2 F__law_fetch (aSlot 0 (aCons (eC (.int 9)) aNil)))) (aCons (eOp opAdd (eC (.int 2)) (eCall 2 F__law_fetch (aSlot 0 (aCons (eOp opSub (eVar 3) (eC (.int 1))) aNil)))) aNil))))))
      (sApp 1 (eOp opMul (eIxO 1 (eUn opNeg (eC (.int 1)))) (eCB bMin2 (aCons (eVar 3) (aCons (eOp ixD (eVar 4) (eCall 2 F__law_fetch (aSlot 0 (aCons (eC (.int 4)) aNil)))) aNil)))))) sNext)))
      (sRet (eMove 1))))
def F__law_mint : DL.Env → R Rv := runDef 5 [0] g__law_mint
def g__law_lot : DL.Env → Out :=
    (sSeq (sSet 2 (eOp ixD (eLst (aCons (eLst (aCons (eC (.int 3)) (aCons (eC (.int 3)) (aCons (eC (.int 3)) aNil)))) (aCons (eLst (aCons (eC (.int 2)) (aCons (eC (.int 6)) (aCons (eC (.int 12)) aNil)))) (aCons (eLst (aCons (eC (.int 1)) (aCons (eC (.int 3)) (aCons (eOp opAdd (eOp opPow (eC (.int 10)) (eC (.int 15))) (eC (.int 1))) aNil)))) (aCons (eLst (aCons (eC (.int 20)) (aCons (eC (.int 2)) (aCons (eC (.int 1000)) aNil)))) aNil))))) (eCall 2 F__law_fetch (aSlot 0 (aCons (eC (.int 4)) aNil)))))
      (sRet (eComp [3] (iListD (eVar 1)) (tgName 3) tYesD (eCall0 2 F__law_fetch (aSlot 0 (aCons (eOp ixD (eVar 2) (eCall0 2 F__law_fetch (aSlot 0 (aCons (eC (.int 3)) aNil)))) aNil))))))
def F__law_lot : DL.Env → R Rv := runDef 4 [0] g__law_lot
def g__law_exchanged : DL.Env → Out :=
    (sSeq (sSetO 3 (eCB bList (aCons (eVar 1) aNil)))
      (sSeq (sSetIx 3 (eVar 2) (eOp opSub (eIxO 3 (eVar 2)) (eOp opDiv (eOp ixD (eVar 0) (eOp opAdd (eVar 2) (eC (.int 1)))) (eOp ixD (eVar 0) (eVar 2)))))
      (sSeq (sSetIx 3 (eOp opAdd (eVar 2) (eC (.int 1))) (eOp opAdd (eIxO 3 (eOp opAdd (eVar 2) (eC (.int 1)))) (eC (.int 1))))
      (sRet (eMove 3)))))
def F__law_exchanged : DL.Env → R Rv := runDef 4 [] g__law_exchanged
def g__law_exchange_right : DL.Env → Out :=
    (sSeq (sSet 3 (eCall 2 F_levels_of (aCons (eVar 0) (aCons (eVar 1) aNil))))
      (sSeq (sIf (tOf (eOp cLt (eOp ixD (eVar 1) (eVar 2)) (eOp opDiv (eOp ixD (eVar 0) (eOp opAdd (eVar 2) (eC (.int 1)))) (eOp ixD (eVar 0) (eVar 2))))) (sRet (eC (.bl true))) sNext)
      (sSeq (sSet 4 (eOp opAdd (eOp opAdd (eSl (eVar 3) oNone (oSome (eVar 2))) (eLst (aCons (eOp opSub (eOp ixD (eVar 3) (eVar 2)) (eOp ixD (eVar 0) (eOp opAdd (eVar 2) (eC (.int 1))))) aNil))) (eSl (eVar 3) (oSome (eOp opAdd (eVar 2) (eC (.int 1)))) oNone)))
      (sRet (eOp cEq (eCall 2 F_levels_of (aCons (eVar 0) (aCons (eCall 3 F__law_exchanged (aCons (eVar 0) (aCons (eVar 1) (aCons (eVar 2) aNil)))) aNil))) (eVar 4))))))
def F__law_exchange_right : DL.Env → R Rv := runDef 5 [] g__law_exchange_right
def g__law_wider_right : DL.Env → Out :=
    (sSeq (sSet 3 (eOp opDiv (eOp ixD (eVar 0) (eOp opAdd (eVar 2) (eC (.int 1)))) (eOp ixD (eVar 0) (eVar 2))))
      (sSeq (sSet 4 (eComp [5] (iListD (eLst (aCons (eC (.int 2)) (aCons (eC (.int 3)) (aCons (eC (.int 5)) (aCons (eC (.int 7)) aNil)))))) (tgName 5) (tAndD (tOf (eOp cEq (eOp opMod (eVar 3) (eVar 5)) (eC (.int 0)))) (tOf (eOp cGt (eVar 3) (eVar 5)))) (eVar 5)))
      (sSeq (sIf (tOrD (tOf (eOp cEq (eVar 4) (eLst aNil))) (tOf (eOp cGt (eCB bLen (aCons (eVar 0) aNil)) (eC (.int 4))))) (sRet (eC (.bl true))) sNext)
      (sSeq (sSet 6 (eOp opAdd (eOp opAdd (eSl (eVar 0) oNone (oSome (eOp opAdd (eVar 2) (eC (.int 1))))) (eLst (aCons (eOp opMul (eOp ixD (eVar 0) (eVar 2)) (eOp ixD (eVar 4) (eC (.int 0)))) aNil))) (eSl (eVar 0) (oSome (eOp opAdd (eVar 2) (eC (.int 1)))) oNone)))
      (sSeq (sSet 7 (eOp opAdd (eOp opAdd (eSl (eVar 1) oNone (oSome (eOp opAdd (eVar 2) (eC (.int 1))))) (eLst (aCons (eC (.int 0)) aNil))) (eSl (eVar 1) (oSome (eOp opAdd (eVar 2) (eC (.int 1)))) oNone)))
      (sSeq (sIf (tOrD (tOf (eOp cIsNotB (eCall 1 F_are_coins (aCons (eVar 6) aNil)) (eC (.bl true)))) (tOf (eOp cIsNotB (eCall 2 F_is_till (aCons (eVar 6) (aCons (eVar 7) aNil))) (eC (.bl true))))) (sRet (eC (.bl false))) sNext)
      (sSeq (sSet 8 (eCall 2 F_levels_of (aCons (eVar 0) (aCons (eVar 1) aNil))))
      (sRet (eOp cEq (eCall 2 F_levels_of (aCons (eVar 6) (aCons (eVar 7) aNil))) (eOp opAdd (eOp opAdd (eSl (eVar 8) oNone (oSome (eOp opAdd (eVar 2) (eC (.int 1))))) (eLst (aCons (eOp ixD (eVar 8) (eVar 2)) aNil))) (eSl (eVar 8) (oSome (eOp opAdd (eVar 2) (eC (.int 1)))) oNone)))))))))))
def F__law_wider_right : DL.Env → R Rv := runDef 9 [] g__law_wider_right
def g_law : DL.Env → Out :=
    (sSeq (sFor (iRng1D (aCons (eCB bMax2 (aCons (eC (.int 1)) (aCons (eCB bMin2 (aCons (eC (.int 10)) (aCons (eCB bLen (aCons (eVar 0) aNil)) aNil))) aNil))) aNil)) (tgName 1)
      (sSeq (sSetO 2 (eCall 2 F__law_sack (aCons (eVar 0) (aCons (eVar 1) aNil))))
      (sFor (iRng1D (aCons (eC (.int 4)) aNil)) (tgName 3)
      (sSeq (sSet 4 (eCall 1 F__law_mint (aSlot 2 aNil)))
      (sSeq (sPar 5 6 (aCons (eCall 2 F__law_lot (aSlot 2 (aCons (eVar 4) aNil))) (aCons (eCall 2 F__law_lot (aSlot 2 (aCons (eVar 4) aNil))) aNil)))
      (sSeq (sPar 7 8 (aCons (eCall 2 F_levels_of (aCons (eVar 4) (aCons (eVar 5) aNil))) (aCons (eCall 2 F_levels_of (aCons (eVar 4) (aCons (eVar 6) aNil))) aNil)))
      (sSeq (sIf (tOrD (tOf (eOp cNe (eCall 2 F_till_of (aCons (eVar 4) (aCons (eVar 7) aNil))) (eVar 5))) (tOf (eOp cNe (eCall 2 F_levels_of (aCons (eVar 4) (aCons (eCall 2 F_till_of (aCons (eVar 4) (aCons (eVar 8) aNil))) aNil))) (eVar 8)))) (sRet (eC (.bl false))) sNext)
      (sSeq (sSet 9 (eComp [10, 11] (iZipD (aCons (eVar 5) (aCons (eVar 6) aNil))) (tgTup [(tgName 10), (tgName 11)]) tYesD (eOp opAdd (eVar 10) (eVar 11))))
      (sSeq (sSet 12 (eComp [13, 14] (iZipD (aCons (eVar 7) (aCons (eVar 8) aNil))) (tgTup [(tgName 13), (tgName 14)]) tYesD (eOp opAdd (eVar 13) (eVar 14))))
      (sSeq (sIf (tOrD (tOf (eOp cNe (eCall 2 F_levels_of (aCons (eVar 4) (aCons (eVar 9) aNil))) (eVar 12))) (tOf (eOp cNe (eOp cEq (eVar 7) (eVar 8)) (eOp cEq (eVar 5) (eVar 6))))) (sRet (eC (.bl false))) sNext)
      (sFor (iRng1D (aCons (eOp opSub (eCB bLen (aCons (eVar 4) aNil)) (eC (.int 1))) aNil)) (tgName 15)
      (sIf (tOrD (tNotD (tOf (eCall 3 F__law_exchange_right (aCons (eVar 4) (aCons (eVar 5) (aCons (eVar 15) aNil)))))) (tNotD (tOf (eCall 3 F__law_wider_right (aCons (eVar 4) (aCons (eVar 6) (aCons (eVar 15) aNil))))))) (sRet (eC (.bl false))) sNext))))))))))))
      (sRet (eC (.bl true))))
def F_law : DL.Env → R Rv := runDef 16 [] g_law
structure Ad where
  f_is_whole : Addr
  d_is_whole : FuncData
  f_are_counts : Addr
  d_are_counts : FuncData
  f_are_coins : Addr
  d_are_coins : FuncData
  f_check_coins : Addr
  d_check_coins : FuncData
  f_are_for_each : Addr
  d_are_for_each : FuncData
  f_is_till : Addr
  d_is_till : FuncData
  f_check_till : Addr
  d_check_till : FuncData
  f_levels_of : Addr
  d_levels_of : FuncData
  f_are_levels : Addr
  d_are_levels : FuncData
  f_check_levels : Addr
  d_check_levels : FuncData
  f_till_of : Addr
  d_till_of : FuncData
  f__law_sack : Addr
  d__law_sack : FuncData
  f__law_fetch : Addr
  d__law_fetch : FuncData
  f__law_mint : Addr
  d__law_mint : FuncData
  f__law_lot : Addr
  d__law_lot : FuncData
  f__law_exchanged : Addr
  d__law_exchanged : FuncData
  f__law_exchange_right : Addr
  d__law_exchange_right : FuncData
  f__law_wider_right : Addr
  d__law_wider_right : FuncData
  f_law : Addr
  d_law : FuncData
structure Txt (K : PySem.W.Frag) (mg : Str → Option Value) (A : Ad) : Prop where
  F_is_whole : Fun K "is_whole" "is_whole" s_is_whole A.f_is_whole A.d_is_whole
  b_is_whole : Binds K A.d_is_whole ["thing"] []
  g_is_whole : mg "is_whole" = some (.ref A.f_is_whole)
  F_are_counts : Fun K "are_counts" "are_counts" s_are_counts A.f_are_counts A.d_are_counts
  b_are_counts : Binds K A.d_are_counts ["thing"] []
  g_are_counts : mg "are_counts" = some (.ref A.f_are_counts)
  F_are_coins : Fun K "are_coins" "are_coins" s_are_coins A.f_are_coins A.d_are_coins
  b_are_coins : Binds K A.d_are_coins ["thing"] []
  g_are_coins : mg "are_coins" = some (.ref A.f_are_coins)
  F_check_coins : Fun K "check_coins" "check_coins" s_check_coins A.f_check_coins A.d_check_coins
  b_check_coins : Binds K A.d_check_coins ["thing"] []
  g_check_coins : mg "check_coins" = some (.ref A.f_check_coins)
  F_are_for_each : Fun K "are_for_each" "are_for_each" s_are_for_each A.f_are_for_each A.d_are_for_each
  b_are_for_each : Binds K A.d_are_for_each ["coins", "thing"] []
  g_are_for_each : mg "are_for_each" = some (.ref A.f_are_for_each)
  F_is_till : Fun K "is_till" "is_till" s_is_till A.f_is_till A.d_is_till
  b_is_till : Binds K A.d_is_till ["coins", "thing"] []
  g_is_till : mg "is_till" = some (.ref A.f_is_till)
  F_check_till : Fun K "check_till" "check_till" s_check_till A.f_check_till A.d_check_till
  b_check_till : Binds K A.d_check_till ["coins", "thing"] []
  g_check_till : mg "check_till" = some (.ref A.f_check_till)
  F_levels_of : Fun K "levels_of" "levels_of" s_levels_of A.f_levels_of A.d_levels_of
  b_levels_of : Binds K A.d_levels_of ["coins", "till"] []
  g_levels_of : mg "levels_of" = some (.ref A.f_levels_of)
  F_are_levels : Fun K "are_levels" "are_levels" s_are_levels A.f_are_levels A.d_are_levels
  b_are_levels : Binds K A.d_are_levels ["coins", "thing"] []
  g_are_levels : mg "are_levels" = some (.ref A.f_are_levels)
  F_check_levels : Fun K "check_levels" "check_levels" s_check_levels A.f_check_levels A.d_check_levels
  b_check_levels : Binds K A.d_check_levels ["coins", "thing"] []
  g_check_levels : mg "check_levels" = some (.ref A.f_check_levels)
  F_till_of : Fun K "till_of" "till_of" s_till_of A.f_till_of A.d_till_of
  b_till_of : Binds K A.d_till_of ["coins", "levels"] []
  g_till_of : mg "till_of" = some (.ref A.f_till_of)
  F__law_sack : Fun K "_law_sack" "_law_sack" s__law_sack A.f__law_sack A.d__law_sack
  b__law_sack : Binds K A.d__law_sack ["script", "k"] []
  g__law_sack : mg "_law_sack" = some (.ref A.f__law_sack)
  F__law_fetch : Fun K "_law_fetch" "_law_fetch" s__law_fetch A.f__law_fetch A.d__law_fetch
  b__law_fetch : Binds K A.d__law_fetch ["sack", "many"] []
  g__law_fetch : mg "_law_fetch" = some (.ref A.f__law_fetch)
  F__law_mint : Fun K "_law_mint" "_law_mint" s__law_mint A.f__law_mint A.d__law_mint
  b__law_mint : Binds K A.d__law_mint ["sack"] []
  g__law_mint : mg "_law_mint" = some (.ref A.f__law_mint)
  F__law_lot : Fun K "_law_lot" "_law_lot" s__law_lot A.f__law_lot A.d__law_lot
  b__law_lot : Binds K A.d__law_lot ["sack", "mint"] []
  g__law_lot : mg "_law_lot" = some (.ref A.f__law_lot)
  F__law_exchanged : Fun K "_law_exchanged" "_law_exchanged" s__law_exchanged A.f__law_exchanged A.d__law_exchanged
  b__law_exchanged : Binds K A.d__law_exchanged ["mint", "lot", "k"] []
  g__law_exchanged : mg "_law_exchanged" = some (.ref A.f__law_exchanged)
  F__law_exchange_right : Fun K "_law_exchange_right" "_law_exchange_right" s__law_exchange_right A.f__law_exchange_right A.d__law_exchange_right
  b__law_exchange_right : Binds K A.d__law_exchange_right ["mint", "lot", "k"] []
  g__law_exchange_right : mg "_law_exchange_right" = some (.ref A.f__law_exchange_right)
  F__law_wider_right : Fun K "_law_wider_right" "_law_wider_right" s__law_wider_right A.f__law_wider_right A.d__law_wider_right
  b__law_wider_right : Binds K A.d__law_wider_right ["mint", "lot", "k"] []
  g__law_wider_right : mg "_law_wider_right" = some (.ref A.f__law_wider_right)
  F_law : Fun K "law" "law" s_law A.f_law A.d_law
  b_law : Binds K A.d_law ["script"] []
  g_law : mg "law" = some (.ref A.f_law)
  c_FEWEST_COINS : ∃ t, mg "FEWEST_COINS" = some (.int 2 t)
  c_GREATEST_COIN : ∃ t, mg "GREATEST_COIN" = some (.int 100000 t)
  c_MOST_COINS : ∃ t, mg "MOST_COINS" = some (.int 5 t)
  n_bool : mg "bool" = none
  n_int : mg "int" = none
  n_isinstance : mg "isinstance" = none
  n_len : mg "len" = none
  n_list : mg "list" = none
  n_max : mg "max" = none
  n_min : mg "min" = none
  n_range : mg "range" = none
  n_zip : mg "zip" = none
section
variable {P : Program} {w : World} {K : PySem.W.Frag} {mg : Str → Option Value} {base : Heap} {A : Ad}
theorem ok_is_whole (T : Txt K mg A) : FnOk P w K mg base (L2.CX P w) 1 A.f_is_whole A.d_is_whole ["thing"] (spD K 1 F_is_whole) := by
  have sc := sc_is_whole
  refine def_ok T.F_is_whole sc [] g_is_whole rfl rfl (fun cdv A' outer s H E hr => ?_)
  refine ⟨_, (pss_one (ps_ret (pe_and (pe_callB (cr_isiK rfl) (by rfl) T.n_isinstance (by decide +kernel) (pa_cons (pv 0) (pa_cons (pe_bltn (v := .ty "int") (by rfl) T.n_int (by decide +kernel) rfl) pa_nil))) (pe_one (pe_not (pe_callB (cr_isiK rfl) (by rfl) T.n_isinstance (by decide +kernel) (pa_cons (pv 0) (pa_cons (pe_bltn (v := .ty "bool") (by rfl) T.n_bool (by decide +kernel) rfl) pa_nil)))))))), ?_⟩
  exact (ds_ret (de_and (de_cb cd_isi (da_cons de_var (da_cons de_ty da_nil))) (de_not (de_cb cd_isi (da_cons de_var (da_cons de_ty da_nil))))))
theorem ok_are_counts (T : Txt K mg A) : FnOk P w K mg base (L2.CX P w) 2 A.f_are_counts A.d_are_counts ["thing"] (spD K 1 F_are_counts) := by
  have sc := sc_are_counts
  refine def_ok T.F_are_counts sc [] g_are_counts rfl rfl (fun cdv A' outer s H E hr => ?_)
  refine ⟨_, (pss_cons (ps_if (pt_not (pt_val (pe_callB (cr_isiK rfl) (by rfl) T.n_isinstance (by decide +kernel) (pa_cons (pv 0) (pa_cons (pe_bltn (v := .ty "list") (by rfl) T.n_list (by decide +kernel) rfl) pa_nil))))) (pss_one (ps_ret pe_bl)) pss_nil)
      (pss_cons (ps_for (passes_of rfl) rfl (pi_listK rfl (pv 0)) (pg_name (i := 1) sc.nd rfl (.inl rfl))
      (pss_one (ps_if (PW.pt (pw_or (pt_not (pt_val (pe_callS (ok_is_whole T) (hr.mono (by decide)) (by rfl) T.g_is_whole T.F_is_whole.kp T.b_is_whole (fun σ => passAt (takes_of rfl rfl rfl rfl) σ) (pa_cons (pv 1) pa_nil)))) (pw_or1 (pt_cmpR op_lt (pv 1) pe_int (nomark _))))) (pss_one (ps_ret pe_bl)) pss_nil)))
      (pss_one (ps_ret pe_bl)))), ?_⟩
  exact (ds_seq (ds_if (dt_not (dt_B (de_cb cd_isi (da_cons de_var (da_cons de_ty da_nil))))) (ds_ret de_bl) ds_next)
      (ds_seq (ds_for (di_list de_var) (dg_name (by decide))
      (ds_if (dt_or (dt_not (dt_B (de_call (da_cons de_var da_nil)))) (dt_test (de_op od_lt de_var de_int))) (ds_ret de_bl) ds_next))
      (ds_ret de_bl)))
theorem ok_are_coins (T : Txt K mg A) : FnOk P w K mg base (L2.CX P w) 3 A.f_are_coins A.d_are_coins ["thing"] (spD K 1 F_are_coins) := by
  have sc := sc_are_coins
  refine def_ok T.F_are_coins sc [] g_are_coins rfl rfl (fun cdv A' outer s H E hr => ?_)
  refine ⟨_, (pss_cons (ps_if (PW.pt (pw_or (pt_not (pt_val (pe_callS (ok_are_counts T) (hr.mono (by decide)) (by rfl) T.g_are_counts T.F_are_counts.kp T.b_are_counts (fun σ => passAt (takes_of rfl rfl rfl rfl) σ) (pa_cons (pv 0) pa_nil)))) (pw_or1 (pt_not (pt_chain op_le op_le (pe_glob (v := .int 2) rfl T.c_FEWEST_COINS.choose_spec ⟨_, rfl⟩) (pe_callB (cr_lenK rfl) (by rfl) T.n_len (by decide +kernel) (pa_cons (pv 0) pa_nil)) (pe_glob (v := .int 5) rfl T.c_MOST_COINS.choose_spec ⟨_, rfl⟩)))))) (pss_one (ps_ret pe_bl)) pss_nil)
      (pss_cons (ps_if (PW.pt (pw_or (pt_cmpR (op_neK rfl hr.units) (pe_ix (ix_seqK rfl) (pv 0) pe_int (fun _ _ => rfl)) pe_int (nomark _)) (pw_or1 (pt_cmpR op_gt (pe_ix (ix_seqK rfl) (pv 0) (pe_un un_neg pe_int) (fun _ _ => rfl)) (pe_glob (v := .int 100000) rfl T.c_GREATEST_COIN.choose_spec ⟨_, rfl⟩) (nomark _))))) (pss_one (ps_ret pe_bl)) pss_nil)
      (pss_cons (ps_for (passes_of rfl) rfl (pi_range2 (by rfl) T.n_range (pa_cons pe_int (pa_cons (pe_callB (cr_lenK rfl) (by rfl) T.n_len (by decide +kernel) (pa_cons (pv 0) pa_nil)) pa_nil))) (pg_name (i := 1) sc.nd rfl (.inl rfl))
      (pss_one (ps_if (PW.pt (pw_or (pt_cmpR op_le (pe_ix (ix_seqK rfl) (pv 0) (pv 1) (fun _ _ => rfl)) (pe_ix (ix_seqK rfl) (pv 0) (pe_op op_sub (pv 1) pe_int) (fun _ _ => rfl)) (nomark _)) (pw_or1 (pt_cmpR (op_neK rfl hr.units) (pe_op op_mod (pe_ix (ix_seqK rfl) (pv 0) (pv 1) (fun _ _ => rfl)) (pe_ix (ix_seqK rfl) (pv 0) (pe_op op_sub (pv 1) pe_int) (fun _ _ => rfl))) pe_int (nomark _))))) (pss_one (ps_ret pe_bl)) pss_nil)))
      (pss_one (ps_ret pe_bl))))), ?_⟩
  exact (ds_seq (ds_if (dt_or (dt_not (dt_B (de_call (da_cons de_var da_nil)))) (dt_not (dt_test (de_chain od_le od_le de_int (de_cb cd_len (da_cons de_var da_nil)) de_int)))) (ds_ret de_bl) ds_next)
      (ds_seq (ds_if (dt_or (dt_test (de_op od_ne (de_op od_ix de_var de_int) de_int)) (dt_test (de_op od_gt (de_op od_ix de_var (de_un ud_neg de_int)) de_int))) (ds_ret de_bl) ds_next)
      (ds_seq (ds_for (di_rng2 (da_cons de_int (da_cons (de_cb cd_len (da_cons de_var da_nil)) da_nil))) (dg_name (by decide))
      (ds_if (dt_or (dt_test (de_op od_le (de_op od_ix de_var de_var) (de_op od_ix de_var (de_op od_sub de_var de_int)))) (dt_test (de_op od_ne (de_op od_mod (de_op od_ix de_var de_var) (de_op od_ix de_var (de_op od_sub de_var de_int))) de_int))) (ds_ret de_bl) ds_next))
      (ds_ret de_bl))))
theorem ok_check_coins (T : Txt K mg A) : FnOk P w K mg base (L2.CX P w) 4 A.f_check_coins A.d_check_coins ["thing"] (spD K 1 F_check_coins) := by
  have sc := sc_check_coins
  refine def_ok T.F_check_coins sc [] g_check_coins rfl rfl (fun cdv A' outer s H E hr => ?_)
  refine ⟨_, (pss_one (ps_if (pt_not (pt_val (pe_callS (ok_are_coins T) (hr.mono (by decide)) (by rfl) T.g_are_coins T.F_are_coins.kp T.b_are_coins (fun σ => passAt (takes_of rfl rfl rfl rfl) σ) (pa_cons (pv 0) pa_nil)))) (pss_one ps_never) pss_nil)), ?_⟩
  exact (ds_if (dt_not (dt_B (de_call (da_cons de_var da_nil)))) ds_never ds_next)
theorem ok_are_for_each (T : Txt K mg A) : FnOk P w K mg base (L2.CX P w) 3 A.f_are_for_each A.d_are_for_each ["coins", "thing"] (spD K 2 F_are_for_each) := by
  have sc := sc_are_for_each
  refine def_ok T.F_are_for_each sc [] g_are_for_each rfl rfl (fun cdv A' outer s H E hr => ?_)
  refine ⟨_, (pss_one (ps_ret (pe_and (pe_callS (ok_are_counts T) (hr.mono (by decide)) (by rfl) T.g_are_counts T.F_are_counts.kp T.b_are_counts (fun σ => passAt (takes_of rfl rfl rfl rfl) σ) (pa_cons (pv 1) pa_nil)) (pe_one (pe_cmpR (op_eqK rfl hr.units) (pe_callB (cr_lenK rfl) (by rfl) T.n_len (by decide +kernel) (pa_cons (pv 1) pa_nil)) (pe_callB (cr_lenK rfl) (by rfl) T.n_len (by decide +kernel) (pa_cons (pv 0) pa_nil)) (nomark _)))))), ?_⟩
  exact (ds_ret (de_and (de_call (da_cons de_var da_nil)) (de_op od_eq (de_cb cd_len (da_cons de_var da_nil)) (de_cb cd_len (da_cons de_var da_nil)))))
theorem ok_is_till (T : Txt K mg A) : FnOk P w K mg base (L2.CX P w) 5 A.f_is_till A.d_is_till ["coins", "thing"] (spD K 2 F_is_till) := by
  have sc := sc_is_till
  refine def_ok T.F_is_till sc [] g_is_till rfl rfl (fun cdv A' outer s H E hr => ?_)
  refine ⟨_, (pss_cons (ps_expr (pe_callS (ok_check_coins T) (hr.mono (by decide)) (by rfl) T.g_check_coins T.F_check_coins.kp T.b_check_coins (fun σ => passAt (takes_of rfl rfl rfl rfl) σ) (pa_cons (pv 0) pa_nil)))
      (pss_one (ps_ret (pe_callS (ok_are_for_each T) (hr.mono (by decide)) (by rfl) T.g_are_for_each T.F_are_for_each.kp T.b_are_for_each (fun σ => passAt (takes_of rfl rfl rfl rfl) σ) (pa_cons (pv 0) (pa_cons (pv 1) pa_nil)))))), ?_⟩
  exact (ds_seq (ds_drop (de_call (da_cons de_var da_nil)))
      (ds_ret (de_call (da_cons de_var (da_cons de_var da_nil)))))
theorem ok_check_till (T : Txt K mg A) : FnOk P w K mg base (L2.CX P w) 6 A.f_check_till A.d_check_till ["coins", "thing"] (spD K 2 F_check_till) := by
  have sc := sc_check_till
  refine def_ok T.F_check_till sc [] g_check_till rfl rfl (fun cdv A' outer s H E hr => ?_)
  refine ⟨_, (pss_one (ps_if (pt_not (pt_val (pe_callS (ok_is_till T) (hr.mono (by decide)) (by rfl) T.g_is_till T.F_is_till.kp T.b_is_till (fun σ => passAt (takes_of rfl rfl rfl rfl) σ) (pa_cons (pv 0) (pa_cons (pv 1) pa_nil))))) (pss_one ps_never) pss_nil)), ?_⟩
  exact (ds_if (dt_not (dt_B (de_call (da_cons de_var (da_cons de_var da_nil))))) ds_never ds_next)
theorem ok_levels_of (T : Txt K mg A) : FnOk P w K mg base (L2.CX P w) 7 A.f_levels_of A.d_levels_of ["coins", "till"] (spD K 2 F_levels_of) := by
  have sc := sc_levels_of
  refine def_ok T.F_levels_of sc [] g_levels_of rfl rfl (fun cdv A' outer s H E hr => ?_)
  refine ⟨_, (pss_cons (ps_expr (pe_callS (ok_check_till T) (hr.mono (by decide)) (by rfl) T.g_check_till T.F_check_till.kp T.b_check_till (fun σ => passAt (takes_of rfl rfl rfl rfl) σ) (pa_cons (pv 0) (pa_cons (pv 1) pa_nil))))
      (pss_cons (ps_set (i := 2) sc.nd rfl (.inl rfl) (pe_lst pa_nil))
      (pss_cons (ps_set (i := 3) sc.nd rfl (.inl rfl) pe_int)
      (pss_cons (ps_for (passes_of rfl) rfl (pi_zip (by rfl) T.n_zip (pa_cons (pv 0) (pa_cons (pv 1) pa_nil))) (pg_tupK (n := 2) rfl rfl (pgs_cons (pg_name (i := 4) sc.nd rfl (.inl rfl)) (pgs_cons (pg_name (i := 5) sc.nd rfl (.inl rfl)) pgs_nil)))
      (pss_cons (ps_set (i := 3) sc.nd rfl (.inl rfl) (pe_op op_addD (pv 3) (pe_op op_mulD (pv 4) (pv 5))))
      (pss_one (ps_expr (pe_bm PySem.F.plainAttrs_list PySem.F.slot_list_append PySem.F.type_list_append mt_append (pv 2) (pa_cons (pv 3) pa_nil))))))
      (pss_one (ps_ret (pv 2))))))), ?_⟩
  exact (ds_seq (ds_drop (de_call (da_cons de_var (da_cons de_var da_nil))))
      (ds_seq (ds_setO (by decide) (de_lst da_nil))
      (ds_seq (ds_set (by decide) de_int)
      (ds_seq (ds_for (di_zip (da_cons de_var (da_cons de_var da_nil))) (dg_tup (by rfl) (dgs_cons (dg_name (by decide)) (dgs_cons (dg_name (by decide)) dgs_nil)))
      (ds_seq (ds_set (by decide) (de_op od_add de_var (de_op od_mul de_var de_var)))
      (ds_app de_var)))
      (ds_ret de_move)))))
theorem ok_are_levels (T : Txt K mg A) : FnOk P w K mg base (L2.CX P w) 5 A.f_are_levels A.d_are_levels ["coins", "thing"] (spD K 2 F_are_levels) := by
  have sc := sc_are_levels
  refine def_ok T.F_are_levels sc [] g_are_levels rfl rfl (fun cdv A' outer s H E hr => ?_)
  refine ⟨_, (pss_cons (ps_expr (pe_callS (ok_check_coins T) (hr.mono (by decide)) (by rfl) T.g_check_coins T.F_check_coins.kp T.b_check_coins (fun σ => passAt (takes_of rfl rfl rfl rfl) σ) (pa_cons (pv 0) pa_nil)))
      (pss_cons (ps_if (pt_not (pt_val (pe_callS (ok_are_for_each T) (hr.mono (by decide)) (by rfl) T.g_are_for_each T.F_are_for_each.kp T.b_are_for_each (fun σ => passAt (takes_of rfl rfl rfl rfl) σ) (pa_cons (pv 0) (pa_cons (pv 1) pa_nil))))) (pss_one (ps_ret pe_bl)) pss_nil)
      (pss_cons (ps_set (i := 2) sc.nd rfl (.inl rfl) pe_int)
      (pss_cons (ps_for (passes_of rfl) rfl (pi_zip (by rfl) T.n_zip (pa_cons (pv 0) (pa_cons (pv 1) pa_nil))) (pg_tupK (n := 2) rfl rfl (pgs_cons (pg_name (i := 3) sc.nd rfl (.inl rfl)) (pgs_cons (pg_name (i := 4) sc.nd rfl (.inl rfl)) pgs_nil)))
      (pss_cons (ps_if (PW.pt (pw_or (pt_cmpR op_lt (pv 4) (pv 2) (nomark _)) (pw_or1 (pt_cmpR (op_neK rfl hr.units) (pe_op op_mod (pe_op op_sub (pv 4) (pv 2)) (pv 3)) pe_int (nomark _))))) (pss_one (ps_ret pe_bl)) pss_nil)
      (pss_one (ps_set (i := 2) sc.nd rfl (.inl rfl) (pv 4)))))
      (pss_one (ps_ret pe_bl)))))), ?_⟩
  exact (ds_seq (ds_drop (de_call (da_cons de_var da_nil)))
      (ds_seq (ds_if (dt_not (dt_B (de_call (da_cons de_var (da_cons de_var da_nil))))) (ds_ret de_bl) ds_next)
      (ds_seq (ds_set (by decide) de_int)
      (ds_seq (ds_for (di_zip (da_cons de_var (da_cons de_var da_nil))) (dg_tup (by rfl) (dgs_cons (dg_name (by decide)) (dgs_cons (dg_name (by decide)) dgs_nil)))
      (ds_seq (ds_if (dt_or (dt_test (de_op od_lt de_var de_var)) (dt_test (de_op od_ne (de_op od_mod (de_op od_sub de_var de_var) de_var) de_int))) (ds_ret de_bl) ds_next)
      (ds_set (by decide) de_var)))
      (ds_ret de_bl)))))
theorem ok_check_levels (T : Txt K mg A) : FnOk P w K mg base (L2.CX P w) 6 A.f_check_levels A.d_check_levels ["coins", "thing"] (spD K 2 F_check_levels) := by
  have sc := sc_check_levels
  refine def_ok T.F_check_levels sc [] g_check_levels rfl rfl (fun cdv A' outer s H E hr => ?_)
  refine ⟨_, (pss_one (ps_if (pt_not (pt_val (pe_callS (ok_are_levels T) (hr.mono (by decide)) (by rfl) T.g_are_levels T.F_are_levels.kp T.b_are_levels (fun σ => passAt (takes_of rfl rfl rfl rfl) σ) (pa_cons (pv 0) (pa_cons (pv 1) pa_nil))))) (pss_one ps_never) pss_nil)), ?_⟩
  exact (ds_if (dt_not (dt_B (de_call (da_cons de_var (da_cons de_var da_nil))))) ds_never ds_next)
theorem ok_till_of (T : Txt K mg A) : FnOk P w K mg base (L2.CX P w) 7 A.f_till_of A.d_till_of ["coins", "levels"] (spD K 2 F_till_of) := by
  have sc := sc_till_of
  refine def_ok T.F_till_of sc [] g_till_of rfl rfl (fun cdv A' outer s H E hr => ?_)
  refine ⟨_, (pss_cons (ps_expr (pe_callS (ok_check_levels T) (hr.mono (by decide)) (by rfl) T.g_check_levels T.F_check_levels.kp T.b_check_levels (fun σ => passAt (takes_of rfl rfl rfl rfl) σ) (pa_cons (pv 0) (pa_cons (pv 1) pa_nil))))
      (pss_cons (ps_set (i := 2) sc.nd rfl (.inl rfl) (pe_lst pa_nil))
      (pss_cons (ps_set (i := 3) sc.nd rfl (.inl rfl) pe_int)
      (pss_cons (ps_for (passes_of rfl) rfl (pi_zip (by rfl) T.n_zip (pa_cons (pv 0) (pa_cons (pv 1) pa_nil))) (pg_tupK (n := 2) rfl rfl (pgs_cons (pg_name (i := 4) sc.nd rfl (.inl rfl)) (pgs_cons (pg_name (i := 5) sc.nd rfl (.inl rfl)) pgs_nil)))
      (pss_cons (ps_expr (pe_bm PySem.F.plainAttrs_list PySem.F.slot_list_append PySem.F.type_list_append mt_append (pv 2) (pa_cons (pe_op op_fdivW (pe_op op_sub (pv 5) (pv 3)) (pv 4)) pa_nil)))
      (pss_one (ps_set (i := 3) sc.nd rfl (.inl rfl) (pv 5)))))
      (pss_one (ps_ret (pv 2))))))), ?_⟩
  exact (ds_seq (ds_drop (de_call (da_cons de_var (da_cons de_var da_nil))))
      (ds_seq (ds_setO (by decide) (de_lst da_nil))
      (ds_seq (ds_set (by decide) de_int)
      (ds_seq (ds_for (di_zip (da_cons de_var (da_cons de_var da_nil))) (dg_tup (by rfl) (dgs_cons (dg_name (by decide)) (dgs_cons (dg_name (by decide)) dgs_nil)))
      (ds_seq (ds_app (de_op od_div (de_op od_sub de_var de_var) de_var))
      (ds_set (by decide) de_var)))
      (ds_ret de_move)))))
theorem ok__law_sack (T : Txt K mg A) : FnOk P w K mg base (L2.CX P w) 1 A.f__law_sack A.d__law_sack ["script", "k"] (spD K 2 F__law_sack) := by
  have sc := sc__law_sack
  refine def_ok T.F__law_sack sc [] g__law_sack rfl rfl (fun cdv A' outer s H E hr => ?_)
  refine ⟨_, (pss_cons (ps_set (i := 2) sc.nd rfl (.inl rfl) (pe_ifExp (pt_cmpR op_lt (pv 1) (pe_callB (cr_lenK rfl) (by rfl) T.n_len (by decide +kernel) (pa_cons (pv 0) pa_nil)) (nomark _)) (pe_ix (ix_seqK rfl) (pv 0) (pv 1) (fun _ _ => rfl)) pe_int))
      (pss_one (ps_ret (pe_lst (pa_cons (pe_callB (cr_max2D rfl) (by rfl) T.n_max (by decide +kernel) (pa_cons pe_int (pa_cons (pe_op op_sub (pv 2) (pe_op op_powW pe_int pe_int)) pa_nil))) (pa_cons (pe_op op_addD (pe_op op_mulD (pe_op op_mod (pv 2) (pe_op op_addD (pe_op op_powW pe_int pe_int) pe_int)) pe_int) (pv 1)) (pa_cons pe_int pa_nil))))))), ?_⟩
  exact (ds_seq (ds_set (by decide) (de_if (dt_test (de_op od_lt de_var (de_cb cd_len (da_cons de_var da_nil)))) (de_op od_ix de_var de_var) de_int))
      (ds_ret (de_lst (da_cons (de_cb cd_max2 (da_cons de_int (da_cons (de_op od_sub de_var (de_op od_pow de_int de_int)) da_nil))) (da_cons (de_op od_add (de_op od_mul (de_op od_mod de_var (de_op od_add (de_op od_pow de_int de_int) de_int)) de_int) de_var) (da_cons de_int da_nil))))))
theorem ok__law_fetch (T : Txt K mg A) : FnOk P w K mg base (L2.CX P w) 1 A.f__law_fetch A.d__law_fetch ["sack", "many"] (spD K 2 F__law_fetch) := by
  have sc := sc__law_fetch
  refine def_ok T.F__law_fetch sc [0] g__law_fetch rfl rfl (fun cdv A' outer s H E hr => ?_)
  refine ⟨_, (pss_cons (ps_if (pt_cmpR op_gt (pe_ix (ix_seqK rfl) (pv 0) pe_int (fun _ _ => rfl)) pe_int (nomark _)) (pss_cons (ps_set (i := 2) sc.nd rfl (.inl rfl) (pe_op op_mod (pe_ix (ix_seqK rfl) (pv 0) pe_int (fun _ _ => rfl)) (pv 1)))
      (pss_cons (ps_asg (pe_op op_fdivW (pe_ix (ix_seqK rfl) (pv 0) pe_int (fun _ _ => rfl)) (pv 1)) (pg_sub (pv 0) pe_int set_list))
      (pss_one (ps_ret (pv 2))))) pss_nil)
      (pss_cons (ps_asg (pe_op op_addD (pe_ix (ix_seqK rfl) (pv 0) pe_int (fun _ _ => rfl)) pe_int) (pg_sub (pv 0) pe_int set_list))
      (pss_cons (ps_set (i := 3) sc.nd rfl (.inl rfl) (pe_op op_mod (pe_op op_powW (pe_op op_addD (pe_op op_addD (pe_ix (ix_seqK rfl) (pv 0) pe_int (fun _ _ => rfl)) (pe_op op_mulD pe_int (pe_ix (ix_seqK rfl) (pv 0) pe_int (fun _ _ => rfl)))) (pe_op op_powW pe_int pe_int)) pe_int) (pe_op op_addD (pe_op op_powW pe_int pe_int) pe_int)))
      (pss_cons (ps_set (i := 3) sc.nd rfl (.inl rfl) (pe_op op_mod (pe_op op_powW (pe_op op_addD (pv 3) (pe_op op_mulD pe_int (pe_ix (ix_seqK rfl) (pv 0) pe_int (fun _ _ => rfl)))) pe_int) (pe_op op_addD (pe_op op_powW pe_int pe_int) pe_int)))
      (pss_one (ps_ret (pe_op op_mod (pe_op op_fdivW (pv 3) (pe_op op_powW pe_int pe_int)) (pv 1)))))))), ?_⟩
  exact (ds_seq (ds_if (dt_test (de_op od_gt (de_ixO de_int) de_int)) (ds_seq (ds_set (by decide) (de_op od_mod (de_ixO de_int) de_var))
      (ds_seq (ds_setIx de_int (de_op od_div (de_ixO de_int) de_var))
      (ds_ret de_var))) ds_next)
      (ds_seq (ds_setIx de_int (de_op od_add (de_ixO de_int) de_int))
      (ds_seq (ds_set (by decide) (de_op od_mod (de_op od_pow (de_op od_add (de_op od_add (de_ixO de_int) (de_op od_mul de_int (de_ixO de_int))) (de_op od_pow de_int de_int)) de_int) (de_op od_add (de_op od_pow de_int de_int) de_int)))
      (ds_seq (ds_set (by decide) (de_op od_mod (de_op od_pow (de_op od_add de_var (de_op od_mul de_int (de_ixO de_int))) de_int) (de_op od_add (de_op od_pow de_int de_int) de_int)))
      (ds_ret (de_op od_mod (de_op od_div de_var (de_op od_pow de_int de_int)) de_var))))))
theorem ok__law_mint (T : Txt K mg A) : FnOk P w K mg base (L2.CX P w) 2 A.f__law_mint A.d__law_mint ["sack"] (spD K 1 F__law_mint) := by
  have sc := sc__law_mint
  refine def_ok T.F__law_mint sc [0] g__law_mint rfl rfl (fun cdv A' outer s H E hr => ?_)
  refine ⟨_, (pss_cons (ps_set (i := 1) sc.nd rfl (.inl rfl) (pe_lst (pa_cons pe_int pa_nil)))
      (pss_cons (ps_for (passes_of rfl) rfl (pi_range1 rfl T.n_range (pa_cons (pe_op op_addD pe_int (pe_callS (ok__law_fetch T) (hr.mono (by decide)) (by rfl) T.g__law_fetch T.F__law_fetch.kp T.b__law_fetch (fun σ => passAt (takes_of rfl rfl rfl rfl) σ) (pa_cons (pv 0) (pa_cons pe_int pa_nil)))) pa_nil)) (pg_name (i := 2) sc.nd rfl (.inl rfl))
      (pss_cons (ps_set (i := 3) sc.nd rfl (.inl rfl) (pe_op op_fdivW pe_int (pe_ix (ix_seqK rfl) (pv 1) (pe_un un_neg pe_int) (fun _ _ => rfl))))
      (pss_one (ps_if (pt_cmpR op_gt (pv 3) pe_int (nomark _)) (pss_cons (ps_set (i := 4) sc.nd rfl (.inl rfl) (pe_lst (pa_cons pe_int (pa_cons pe_int (pa_cons (pe_op op_addD pe_int (pe_callS (ok__law_fetch T) (hr.mono (by decide)) (by rfl) T.g__law_fetch T.F__law_fetch.kp T.b__law_fetch (fun σ => passAt (takes_of rfl rfl rfl rfl) σ) (pa_cons (pv 0) (pa_cons pe_int pa_nil)))) (pa_cons (pe_op op_addD pe_int (pe_callS (ok__law_fetch T) (hr.mono (by decide)) (by rfl) T.g__law_fetch T.F__law_fetch.kp T.b__law_fetch (fun σ => passAt (takes_of rfl rfl rfl rfl) σ) (pa_cons (pv 0) (pa_cons (pe_op op_sub (pv 3) pe_int) pa_nil)))) pa_nil))))))
      (pss_one (ps_expr (pe_bm PySem.F.plainAttrs_list PySem.F.slot_list_append PySem.F.type_list_append mt_append (pv 1) (pa_cons (pe_op op_mulD (pe_ix (ix_seqK rfl) (pv 1) (pe_un un_neg pe_int) (fun _ _ => rfl)) (pe_callB (cr_min2D rfl) (by rfl) T.n_min (by decide +kernel) (pa_cons (pv 3) (pa_cons (pe_ix (ix_seqK rfl) (pv 4) (pe_callS (ok__law_fetch T) (hr.mono (by decide)) (by rfl) T.g__law_fetch T.F__law_fetch.kp T.b__law_fetch (fun σ => passAt (takes_of rfl rfl rfl rfl) σ) (pa_cons (pv 0) (pa_cons pe_int pa_nil))) (fun _ _ => rfl)) pa_nil)))) pa_nil))))) pss_nil))))
      (pss_one (ps_ret (pv 1))))), ?_⟩
  exact (ds_seq (ds_setO (by decide) (de_lst (da_cons de_int da_nil)))
      (ds_seq (ds_for (di_rng1 (da_cons (de_op od_add de_int (de_call (da_slot (da_cons de_int da_nil)))) da_nil)) (dg_name (by decide))
      (ds_seq (ds_set (by decide) (de_op od_div de_int (de_ixO (de_un ud_neg de_int))))
      (ds_if (dt_test (de_op od_gt de_var de_int)) (ds_seq (ds_set (by decide) (de_lst (da_cons de_int (da_cons de_int (da_cons (de_op od_add de_int (de_call (da_slot (da_cons de_int da_nil)))) (da_cons (de_op od_add de_int (de_call (da_slot (da_cons (de_op od_sub de_var de_int) da_nil)))) da_nil))))))
      (ds_app (de_op od_mul (de_ixO (de_un ud_neg de_int)) (de_cb cd_min2 (da_cons de_var (da_cons (de_op od_ix de_var (de_call (da_slot (da_cons de_int da_nil)))) da_nil)))))) ds_next)))
      (ds_ret de_move)))
theorem ok__law_lot (T : Txt K mg A) : FnOk P w K mg base (L2.CX P w) 2 A.f__law_lot A.d__law_lot ["sack", "mint"] (spD K 2 F__law_lot) := by
  have sc := sc__law_lot
  refine def_ok T.F__law_lot sc [0] g__law_lot rfl rfl (fun cdv A' outer s H E hr => ?_)
  refine ⟨_, (pss_cons (ps_set (i := 2) sc.nd rfl (.inr rfl) (pe_ix (ix_seqK rfl) (pe_lst (pa_cons (pe_lst (pa_cons pe_int (pa_cons pe_int (pa_cons pe_int pa_nil)))) (pa_cons (pe_lst (pa_cons pe_int (pa_cons pe_int (pa_cons pe_int pa_nil)))) (pa_cons (pe_lst (pa_cons pe_int (pa_cons pe_int (pa_cons (pe_op op_addD (pe_op op_powW pe_int pe_int) pe_int) pa_nil)))) (pa_cons (pe_lst (pa_cons pe_int (pa_cons pe_int (pa_cons pe_int pa_nil)))) pa_nil))))) (pe_callS (ok__law_fetch T) (hr.mono (by decide)) (by rfl) T.g__law_fetch T.F__law_fetch.kp T.b__law_fetch (fun σ => passAt (takes_of rfl rfl rfl rfl) σ) (pa_cons (pv 0) (pa_cons pe_int pa_nil))) (fun _ _ => rfl)))
      (pss_one (ps_ret (pe_lc (own := [("coin", 3)]) rfl sc.nd (pi_listK rfl (pv 1)) (blkOk_by (own := [("coin", 3)]) (N := ["sack", "mint", "few", "coin"]) (sc := defScope s__law_lot) (by decide +kernel)) (fun _ _ _ _ _ => (pg_name (i := 3) sc.nd rfl (.inl rfl))) (fun _ _ _ _ _ => pts_nil) (fun _ _ _ _ _ => (pe_call (ok__law_fetch T) (hr.mono (by decide)) (by rfl) T.g__law_fetch T.F__law_fetch.kp T.b__law_fetch .nil passL (pa_cons (pv 0) (pa_cons (pe_ix (ix_seqK rfl) (pv 2) (pe_call (ok__law_fetch T) (hr.mono (by decide)) (by rfl) T.g__law_fetch T.F__law_fetch.kp T.b__law_fetch .nil passL (pa_cons (pv 0) (pa_cons pe_int pa_nil))) (fun _ _ => rfl)) pa_nil)))))))), ?_⟩
  exact (ds_seq (ds_set (by decide) (de_op od_ix (de_lst (da_cons (de_lst (da_cons de_int (da_cons de_int (da_cons de_int da_nil)))) (da_cons (de_lst (da_cons de_int (da_cons de_int (da_cons de_int da_nil)))) (da_cons (de_lst (da_cons de_int (da_cons de_int (da_cons (de_op od_add (de_op od_pow de_int de_int) de_int) da_nil)))) (da_cons (de_lst (da_cons de_int (da_cons de_int (da_cons de_int da_nil)))) da_nil))))) (de_call (da_slot (da_cons de_int da_nil)))))
      (ds_ret (de_comp (di_list de_var) (dg_name (by decide)) (by decide) dt_yes (de_call0 (da_slot (da_cons (de_op od_ix de_var (de_call0 (da_slot (da_cons de_int da_nil)))) da_nil))))))
theorem ok__law_exchanged (T : Txt K mg A) : FnOk P w K mg base (L2.CX P w) 1 A.f__law_exchanged A.d__law_exchanged ["mint", "lot", "k"] (spD K 3 F__law_exchanged) := by
  have sc := sc__law_exchanged
  refine def_ok T.F__law_exchanged sc [] g__law_exchanged rfl rfl (fun cdv A' outer s H E hr => ?_)
  refine ⟨_, (pss_cons (ps_set (i := 3) sc.nd rfl (.inl rfl) (pe_callTy (cr_listK rfl) (by rfl) T.n_list (by decide +kernel) (pa_cons (pv 1) pa_nil)))
      (pss_cons (ps_asg (pe_op op_sub (pe_ix (ix_seqK rfl) (pv 3) (pv 2) (fun _ _ => rfl)) (pe_op op_fdivW (pe_ix (ix_seqK rfl) (pv 0) (pe_op op_addD (pv 2) pe_int) (fun _ _ => rfl)) (pe_ix (ix_seqK rfl) (pv 0) (pv 2) (fun _ _ => rfl)))) (pg_sub (pv 3) (pv 2) set_list))
      (pss_cons (ps_asg (pe_op op_addD (pe_ix (ix_seqK rfl) (pv 3) (pe_op op_addD (pv 2) pe_int) (fun _ _ => rfl)) pe_int) (pg_sub (pv 3) (pe_op op_addD (pv 2) pe_int) set_list))
      (pss_one (ps_ret (pv 3)))))), ?_⟩
  exact (ds_seq (ds_setO (by decide) (de_cb cd_list (da_cons de_var da_nil)))
      (ds_seq (ds_setIx de_var (de_op od_sub (de_ixO de_var) (de_op od_div (de_op od_ix de_var (de_op od_add de_var de_int)) (de_op od_ix de_var de_var))))
      (ds_seq (ds_setIx (de_op od_add de_var de_int) (de_op od_add (de_ixO (de_op od_add de_var de_int)) de_int))
      (ds_ret de_move))))
theorem ok__law_exchange_right (T : Txt K mg A) : FnOk P w K mg base (L2.CX P w) 8 A.f__law_exchange_right A.d__law_exchange_right ["mint", "lot", "k"] (spD K 3 F__law_exchange_right) := by
  have sc := sc__law_exchange_right
  refine def_ok T.F__law_exchange_right sc [] g__law_exchange_right rfl rfl (fun cdv A' outer s H E hr => ?_)
  refine ⟨_, (pss_cons (ps_set (i := 3) sc.nd rfl (.inl rfl) (pe_callS (ok_levels_of T) (hr.mono (by decide)) (by rfl) T.g_levels_of T.F_levels_of.kp T.b_levels_of (fun σ => passAt (takes_of rfl rfl rfl rfl) σ) (pa_cons (pv 0) (pa_cons (pv 1) pa_nil))))
      (pss_cons (ps_if (pt_cmpR op_lt (pe_ix (ix_seqK rfl) (pv 1) (pv 2) (fun _ _ => rfl)) (pe_op op_fdivW (pe_ix (ix_seqK rfl) (pv 0) (pe_op op_addD (pv 2) pe_int) (fun _ _ => rfl)) (pe_ix (ix_seqK rfl) (pv 0) (pv 2) (fun _ _ => rfl))) (nomark _)) (pss_one (ps_ret pe_bl)) pss_nil)
      (pss_cons (ps_set (i := 4) sc.nd rfl (.inl rfl) (pe_op op_addD (pe_op op_addD (pe_slice (sl_listK rfl) (pv 3) po_none (po_some (pv 2))) (pe_lst (pa_cons (pe_op op_sub (pe_ix (ix_seqK rfl) (pv 3) (pv 2) (fun _ _ => rfl)) (pe_ix (ix_seqK rfl) (pv 0) (pe_op op_addD (pv 2) pe_int) (fun _ _ => rfl))) pa_nil))) (pe_slice (sl_listK rfl) (pv 3) (po_some (pe_op op_addD (pv 2) pe_int)) po_none)))
      (pss_one (ps_ret (pe_cmpR (op_eqK rfl hr.units) (pe_callS (ok_levels_of T) (hr.mono (by decide)) (by rfl) T.g_levels_of T.F_levels_of.kp T.b_levels_of (fun σ => passAt (takes_of rfl rfl rfl rfl) σ) (pa_cons (pv 0) (pa_cons (pe_callS (ok__law_exchanged T) (hr.mono (by decide)) (by rfl) T.g__law_exchanged T.F__law_exchanged.kp T.b__law_exchanged (fun σ => passAt (takes_of rfl rfl rfl rfl) σ) (pa_cons (pv 0) (pa_cons (pv 1) (pa_cons (pv 2) pa_nil)))) pa_nil))) (pv 4) (nomark _))))))), ?_⟩
  exact (ds_seq (ds_set (by decide) (de_call (da_cons de_var (da_cons de_var da_nil))))
      (ds_seq (ds_if (dt_test (de_op od_lt (de_op od_ix de_var de_var) (de_op od_div (de_op od_ix de_var (de_op od_add de_var de_int)) (de_op od_ix de_var de_var)))) (ds_ret de_bl) ds_next)
      (ds_seq (ds_set (by decide) (de_op od_add (de_op od_add (de_sl de_var do_none (do_some de_var)) (de_lst (da_cons (de_op od_sub (de_op od_ix de_var de_var) (de_op od_ix de_var (de_op od_add de_var de_int))) da_nil))) (de_sl de_var (do_some (de_op od_add de_var de_int)) do_none)))
      (ds_ret (de_op od_eq (de_call (da_cons de_var (da_cons (de_call (da_cons de_var (da_cons de_var (da_cons de_var da_nil)))) da_nil))) de_var)))))
theorem ok__law_wider_right (T : Txt K mg A) : FnOk P w K mg base (L2.CX P w) 8 A.f__law_wider_right A.d__law_wider_right ["mint", "lot", "k"] (spD K 3 F__law_wider_right) := by
  have sc := sc__law_wider_right
  refine def_ok T.F__law_wider_right sc [] g__law_wider_right rfl rfl (fun cdv A' outer s H E hr => ?_)
  refine ⟨_, (pss_cons (ps_set (i := 3) sc.nd rfl (.inr rfl) (pe_op op_fdivW (pe_ix (ix_seqK rfl) (pv 0) (pe_op op_addD (pv 2) pe_int) (fun _ _ => rfl)) (pe_ix (ix_seqK rfl) (pv 0) (pv 2) (fun _ _ => rfl))))
      (pss_cons (ps_setLc (i := 4) (own := [("factor", 5)]) rfl sc.nd rfl rfl (sw_true rfl rfl rfl (by decide +kernel)) (pi_listK rfl (pe_lst (pa_cons pe_int (pa_cons pe_int (pa_cons pe_int (pa_cons pe_int pa_nil)))))) (blkOk_by (own := [("factor", 5)]) (N := ["mint", "lot", "k", "part", "ways", "factor", "wider", "more", "high"]) (sc := defScope s__law_wider_right) (by decide +kernel)) (fun _ _ _ _ _ => (pg_name (i := 5) sc.nd rfl (.inl rfl))) (fun _ _ _ _ _ => (pts_one (PW.pt (pw_and (pt_cmpR (op_eqK rfl hr.units) (pe_op op_mod (pv 3) (pv 5)) pe_int (nomark _)) (pw_and1 (pt_cmpR op_gt (pv 3) (pv 5) (nomark _))))))) (fun _ _ _ _ _ => (pv 5)))
      (pss_cons (ps_if (PW.pt (pw_or (pt_cmpR (op_eqK rfl hr.units) (pv 4) (pe_lst pa_nil) (nomark _)) (pw_or1 (pt_cmpR op_gt (pe_callB (cr_lenK rfl) (by rfl) T.n_len (by decide +kernel) (pa_cons (pv 0) pa_nil)) pe_int (nomark _))))) (pss_one (ps_ret pe_bl)) pss_nil)
      (pss_cons (ps_set (i := 6) sc.nd rfl (.inl rfl) (pe_op op_addD (pe_op op_addD (pe_slice (sl_listK rfl) (pv 0) po_none (po_some (pe_op op_addD (pv 2) pe_int))) (pe_lst (pa_cons (pe_op op_mulD (pe_ix (ix_seqK rfl) (pv 0) (pv 2) (fun _ _ => rfl)) (pe_ix (ix_seqK rfl) (pv 4) pe_int (fun _ _ => rfl))) pa_nil))) (pe_slice (sl_listK rfl) (pv 0) (po_some (pe_op op_addD (pv 2) pe_int)) po_none)))
      (pss_cons (ps_set (i := 7) sc.nd rfl (.inl rfl) (pe_op op_addD (pe_op op_addD (pe_slice (sl_listK rfl) (pv 1) po_none (po_some (pe_op op_addD (pv 2) pe_int))) (pe_lst (pa_cons pe_int pa_nil))) (pe_slice (sl_listK rfl) (pv 1) (po_some (pe_op op_addD (pv 2) pe_int)) po_none)))
      (pss_cons (ps_if (PW.pt (pw_or (pt_cmpR op_isnot_bl (pe_callS (ok_are_coins T) (hr.mono (by decide)) (by rfl) T.g_are_coins T.F_are_coins.kp T.b_are_coins (fun σ => passAt (takes_of rfl rfl rfl rfl) σ) (pa_cons (pv 6) pa_nil)) pe_bl (nomark _)) (pw_or1 (pt_cmpR op_isnot_bl (pe_callS (ok_is_till T) (hr.mono (by decide)) (by rfl) T.g_is_till T.F_is_till.kp T.b_is_till (fun σ => passAt (takes_of rfl rfl rfl rfl) σ) (pa_cons (pv 6) (pa_cons (pv 7) pa_nil))) pe_bl (nomark _))))) (pss_one (ps_ret pe_bl)) pss_nil)
      (pss_cons (ps_set (i := 8) sc.nd rfl (.inl rfl) (pe_callS (ok_levels_of T) (hr.mono (by decide)) (by rfl) T.g_levels_of T.F_levels_of.kp T.b_levels_of (fun σ => passAt (takes_of rfl rfl rfl rfl) σ) (pa_cons (pv 0) (pa_cons (pv 1) pa_nil))))
      (pss_one (ps_ret (pe_cmpR (op_eqK rfl hr.units) (pe_callS (ok_levels_of T) (hr.mono (by decide)) (by rfl) T.g_levels_of T.F_levels_of.kp T.b_levels_of (fun σ => passAt (takes_of rfl rfl rfl rfl) σ) (pa_cons (pv 6) (pa_cons (pv 7) pa_nil))) (pe_op op_addD (pe_op op_addD (pe_slice (sl_listK rfl) (pv 8) po_none (po_some (pe_op op_addD (pv 2) pe_int))) (pe_lst (pa_cons (pe_ix (ix_seqK rfl) (pv 8) (pv 2) (fun _ _ => rfl)) pa_nil))) (pe_slice (sl_listK rfl) (pv 8) (po_some (pe_op op_addD (pv 2) pe_int)) po_none)) (nomark _))))))))))), ?_⟩
  exact (ds_seq (ds_set (by decide) (de_op od_div (de_op od_ix de_var (de_op od_add de_var de_int)) (de_op od_ix de_var de_var)))
      (ds_seq (ds_set (by decide) (de_comp (di_list (de_lst (da_cons de_int (da_cons de_int (da_cons de_int (da_cons de_int da_nil)))))) (dg_name (by decide)) (by decide) (dt_and (dt_test (de_op od_eq (de_op od_mod de_var de_var) de_int)) (dt_test (de_op od_gt de_var de_var))) de_var))
      (ds_seq (ds_if (dt_or (dt_test (de_op od_eq de_var (de_lst da_nil))) (dt_test (de_op od_gt (de_cb cd_len (da_cons de_var da_nil)) de_int))) (ds_ret de_bl) ds_next)
      (ds_seq (ds_set (by decide) (de_op od_add (de_op od_add (de_sl de_var do_none (do_some (de_op od_add de_var de_int))) (de_lst (da_cons (de_op od_mul (de_op od_ix de_var de_var) (de_op od_ix de_var de_int)) da_nil))) (de_sl de_var (do_some (de_op od_add de_var de_int)) do_none)))
      (ds_seq (ds_set (by decide) (de_op od_add (de_op od_add (de_sl de_var do_none (do_some (de_op od_add de_var de_int))) (de_lst (da_cons de_int da_nil))) (de_sl de_var (do_some (de_op od_add de_var de_int)) do_none)))
      (ds_seq (ds_if (dt_or (dt_test (de_op od_isNotB (de_call (da_cons de_var da_nil)) de_bl)) (dt_test (de_op od_isNotB (de_call (da_cons de_var (da_cons de_var da_nil))) de_bl))) (ds_ret de_bl) ds_next)
      (ds_seq (ds_set (by decide) (de_call (da_cons de_var (da_cons de_var da_nil))))
      (ds_ret (de_op od_eq (de_call (da_cons de_var (da_cons de_var da_nil))) (de_op od_add (de_op od_add (de_sl de_var do_none (do_some (de_op od_add de_var de_int))) (de_lst (da_cons (de_op od_ix de_var de_var) da_nil))) (de_sl de_var (do_some (de_op od_add de_var de_int)) do_none)))))))))))
theorem ok_law (T : Txt K mg A) : FnOk P w K mg base (L2.CX P w) 9 A.f_law A.d_law ["script"] (spD K 1 F_law) := by
  have sc := sc_law
  refine def_ok T.F_law sc [] g_law rfl rfl (fun cdv A' outer s H E hr => ?_)
  refine ⟨_, (pss_cons (ps_for (passes_of rfl) rfl (pi_range1 rfl T.n_range (pa_cons (pe_callB (cr_max2D rfl) (by rfl) T.n_max (by decide +kernel) (pa_cons pe_int (pa_cons (pe_callB (cr_min2D rfl) (by rfl) T.n_min (by decide +kernel) (pa_cons pe_int (pa_cons (pe_callB (cr_lenK rfl) (by rfl) T.n_len (by decide +kernel) (pa_cons (pv 0) pa_nil)) pa_nil))) pa_nil))) pa_nil)) (pg_name (i := 1) sc.nd rfl (.inl rfl))
      (pss_cons (ps_set (i := 2) sc.nd rfl (.inl rfl) (pe_callS (ok__law_sack T) (hr.mono (by decide)) (by rfl) T.g__law_sack T.F__law_sack.kp T.b__law_sack (fun σ => passAt (takes_of rfl rfl rfl rfl) σ) (pa_cons (pv 0) (pa_cons (pv 1) pa_nil))))
      (pss_one (ps_for (passes_of rfl) rfl (pi_range1 rfl T.n_range (pa_cons pe_int pa_nil)) (pg_name (i := 3) sc.nd rfl (.inl rfl))
      (pss_cons (ps_set (i := 4) sc.nd rfl (.inl rfl) (pe_callS (ok__law_mint T) (hr.mono (by decide)) (by rfl) T.g__law_mint T.F__law_mint.kp T.b__law_mint (fun σ => passAt (takes_of rfl rfl rfl rfl) σ) (pa_cons (pv 2) pa_nil)))
      (pss_cons (ps_par (i := 5) (j := 6) (by rfl) sc.nd rfl rfl (by decide) rfl rfl (pa_cons (pe_callS (ok__law_lot T) (hr.mono (by decide)) (by rfl) T.g__law_lot T.F__law_lot.kp T.b__law_lot (fun σ => passAt (takes_of rfl rfl rfl rfl) σ) (pa_cons (pv 2) (pa_cons (pv 4) pa_nil))) (pa_cons (pe_callS (ok__law_lot T) (hr.mono (by decide)) (by rfl) T.g__law_lot T.F__law_lot.kp T.b__law_lot (fun σ => passAt (takes_of rfl rfl rfl rfl) σ) (pa_cons (pv 2) (pa_cons (pv 4) pa_nil))) pa_nil)) (by rfl))
      (pss_cons (ps_par (i := 7) (j := 8) (by rfl) sc.nd rfl rfl (by decide) rfl rfl (pa_cons (pe_callS (ok_levels_of T) (hr.mono (by decide)) (by rfl) T.g_levels_of T.F_levels_of.kp T.b_levels_of (fun σ => passAt (takes_of rfl rfl rfl rfl) σ) (pa_cons (pv 4) (pa_cons (pv 5) pa_nil))) (pa_cons (pe_callS (ok_levels_of T) (hr.mono (by decide)) (by rfl) T.g_levels_of T.F_levels_of.kp T.b_levels_of (fun σ => passAt (takes_of rfl rfl rfl rfl) σ) (pa_cons (pv 4) (pa_cons (pv 6) pa_nil))) pa_nil)) (by rfl))
      (pss_cons (ps_if (PW.pt (pw_or (pt_cmpR (op_neK rfl hr.units) (pe_callS (ok_till_of T) (hr.mono (by decide)) (by rfl) T.g_till_of T.F_till_of.kp T.b_till_of (fun σ => passAt (takes_of rfl rfl rfl rfl) σ) (pa_cons (pv 4) (pa_cons (pv 7) pa_nil))) (pv 5) (nomark _)) (pw_or1 (pt_cmpR (op_neK rfl hr.units) (pe_callS (ok_levels_of T) (hr.mono (by decide)) (by rfl) T.g_levels_of T.F_levels_of.kp T.b_levels_of (fun σ => passAt (takes_of rfl rfl rfl rfl) σ) (pa_cons (pv 4) (pa_cons (pe_callS (ok_till_of T) (hr.mono (by decide)) (by rfl) T.g_till_of T.F_till_of.kp T.b_till_of (fun σ => passAt (takes_of rfl rfl rfl rfl) σ) (pa_cons (pv 4) (pa_cons (pv 8) pa_nil))) pa_nil))) (pv 8) (nomark _))))) (pss_one (ps_ret pe_bl)) pss_nil)
      (pss_cons (ps_setLc (i := 9) (own := [("many", 10), ("more", 11)]) rfl sc.nd rfl rfl (sw_true rfl rfl rfl (by decide +kernel)) (pi_zip (by rfl) T.n_zip (pa_cons (pv 5) (pa_cons (pv 6) pa_nil))) (blkOk_by (own := [("many", 10), ("more", 11)]) (N := ["script", "k", "sack", "turn", "mint", "lot", "other", "high", "low", "both", "many", "more", "sums", "one", "two", "at"]) (sc := defScope s_law) (by decide +kernel)) (fun _ _ _ _ _ => (pg_tupK (n := 2) rfl rfl (pgs_cons (pg_name (i := 10) sc.nd rfl (.inl rfl)) (pgs_cons (pg_name (i := 11) sc.nd rfl (.inl rfl)) pgs_nil)))) (fun _ _ _ _ _ => pts_nil) (fun _ _ _ _ _ => (pe_op op_addD (pv 10) (pv 11))))
      (pss_cons (ps_setLc (i := 12) (own := [("one", 13), ("two", 14)]) rfl sc.nd rfl rfl (sw_true rfl rfl rfl (by decide +kernel)) (pi_zip (by rfl) T.n_zip (pa_cons (pv 7) (pa_cons (pv 8) pa_nil))) (blkOk_by (own := [("one", 13), ("two", 14)]) (N := ["script", "k", "sack", "turn", "mint", "lot", "other", "high", "low", "both", "many", "more", "sums", "one", "two", "at"]) (sc := defScope s_law) (by decide +kernel)) (fun _ _ _ _ _ => (pg_tupK (n := 2) rfl rfl (pgs_cons (pg_name (i := 13) sc.nd rfl (.inl rfl)) (pgs_cons (pg_name (i := 14) sc.nd rfl (.inl rfl)) pgs_nil)))) (fun _ _ _ _ _ => pts_nil) (fun _ _ _ _ _ => (pe_op op_addD (pv 13) (pv 14))))
      (pss_cons (ps_if (PW.pt (pw_or (pt_cmpR (op_neK rfl hr.units) (pe_callS (ok_levels_of T) (hr.mono (by decide)) (by rfl) T.g_levels_of T.F_levels_of.kp T.b_levels_of (fun σ => passAt (takes_of rfl rfl rfl rfl) σ) (pa_cons (pv 4) (pa_cons (pv 9) pa_nil))) (pv 12) (nomark _)) (pw_or1 (pt_cmpR (op_neK rfl hr.units) (pe_cmpR (op_eqK rfl hr.units) (pv 7) (pv 8) (nomark _)) (pe_cmpR (op_eqK rfl hr.units) (pv 5) (pv 6) (nomark _)) (nomark _))))) (pss_one (ps_ret pe_bl)) pss_nil)
      (pss_one (ps_for (passes_of rfl) rfl (pi_range1 rfl T.n_range (pa_cons (pe_op op_sub (pe_callB (cr_lenK rfl) (by rfl) T.n_len (by decide +kernel) (pa_cons (pv 4) pa_nil)) pe_int) pa_nil)) (pg_name (i := 15) sc.nd rfl (.inl rfl))
      (pss_one (ps_if (PW.pt (pw_or (pt_not (pt_val (pe_callS (ok__law_exchange_right T) (hr.mono (by decide)) (by rfl) T.g__law_exchange_right T.F__law_exchange_right.kp T.b__law_exchange_right (fun σ => passAt (takes_of rfl rfl rfl rfl) σ) (pa_cons (pv 4) (pa_cons (pv 5) (pa_cons (pv 15) pa_nil)))))) (pw_or1 (pt_not (pt_val (pe_callS (ok__law_wider_right T) (hr.mono (by decide)) (by rfl) T.g__law_wider_right T.F__law_wider_right.kp T.b__law_wider_right (fun σ => passAt (takes_of rfl rfl rfl rfl) σ) (pa_cons (pv 4) (pa_cons (pv 6) (pa_cons (pv 15) pa_nil))))))))) (pss_one (ps_ret pe_bl)) pss_nil)))))))))))))))
      (pss_one (ps_ret pe_bl))), ?_⟩
  exact (ds_seq (ds_for (di_rng1 (da_cons (de_cb cd_max2 (da_cons de_int (da_cons (de_cb cd_min2 (da_cons de_int (da_cons (de_cb cd_len (da_cons de_var da_nil)) da_nil))) da_nil))) da_nil)) (dg_name (by decide))
      (ds_seq (ds_setO (by decide) (de_call (da_cons de_var (da_cons de_var da_nil))))
      (ds_for (di_rng1 (da_cons de_int da_nil)) (dg_name (by decide))
      (ds_seq (ds_set (by decide) (de_call (da_slot da_nil)))
      (ds_seq (ds_par (by decide) (by decide) (da_cons (de_call (da_slot (da_cons de_var da_nil))) (da_cons (de_call (da_slot (da_cons de_var da_nil))) da_nil)))
      (ds_seq (ds_par (by decide) (by decide) (da_cons (de_call (da_cons de_var (da_cons de_var da_nil))) (da_cons (de_call (da_cons de_var (da_cons de_var da_nil))) da_nil)))
      (ds_seq (ds_if (dt_or (dt_test (de_op od_ne (de_call (da_cons de_var (da_cons de_var da_nil))) de_var)) (dt_test (de_op od_ne (de_call (da_cons de_var (da_cons (de_call (da_cons de_var (da_cons de_var da_nil))) da_nil))) de_var))) (ds_ret de_bl) ds_next)
      (ds_seq (ds_set (by decide) (de_comp (di_zip (da_cons de_var (da_cons de_var da_nil))) (dg_tup (by rfl) (dgs_cons (dg_name (by decide)) (dgs_cons (dg_name (by decide)) dgs_nil))) (by decide) dt_yes (de_op od_add de_var de_var)))
      (ds_seq (ds_set (by decide) (de_comp (di_zip (da_cons de_var (da_cons de_var da_nil))) (dg_tup (by rfl) (dgs_cons (dg_name (by decide)) (dgs_cons (dg_name (by decide)) dgs_nil))) (by decide) dt_yes (de_op od_add de_var de_var)))
      (ds_seq (ds_if (dt_or (dt_test (de_op od_ne (de_call (da_cons de_var (da_cons de_var da_nil))) de_var)) (dt_test (de_op od_ne (de_op od_eq de_var de_var) (de_op od_eq de_var de_var)))) (ds_ret de_bl) ds_next)
      (ds_for (di_rng1 (da_cons (de_op od_sub (de_cb cd_len (da_cons de_var da_nil)) de_int) da_nil)) (dg_name (by decide))
      (ds_if (dt_or (dt_not (dt_B (de_call (da_cons de_var (da_cons de_var (da_cons de_var da_nil)))))) (dt_not (dt_B (de_call (da_cons de_var (da_cons de_var (da_cons de_var da_nil))))))) (ds_ret de_bl) ds_next))))))))))))
      (ds_ret de_bl))
end
theorem all_mk {l : PySem.W.OpenLaw} {w : World} {K : PySem.W.Frag} {h : Heap} {mg : Str → Option Value} {fa : Addr} (X : K.In h) (G : h.Ns mainGlobals mg) (hfa : mg "law" = some (.ref fa))
    {f0 : Addr} {od0 an0 : Option Addr} {sl0 : Array (Option Value)} {oc0 kV0 dc0 pm0 cd0 ct0 : Value}
    (a0 : PySem.W.nsIn K mainGlobals "is_whole" = some (some (.ref f0)))
    (l0 : K.lookup f0 = some ⟨oc0, od0, .func (PySem.W.fnOf "is_whole" "is_whole" (defArgs s_is_whole) (defBody s_is_whole) (defScope s_is_whole) .none kV0 dc0 pm0 an0 cd0 ct0), sl0⟩)
    (c0 : PySem.W.codeIn K cd0 "is_whole" = true) (k0 : PySem.W.keepIn K (.ref f0) = true)
    {f1 : Addr} {od1 an1 : Option Addr} {sl1 : Array (Option Value)} {oc1 kV1 dc1 pm1 cd1 ct1 : Value}
    (a1 : PySem.W.nsIn K mainGlobals "are_counts" = some (some (.ref f1)))
    (l1 : K.lookup f1 = some ⟨oc1, od1, .func (PySem.W.fnOf "are_counts" "are_counts" (defArgs s_are_counts) (defBody s_are_counts) (defScope s_are_counts) .none kV1 dc1 pm1 an1 cd1 ct1), sl1⟩)
    (c1 : PySem.W.codeIn K cd1 "are_counts" = true) (k1 : PySem.W.keepIn K (.ref f1) = true)
    {f2 : Addr} {od2 an2 : Option Addr} {sl2 : Array (Option Value)} {oc2 kV2 dc2 pm2 cd2 ct2 : Value}
    (a2 : PySem.W.nsIn K mainGlobals "are_coins" = some (some (.ref f2)))
    (l2 : K.lookup f2 = some ⟨oc2, od2, .func (PySem.W.fnOf "are_coins" "are_coins" (defArgs s_are_coins) (defBody s_are_coins) (defScope s_are_coins) .none kV2 dc2 pm2 an2 cd2 ct2), sl2⟩)
    (c2 : PySem.W.codeIn K cd2 "are_coins" = true) (k2 : PySem.W.keepIn K (.ref f2) = true)
    {f3 : Addr} {od3 an3 : Option Addr} {sl3 : Array (Option Value)} {oc3 kV3 dc3 pm3 cd3 ct3 : Value}
    (a3 : PySem.W.nsIn K mainGlobals "check_coins" = some (some (.ref f3)))
    (l3 : K.lookup f3 = some ⟨oc3, od3, .func (PySem.W.fnOf "check_coins" "check_coins" (defArgs s_check_coins) (defBody s_check_coins) (defScope s_check_coins) .none kV3 dc3 pm3 an3 cd3 ct3), sl3⟩)
    (c3 : PySem.W.codeIn K cd3 "check_coins" = true) (k3 : PySem.W.keepIn K (.ref f3) = true)
    {f4 : Addr} {od4 an4 : Option Addr} {sl4 : Array (Option Value)} {oc4 kV4 dc4 pm4 cd4 ct4 : Value}
    (a4 : PySem.W.nsIn K mainGlobals "are_for_each" = some (some (.ref f4)))
    (l4 : K.lookup f4 = some ⟨oc4, od4, .func (PySem.W.fnOf "are_for_each" "are_for_each" (defArgs s_are_for_each) (defBody s_are_for_each) (defScope s_are_for_each) .none kV4 dc4 pm4 an4 cd4 ct4), sl4⟩)
    (c4 : PySem.W.codeIn K cd4 "are_for_each" = true) (k4 : PySem.W.keepIn K (.ref f4) = true)
    {f5 : Addr} {od5 an5 : Option Addr} {sl5 : Array (Option Value)} {oc5 kV5 dc5 pm5 cd5 ct5 : Value}
    (a5 : PySem.W.nsIn K mainGlobals "is_till" = some (some (.ref f5)))
    (l5 : K.lookup f5 = some ⟨oc5, od5, .func (PySem.W.fnOf "is_till" "is_till" (defArgs s_is_till) (defBody s_is_till) (defScope s_is_till) .none kV5 dc5 pm5 an5 cd5 ct5), sl5⟩)
    (c5 : PySem.W.codeIn K cd5 "is_till" = true) (k5 : PySem.W.keepIn K (.ref f5) = true)
    {f6 : Addr} {od6 an6 : Option Addr} {sl6 : Array (Option Value)} {oc6 kV6 dc6 pm6 cd6 ct6 : Value}
    (a6 : PySem.W.nsIn K mainGlobals "check_till" = some (some (.ref f6)))
    (l6 : K.lookup f6 = some ⟨oc6, od6, .func (PySem.W.fnOf "check_till" "check_till" (defArgs s_check_till) (defBody s_check_till) (defScope s_check_till) .none kV6 dc6 pm6 an6 cd6 ct6), sl6⟩)
    (c6 : PySem.W.codeIn K cd6 "check_till" = true) (k6 : PySem.W.keepIn K (.ref f6) = true)
    {f7 : Addr} {od7 an7 : Option Addr} {sl7 : Array (Option Value)} {oc7 kV7 dc7 pm7 cd7 ct7 : Value}
    (a7 : PySem.W.nsIn K mainGlobals "levels_of" = some (some (.ref f7)))
    (l7 : K.lookup f7 = some ⟨oc7, od7, .func (PySem.W.fnOf "levels_of" "levels_of" (defArgs s_levels_of) (defBody s_levels_of) (defScope s_levels_of) .none kV7 dc7 pm7 an7 cd7 ct7), sl7⟩)
    (c7 : PySem.W.codeIn K cd7 "levels_of" = true) (k7 : PySem.W.keepIn K (.ref f7) = true)
    {f8 : Addr} {od8 an8 : Option Addr} {sl8 : Array (Option Value)} {oc8 kV8 dc8 pm8 cd8 ct8 : Value}
    (a8 : PySem.W.nsIn K mainGlobals "are_levels" = some (some (.ref f8)))
    (l8 : K.lookup f8 = some ⟨oc8, od8, .func (PySem.W.fnOf "are_levels" "are_levels" (defArgs s_are_levels) (defBody s_are_levels) (defScope s_are_levels) .none kV8 dc8 pm8 an8 cd8 ct8), sl8⟩)
    (c8 : PySem.W.codeIn K cd8 "are_levels" = true) (k8 : PySem.W.keepIn K (.ref f8) = true)
    {f9 : Addr} {od9 an9 : Option Addr} {sl9 : Array (Option Value)} {oc9 kV9 dc9 pm9 cd9 ct9 : Value}
    (a9 : PySem.W.nsIn K mainGlobals "check_levels" = some (some (.ref f9)))
    (l9 : K.lookup f9 = some ⟨oc9, od9, .func (PySem.W.fnOf "check_levels" "check_levels" (defArgs s_check_levels) (defBody s_check_levels) (defScope s_check_levels) .none kV9 dc9 pm9 an9 cd9 ct9), sl9⟩)
    (c9 : PySem.W.codeIn K cd9 "check_levels" = true) (k9 : PySem.W.keepIn K (.ref f9) = true)
    {f10 : Addr} {od10 an10 : Option Addr} {sl10 : Array (Option Value)} {oc10 kV10 dc10 pm10 cd10 ct10 : Value}
    (a10 : PySem.W.nsIn K mainGlobals "till_of" = some (some (.ref f10)))
    (l10 : K.lookup f10 = some ⟨oc10, od10, .func (PySem.W.fnOf "till_of" "till_of" (defArgs s_till_of) (defBody s_till_of) (defScope s_till_of) .none kV10 dc10 pm10 an10 cd10 ct10), sl10⟩)
    (c10 : PySem.W.codeIn K cd10 "till_of" = true) (k10 : PySem.W.keepIn K (.ref f10) = true)
    {f11 : Addr} {od11 an11 : Option Addr} {sl11 : Array (Option Value)} {oc11 kV11 dc11 pm11 cd11 ct11 : Value}
    (a11 : PySem.W.nsIn K mainGlobals "_law_sack" = some (some (.ref f11)))
    (l11 : K.lookup f11 = some ⟨oc11, od11, .func (PySem.W.fnOf "_law_sack" "_law_sack" (defArgs s__law_sack) (defBody s__law_sack) (defScope s__law_sack) .none kV11 dc11 pm11 an11 cd11 ct11), sl11⟩)
    (c11 : PySem.W.codeIn K cd11 "_law_sack" = true) (k11 : PySem.W.keepIn K (.ref f11) = true)
    {f12 : Addr} {od12 an12 : Option Addr} {sl12 : Array (Option Value)} {oc12 kV12 dc12 pm12 cd12 ct12 : Value}
    (a12 : PySem.W.nsIn K mainGlobals "_law_fetch" = some (some (.ref f12)))
    (l12 : K.lookup f12 = some ⟨oc12, od12, .func (PySem.W.fnOf "_law_fetch" "_law_fetch" (defArgs s__law_fetch) (defBody s__law_fetch) (defScope s__law_fetch) .none kV12 dc12 pm12 an12 cd12 ct12), sl12⟩)
    (c12 : PySem.W.codeIn K cd12 "_law_fetch" = true) (k12 : PySem.W.keepIn K (.ref f12) = true)
    {f13 : Addr} {od13 an13 : Option Addr} {sl13 : Array (Option Value)} {oc13 kV13 dc13 pm13 cd13 ct13 : Value}
    (a13 : PySem.W.nsIn K mainGlobals "_law_mint" = some (some (.ref f13)))
    (l13 : K.lookup f13 = some ⟨oc13, od13, .func (PySem.W.fnOf "_law_mint" "_law_mint" (defArgs s__law_mint) (defBody s__law_mint) (defScope s__law_mint) .none kV13 dc13 pm13 an13 cd13 ct13), sl13⟩)
    (c13 : PySem.W.codeIn K cd13 "_law_mint" = true) (k13 : PySem.W.keepIn K (.ref f13) = true)
    {f14 : Addr} {od14 an14 : Option Addr} {sl14 : Array (Option Value)} {oc14 kV14 dc14 pm14 cd14 ct14 : Value}
    (a14 : PySem.W.nsIn K mainGlobals "_law_lot" = some (some (.ref f14)))
    (l14 : K.lookup f14 = some ⟨oc14, od14, .func (PySem.W.fnOf "_law_lot" "_law_lot" (defArgs s__law_lot) (defBody s__law_lot) (defScope s__law_lot) .none kV14 dc14 pm14 an14 cd14 ct14), sl14⟩)
    (c14 : PySem.W.codeIn K cd14 "_law_lot" = true) (k14 : PySem.W.keepIn K (.ref f14) = true)
    {f15 : Addr} {od15 an15 : Option Addr} {sl15 : Array (Option Value)} {oc15 kV15 dc15 pm15 cd15 ct15 : Value}
    (a15 : PySem.W.nsIn K mainGlobals "_law_exchanged" = some (some (.ref f15)))
    (l15 : K.lookup f15 = some ⟨oc15, od15, .func (PySem.W.fnOf "_law_exchanged" "_law_exchanged" (defArgs s__law_exchanged) (defBody s__law_exchanged) (defScope s__law_exchanged) .none kV15 dc15 pm15 an15 cd15 ct15), sl15⟩)
    (c15 : PySem.W.codeIn K cd15 "_law_exchanged" = true) (k15 : PySem.W.keepIn K (.ref f15) = true)
    {f16 : Addr} {od16 an16 : Option Addr} {sl16 : Array (Option Value)} {oc16 kV16 dc16 pm16 cd16 ct16 : Value}
    (a16 : PySem.W.nsIn K mainGlobals "_law_exchange_right" = some (some (.ref f16)))
    (l16 : K.lookup f16 = some ⟨oc16, od16, .func (PySem.W.fnOf "_law_exchange_right" "_law_exchange_right" (defArgs s__law_exchange_right) (defBody s__law_exchange_right) (defScope s__law_exchange_right) .none kV16 dc16 pm16 an16 cd16 ct16), sl16⟩)
    (c16 : PySem.W.codeIn K cd16 "_law_exchange_right" = true) (k16 : PySem.W.keepIn K (.ref f16) = true)
    {f17 : Addr} {od17 an17 : Option Addr} {sl17 : Array (Option Value)} {oc17 kV17 dc17 pm17 cd17 ct17 : Value}
    (a17 : PySem.W.nsIn K mainGlobals "_law_wider_right" = some (some (.ref f17)))
    (l17 : K.lookup f17 = some ⟨oc17, od17, .func (PySem.W.fnOf "_law_wider_right" "_law_wider_right" (defArgs s__law_wider_right) (defBody s__law_wider_right) (defScope s__law_wider_right) .none kV17 dc17 pm17 an17 cd17 ct17), sl17⟩)
    (c17 : PySem.W.codeIn K cd17 "_law_wider_right" = true) (k17 : PySem.W.keepIn K (.ref f17) = true)
    {f18 : Addr} {od18 an18 : Option Addr} {sl18 : Array (Option Value)} {oc18 kV18 dc18 pm18 cd18 ct18 : Value}
    (a18 : PySem.W.nsIn K mainGlobals "law" = some (some (.ref f18)))
    (l18 : K.lookup f18 = some ⟨oc18, od18, .func (PySem.W.fnOf "law" "law" (defArgs s_law) (defBody s_law) (defScope s_law) .none kV18 dc18 pm18 an18 cd18 ct18), sl18⟩)
    (c18 : PySem.W.codeIn K cd18 "law" = true) (k18 : PySem.W.keepIn K (.ref f18) = true)
    {t0 : Tok} (q0 : PySem.W.nsIn K mainGlobals "FEWEST_COINS" = some (some (.int 2 t0)))
    {t1 : Tok} (q1 : PySem.W.nsIn K mainGlobals "GREATEST_COIN" = some (some (.int 100000 t1)))
    {t2 : Tok} (q2 : PySem.W.nsIn K mainGlobals "MOST_COINS" = some (some (.int 5 t2)))
    (z0 : PySem.W.nsIn K mainGlobals "bool" = some none)
    (z1 : PySem.W.nsIn K mainGlobals "int" = some none)
    (z2 : PySem.W.nsIn K mainGlobals "isinstance" = some none)
    (z3 : PySem.W.nsIn K mainGlobals "len" = some none)
    (z4 : PySem.W.nsIn K mainGlobals "list" = some none)
    (z5 : PySem.W.nsIn K mainGlobals "max" = some none)
    (z6 : PySem.W.nsIn K mainGlobals "min" = some none)
    (z7 : PySem.W.nsIn K mainGlobals "range" = some none)
    (z8 : PySem.W.nsIn K mainGlobals "zip" = some none) :
    ∃ fd : FuncData, (∀ (s : Shared) (v : Value), BindsTo s fd ⟨[v], []⟩ [("script", v)]) ∧ ∀ base : Heap, K.In base → base.Ns mainGlobals mg → FnOk l.prog w K mg base (L2.CX l.prog w) 9 fa fd ["script"] (spD K 1 F_law) := by
  have e := hfa.symm.trans (PySem.W.mg_of X G a18)
  cases e
  have T : Txt K mg ⟨f0, (PySem.W.fnOf "is_whole" "is_whole" (defArgs s_is_whole) (defBody s_is_whole) (defScope s_is_whole) .none kV0 dc0 pm0 an0 cd0 ct0), f1, (PySem.W.fnOf "are_counts" "are_counts" (defArgs s_are_counts) (defBody s_are_counts) (defScope s_are_counts) .none kV1 dc1 pm1 an1 cd1 ct1), f2, (PySem.W.fnOf "are_coins" "are_coins" (defArgs s_are_coins) (defBody s_are_coins) (defScope s_are_coins) .none kV2 dc2 pm2 an2 cd2 ct2), f3, (PySem.W.fnOf "check_coins" "check_coins" (defArgs s_check_coins) (defBody s_check_coins) (defScope s_check_coins) .none kV3 dc3 pm3 an3 cd3 ct3), f4, (PySem.W.fnOf "are_for_each" "are_for_each" (defArgs s_are_for_each) (defBody s_are_for_each) (defScope s_are_for_each) .none kV4 dc4 pm4 an4 cd4 ct4), f5, (PySem.W.fnOf "is_till" "is_till" (defArgs s_is_till) (defBody s_is_till) (defScope s_is_till) .none kV5 dc5 pm5 an5 cd5 ct5), f6, (PySem.W.fnOf "check_till" "check_till" (defArgs s_check_till) (defBody s_check_till) (defScope s_check_till) .none kV6 dc6 pm6 an6 cd6 ct6), f7, (PySem.W.fnOf "levels_of" "levels_of" (defArgs s_levels_of) (defBody s_levels_of) (defScope s_levels_of) .none kV7 dc7 pm7 an7 cd7 ct7), f8, (PySem.W.fnOf "are_levels" "are_levels" (defArgs s_are_levels) (defBody s_are_levels) (defScope s_are_levels) .none kV8 dc8 pm8 an8 cd8 ct8), f9, (PySem.W.fnOf "check_levels" "check_levels" (defArgs s_check_levels) (defBody s_check_levels) (defScope s_check_levels) .none kV9 dc9 pm9 an9 cd9 ct9), f10, (PySem.W.fnOf "till_of" "till_of" (defArgs s_till_of) (defBody s_till_of) (defScope s_till_of) .none kV10 dc10 pm10 an10 cd10 ct10), f11, (PySem.W.fnOf "_law_sack" "_law_sack" (defArgs s__law_sack) (defBody s__law_sack) (defScope s__law_sack) .none kV11 dc11 pm11 an11 cd11 ct11), f12, (PySem.W.fnOf "_law_fetch" "_law_fetch" (defArgs s__law_fetch) (defBody s__law_fetch) (defScope s__law_fetch) .none kV12 dc12 pm12 an12 cd12 ct12), f13, (PySem.W.fnOf "_law_mint" "_law_mint" (defArgs s__law_mint) (defBody s__law_mint) (defScope s__law_mint) .none kV13 dc13 pm13 an13 cd13 ct13), f14, (PySem.W.fnOf "_law_lot" "_law_lot" (defArgs s__law_lot) (defBody s__law_lot) (defScope s__law_lot) .none kV14 dc14 pm14 an14 cd14 ct14), f15, (PySem.W.fnOf "_law_exchanged" "_law_exchanged" (defArgs s__law_exchanged) (defBody s__law_exchanged) (defScope s__law_exchanged) .none kV15 dc15 pm15 an15 cd15 ct15), f16, (PySem.W.fnOf "_law_exchange_right" "_law_exchange_right" (defArgs s__law_exchange_right) (defBody s__law_exchange_right) (defScope s__law_exchange_right) .none kV16 dc16 pm16 an16 cd16 ct16), f17, (PySem.W.fnOf "_law_wider_right" "_law_wider_right" (defArgs s__law_wider_right) (defBody s__law_wider_right) (defScope s__law_wider_right) .none kV17 dc17 pm17 an17 cd17 ct17), fa, (PySem.W.fnOf "law" "law" (defArgs s_law) (defBody s_law) (defScope s_law) .none kV18 dc18 pm18 an18 cd18 ct18)⟩ := ⟨fun_mk (st := s_is_whole) l0 c0 k0,
    (fun_mk (st := s_is_whole) l0 c0 k0).binds (ps := ["thing"]) fun _ _ _ _ _ _ us hl => match us, hl with | [_], _ => rfl,
    PySem.W.mg_of X G a0,
    fun_mk (st := s_are_counts) l1 c1 k1,
    (fun_mk (st := s_are_counts) l1 c1 k1).binds (ps := ["thing"]) fun _ _ _ _ _ _ us hl => match us, hl with | [_], _ => rfl,
    PySem.W.mg_of X G a1,
    fun_mk (st := s_are_coins) l2 c2 k2,
    (fun_mk (st := s_are_coins) l2 c2 k2).binds (ps := ["thing"]) fun _ _ _ _ _ _ us hl => match us, hl with | [_], _ => rfl,
    PySem.W.mg_of X G a2,
    fun_mk (st := s_check_coins) l3 c3 k3,
    (fun_mk (st := s_check_coins) l3 c3 k3).binds (ps := ["thing"]) fun _ _ _ _ _ _ us hl => match us, hl with | [_], _ => rfl,
    PySem.W.mg_of X G a3,
    fun_mk (st := s_are_for_each) l4 c4 k4,
    (fun_mk (st := s_are_for_each) l4 c4 k4).binds (ps := ["coins", "thing"]) fun _ _ _ _ _ _ us hl => match us, hl with | [_, _], _ => rfl,
    PySem.W.mg_of X G a4,
    fun_mk (st := s_is_till) l5 c5 k5,
    (fun_mk (st := s_is_till) l5 c5 k5).binds (ps := ["coins", "thing"]) fun _ _ _ _ _ _ us hl => match us, hl with | [_, _], _ => rfl,
    PySem.W.mg_of X G a5,
    fun_mk (st := s_check_till) l6 c6 k6,
    (fun_mk (st := s_check_till) l6 c6 k6).binds (ps := ["coins", "thing"]) fun _ _ _ _ _ _ us hl => match us, hl with | [_, _], _ => rfl,
    PySem.W.mg_of X G a6,
    fun_mk (st := s_levels_of) l7 c7 k7,
    (fun_mk (st := s_levels_of) l7 c7 k7).binds (ps := ["coins", "till"]) fun _ _ _ _ _ _ us hl => match us, hl with | [_, _], _ => rfl,
    PySem.W.mg_of X G a7,
    fun_mk (st := s_are_levels) l8 c8 k8,
    (fun_mk (st := s_are_levels) l8 c8 k8).binds (ps := ["coins", "thing"]) fun _ _ _ _ _ _ us hl => match us, hl with | [_, _], _ => rfl,
    PySem.W.mg_of X G a8,
    fun_mk (st := s_check_levels) l9 c9 k9,
    (fun_mk (st := s_check_levels) l9 c9 k9).binds (ps := ["coins", "thing"]) fun _ _ _ _ _ _ us hl => match us, hl with | [_, _], _ => rfl,
    PySem.W.mg_of X G a9,
    fun_mk (st := s_till_of) l10 c10 k10,
    (fun_mk (st := s_till_of) l10 c10 k10).binds (ps := ["coins", "levels"]) fun _ _ _ _ _ _ us hl => match us, hl with | [_, _], _ => rfl,
    PySem.W.mg_of X G a10,
    fun_mk (st := s__law_sack) l11 c11 k11,
    (fun_mk (st := s__law_sack) l11 c11 k11).binds (ps := ["script", "k"]) fun _ _ _ _ _ _ us hl => match us, hl with | [_, _], _ => rfl,
    PySem.W.mg_of X G a11,
    fun_mk (st := s__law_fetch) l12 c12 k12,
    (fun_mk (st := s__law_fetch) l12 c12 k12).binds (ps := ["sack", "many"]) fun _ _ _ _ _ _ us hl => match us, hl with | [_, _], _ => rfl,
    PySem.W.mg_of X G a12,
    fun_mk (st := s__law_mint) l13 c13 k13,
    (fun_mk (st := s__law_mint) l13 c13 k13).binds (ps := ["sack"]) fun _ _ _ _ _ _ us hl => match us, hl with | [_], _ => rfl,
    PySem.W.mg_of X G a13,
    fun_mk (st := s__law_lot) l14 c14 k14,
    (fun_mk (st := s__law_lot) l14 c14 k14).binds (ps := ["sack", "mint"]) fun _ _ _ _ _ _ us hl => match us, hl with | [_, _], _ => rfl,
    PySem.W.mg_of X G a14,
    fun_mk (st := s__law_exchanged) l15 c15 k15,
    (fun_mk (st := s__law_exchanged) l15 c15 k15).binds (ps := ["mint", "lot", "k"]) fun _ _ _ _ _ _ us hl => match us, hl with | [_, _, _], _ => rfl,
    PySem.W.mg_of X G a15,
    fun_mk (st := s__law_exchange_right) l16 c16 k16,
    (fun_mk (st := s__law_exchange_right) l16 c16 k16).binds (ps := ["mint", "lot", "k"]) fun _ _ _ _ _ _ us hl => match us, hl with | [_, _, _], _ => rfl,
    PySem.W.mg_of X G a16,
    fun_mk (st := s__law_wider_right) l17 c17 k17,
    (fun_mk (st := s__law_wider_right) l17 c17 k17).binds (ps := ["mint", "lot", "k"]) fun _ _ _ _ _ _ us hl => match us, hl with | [_, _, _], _ => rfl,
    PySem.W.mg_of X G a17,
    fun_mk (st := s_law) l18 c18 k18,
    (fun_mk (st := s_law) l18 c18 k18).binds (ps := ["script"]) fun _ _ _ _ _ _ us hl => match us, hl with | [_], _ => rfl,
    PySem.W.mg_of X G a18,
    ⟨_, PySem.W.mg_of X G q0⟩,
    ⟨_, PySem.W.mg_of X G q1⟩,
    ⟨_, PySem.W.mg_of X G q2⟩,
    PySem.W.mg_none_of X G z0,
    PySem.W.mg_none_of X G z1,
    PySem.W.mg_none_of X G z2,
    PySem.W.mg_none_of X G z3,
    PySem.W.mg_none_of X G z4,
    PySem.W.mg_none_of X G z5,
    PySem.W.mg_none_of X G z6,
    PySem.W.mg_none_of X G z7,
    PySem.W.mg_none_of X G z8⟩
  exact ⟨_, fun s v => .of_eq rfl, fun base _ _ => ok_law T⟩
end Law

namespace Law
open PySem PySem.Spec PyProof.Rows L2 DL
local macro_rules | `(tactic| walk_at "ev") => `(tactic| simp (disch := omega) only [x_bind, x_toO, x_nx, x_seq1, x_seq2, x_lift, x_dI, x_dO, x_slI, x_slO, x_c, x_var, x_varI, x_varO, x_move, x_moveI, x_moveO, x_op, x_un, x_asB, x_asI, x_tOf, x_tAnd, x_tOr, x_tNot, x_tYes, x_and, x_or, x_not, x_if, x_chain,
  x_aNil, x_aCons, x_aSlot, x_slotO, x_ims0, x_ims1, x_lst, x_tup, x_cb, x_oNone, x_oSome, x_slD, x_eSl, x_ixO, x_ixK1, x_ixK2, x_lenO, x_lenK, x_add, x_sub, x_mul, x_div, x_mod, x_pow, x_neg, x_lt, x_le, x_gt, x_ge, x_eqI, x_neI, x_isN, x_isNotN, x_isB, x_isNotB, x_ixL, x_ixT, x_ixS,
  x_len, x_lenT, x_lenS, x_max, x_min, x_list, x_isi, x_next, x_sSeq, x_set, x_setO, x_drop, x_ret, x_sIf, x_par, x_parK, x_app, x_appK1, x_appK2, x_setIx, x_stK1, x_for, x_asg, x_asgK, x_tgName, x_tgTup, x_tgAll0, x_tgAll1, x_rng1, x_rng1K, x_rng2, x_rng2K, x_zip, x_zipK, x_call, x_call0, x_comp,
  g_zero, g_succ, s_zero, s_succ, o_map, o_bind, c_true, c_false, decide_true, decide_false, lt_t, lt_f, le_t, le_f, eq_t, eq_f, ble_t, ble_f, Bool.false_eq_true, Bool.true_eq_false, not_true_eq_false, not_false_eq_true, eq_self, reduceCtorEq, Bool.not_true, Bool.not_false, Bool.true_and, Bool.and_true, Bool.false_and, Bool.and_false, Bool.true_or, Bool.or_true, Bool.false_or, Bool.or_false, l_cons, l_nil, List.length_map, List.length_set, Int.toNat_natCast, tn1, tn0,
  if_pos, if_neg, x_stK2, x_stK3, ixN_at, ix0, ix1, ix2, ix3, ix4, ixm, x_endR, x_endN, u_nil, u_im, u_own, w_1, w_2, r_1, r_2, d_zero, d_succ, k_cons, k_nil, k_im, k_no, cut_take, cut_drop, x_eqL, x_neL, x_eqL0, x_neL0, x_eqB, x_neB, Int.reduceToNat, Int.reducePow, Int.reduceAdd, Int.reduceSub, Int.reduceMul, Int.reduceNeg, Int.reduceLT, Int.reduceLE, Int.reduceEq, Int.reduceDiv, Int.reduceMod, Nat.reduceAdd, Nat.reduceLT, Nat.reduceLeDiff, Nat.reduceSub, Nat.reduceMul, Int.toNat_zero, Int.toNat_one])

/-! ### the drawing -/
theorem fetch_ok {a b c m : Int} (ha : 0 ≤ a) (hb : 0 ≤ b) (hb2 : b < 2 ^ 150) (hc : 0 ≤ c) (hc2 : c < 2 ^ 60) (hm : 1 ≤ m) (hm2 : m < 2 ^ 150) :
    ∃ r a' c', F__law_fetch [.own [.int a, .int b, .int c], .im (.int m)] = .ok (.im (.int r)) [.own [.int a', .int b, .int c'], .im (.int m)] ∧ 0 ≤ r ∧ r < m ∧ 0 ≤ a' ∧ 0 ≤ c' ∧ c' ≤ c + 1 := by
  unfold F__law_fetch
  rw [x_run rfl]
  show ∃ r a' c', endOf _ (g__law_fetch [.own [.int a, .int b, .int c], .im (.int m), .no, .no]) = _ ∧ _
  unfold g__law_fetch
  by_cases h : 0 < a
  · walk_at "ev"
    exact ⟨_, _, _, rfl, Int.emod_nonneg _ (by omega), Int.emod_lt_of_pos _ (by omega), Int.ediv_nonneg (by omega) (by omega), hc, by omega⟩
  · walk_at "ev"
    exact ⟨_, _, _, rfl, Int.emod_nonneg _ (by omega), Int.emod_lt_of_pos _ (by omega), ha, by omega, by omega⟩
/-- a sack's numbers: c at most n -/
structure Sk (n : Int) (a b c : Int) : Prop where
  ha : 0 ≤ a
  hb : 0 ≤ b
  hb2 : b < 2 ^ 150
  hc : 0 ≤ c
  hc2 : c ≤ n
abbrev skL (a b c : Int) : List D := [.int a, .int b, .int c]
theorem fetch_sk {n a b c m : Int} (S : Sk n a b c) (hn : n < 1000000000) (hm : 1 ≤ m) (hm2 : m < 2 ^ 150) :
    ∃ r a' c', F__law_fetch [.own (skL a b c), .im (.int m)] = .ok (.im (.int r)) [.own (skL a' b c'), .im (.int m)] ∧ 0 ≤ r ∧ r < m ∧ Sk (n + 1) a' b c' := by
  obtain ⟨r, a', c', e, h1, h2, h3, h4, h5⟩ := fetch_ok (c := c) S.ha S.hb S.hb2 S.hc (by have := S.hc2; omega) hm hm2
  exact ⟨r, a', c', e, h1, h2, h3, S.hb, S.hb2, h4, by have := S.hc2; omega⟩
theorem Sk.mono {n m a b c : Int} (S : Sk n a b c) (h : n ≤ m) : Sk m a b c := ⟨S.ha, S.hb, S.hb2, S.hc, by have := S.hc2; omega⟩
/-- each goes into the next one -/
def Chain : List Int → Prop
  | a :: b :: r => a < b ∧ b % a = 0 ∧ Chain (b :: r)
  | _ => True
theorem Chain.app : ∀ {xs : List Int} {l m : Int}, Chain (xs ++ [l]) → l < m → m % l = 0 → Chain (xs ++ [l, m])
  | [], l, m, _, h1, h2 => ⟨h1, h2, trivial⟩
  | [x], l, m, h, h1, h2 => ⟨h.1, h.2.1, h1, h2, trivial⟩
  | x :: y :: r, l, m, h, h1, h2 => ⟨h.1, h.2.1, Chain.app (xs := y :: r) h.2.2 h1 h2⟩
structure Coins (cs : List Int) : Prop where
  lo : 2 ≤ cs.length
  hi : cs.length ≤ 5
  one : cs[0]? = some 1
  ch : Chain cs
  le : ∀ c ∈ cs, c ≤ 100000
theorem mint_ok {n a b c : Int} (S : Sk n a b c) (hn : n < 100000000) : ∃ cs a' c', F__law_mint [.own (skL a b c)] = .ok (.own (cs.map D.int)) [.own (skL a' b c')] ∧ Coins cs ∧ Sk (n + 13) a' b c' := by
  unfold F__law_mint
  rw [x_run rfl]
  show ∃ cs a' c', endOf _ (g__law_mint [.own (skL a b c), .no, .no, .no, .no]) = _ ∧ _
  unfold g__law_mint
  obtain ⟨r, a1, c1, e, h1, h2, S1⟩ := fetch_sk (m := 4) S (by omega) (by omega) (by omega)
  walk_at "ev"
  rw [x_doSI rfl e]
  walk_at "ev"
  generalize hstep : stepOf (tgName 2) _ = step
  obtain ⟨ρ', e2, xs, l, a2, c2, x, y, z, rfl, hlen, hlo, hone, hch, hle, hl1, S2⟩ := dFor_run (step := step) (items := rngD 0 (1 + r).toNat)
    (fun i ρ => ∃ (xs : List Int) (l a2 c2 : Int) (x y z : Sl), ρ = [.own (skL a2 b c2), .own (xs.map D.int ++ [D.int l]), x, y, z] ∧ xs.length ≤ i ∧ (1 ≤ i → 1 ≤ xs.length) ∧ (xs ++ [l])[0]? = some 1 ∧ Chain (xs ++ [l]) ∧ (∀ c ∈ xs ++ [l], c ≤ 100000) ∧ 1 ≤ l ∧ Sk (n + 1 + 3 * i) a2 b c2)
    (ρ := [Sl.own (skL a1 b c1), Sl.own [D.int 1], Sl.no, Sl.no, Sl.no]) ⟨[], 1, a1, c1, .no, .no, .no, rfl, by simp, by omega, rfl, trivial, by simp, by omega, by simpa using S1⟩ (by
      rintro i d ρ hi ⟨xs, l, a2, c2, x, y, z, rfl, hlen, hlo, hone, hch, hle, hl1, S2⟩
      have hin : i < (1 + r).toNat := by
        have := (List.getElem?_eq_some_iff.mp hi).1
        rwa [rngD_len] at this
      rw [rngD_get hin] at hi
      cases hi
      subst hstep
      have hl2 : l ≤ 100000 := hle l (by simp)
      rw [x_step x_tgName]
      walk_at "ev"
      by_cases hm : 1 < 100000 / l
      · obtain ⟨r1, a3, c3, e3, k1, k2, S3⟩ := fetch_sk (m := 9) S2 (by omega) (by omega) (by omega)
        have hq : 100000 / l ≤ 100000 := Int.ediv_le_self _ (by omega)
        obtain ⟨r2, a4, c4, e4, k3, k4, S4⟩ := fetch_sk (m := 100000 / l - 1) S3 (by omega) (by omega) (by omega)
        obtain ⟨r3, a5, c5, e5, k5, k6, S5⟩ := fetch_sk (m := 4) S4 (by omega) (by omega) (by omega)
        walk_at "ev"
        rw [x_doSI rfl e3]
        walk_at "ev"
        rw [x_doSI rfl e4]
        walk_at "ev"
        rw [x_doSI rfl e5]
        walk_at "ev"
        obtain ⟨f, ef, hf⟩ : ∃ f : Int, atI [D.int 2, D.int 5, D.int (2 + r1), D.int (2 + r2)] r3 = some (.int f) ∧ 2 ≤ f := by
          have hr3 : r3 = 0 ∨ r3 = 1 ∨ r3 = 2 ∨ r3 = 3 := by omega
          rcases hr3 with rfl | rfl | rfl | rfl
          · exact ⟨2, ix0, by omega⟩
          · exact ⟨5, ix1, by omega⟩
          · exact ⟨2 + r1, ix2, by omega⟩
          · exact ⟨2 + r2, ix3, by omega⟩
        rw [ef]
        walk_at "ev"
        generalize hmm : (if f < 100000 / l then f else 100000 / l) = m
        have hm2 : 2 ≤ m ∧ m ≤ 100000 / l := by
          rw [← hmm]
          split <;> omega
        have hlm : l * m ≤ 100000 := by
          have h1 : l * m ≤ l * (100000 / l) := Int.mul_le_mul_of_nonneg_left hm2.2 (by omega)
          have h2 : l * (100000 / l) ≤ 100000 := Int.mul_ediv_self_le (by omega)
          omega
        have hll : l < l * m := by
          have h1 : l * 2 ≤ l * m := Int.mul_le_mul_of_nonneg_left hm2.1 (by omega)
          omega
        rw [x_appK2 (by rw [List.length_append, List.length_map, List.length_singleton]; omega)]
        walk_at "ev"
        refine ⟨_, rfl, xs ++ [l], l * m, a5, c5, _, _, _, by rw [List.map_append]; rfl, by rw [List.length_append, List.length_singleton]; omega, fun _ => by rw [List.length_append, List.length_singleton]; omega, ?_, ?_, ?_, by omega, S5.mono (by omega)⟩
        · rw [List.getElem?_append_left (by rw [List.length_append, List.length_singleton]; omega)]
          exact hone
        · rw [List.append_assoc]
          exact Chain.app hch hll (Int.mul_emod_right l m)
        · intro c hc
          rcases List.mem_append.mp hc with hc | hc
          · exact hle c hc
          · rw [List.mem_singleton] at hc
            omega
      · walk_at "ev"
        refine ⟨_, rfl, xs, l, a2, c2, _, _, _, rfl, by omega, fun _ => ?_, hone, hch, hle, hl1, S2.mono (by omega)⟩
        by_cases h0 : i = 0
        · exfalso
          subst h0
          have : xs = [] := List.length_eq_zero_iff.mp (by omega)
          subst this
          have : l = 1 := by simpa using hone
          subst this
          omega
        · exact hlo (by omega))
  rw [e2]
  walk_at "ev"
  rw [rngD_len] at hlen hlo S2
  have e9 : xs.map D.int ++ [D.int l] = (xs ++ [l]).map D.int := by rw [List.map_append]; rfl
  refine ⟨xs ++ [l], a2, c2, by rw [e9], ⟨?_, ?_, hone, hch, hle⟩, S2.mono (by omega)⟩
  · rw [List.length_append, List.length_singleton]
    have := hlo (by omega)
    omega
  · rw [List.length_append, List.length_singleton]
    omega

/-! ### the program: coins -/
theorem is_whole_ok {d : D} (h : plain d = true) : F_is_whole [.im d] = .ok (.im (.bl (isIntD d))) [.im d] := by
  unfold F_is_whole
  rw [x_run rfl]
  show endOf _ (g_is_whole [.im d]) = _
  unfold g_is_whole
  walk_at "ev"
  rw [isi_int h]
  walk_at "ev"
  cases hb : (isIntD d || isBoolD d) with
  | false =>
    walk_at "ev"
    rw [Bool.or_eq_false_iff] at hb
    rw [hb.1]
  | true =>
    walk_at "ev"
    rw [isi_bool h]
    walk_at "ev"
    cases d <;> first | rfl | exact Bool.noConfusion hb
def countD : D → Bool
  | .int i => leB 0 i
  | _ => false
def countsD : D → Bool
  | .lst ds => ds.all countD
  | _ => false
/-- plain, and its items, where it is a list -/
def plain2 : D → Bool
  | .lst ds => ds.all plain
  | d => plain d
theorem plain_of2 {d : D} (h : plain2 d = true) : plain d = true := by
  cases d <;> first | rfl | exact h
theorem are_counts_ok {d : D} (h : plain2 d = true) : F_are_counts [.im d] = .ok (.im (.bl (countsD d))) [.im d] := by
  unfold F_are_counts
  rw [x_run rfl]
  show endOf _ (g_are_counts [.im d, .no]) = _
  unfold g_are_counts
  walk_at "ev"
  rw [isi_list (plain_of2 h)]
  walk_at "ev"
  cases d with
  | lst ds =>
    simp only [isListD, countsD]
    walk_at "ev"
    rw [x_iList]
    walk_at "ev"
    generalize hstep : stepOf (tgName 1) _ = step
    obtain ⟨y, e⟩ := dFor_test (step := step) (ev := fun x => [Sl.im (D.lst ds), x]) (p := countD) (rv := .im (.bl false)) ds .no (fun d hd x => by
      have hp : plain d = true := List.all_eq_true.mp h d hd
      subst hstep
      rw [x_step x_tgName]
      walk_at "ev"
      rw [x_do1 (is_whole_ok hp)]
      walk_at "ev"
      cases d with
      | int i =>
        simp only [isIntD, countD]
        by_cases h0 : i < 0
        · walk_at "ev"
        · walk_at "ev"
      | _ => rfl)
    rw [e]
    cases ds.all countD <;> rfl
  | _ => rfl
def ChainB : List Int → Bool
  | a :: b :: r => ltB a b && eqB (b % a) 0 && ChainB (b :: r)
  | _ => true
theorem chainB_iff : ∀ {ns : List Int}, ChainB ns = true ↔ Chain ns
  | [] => ⟨fun _ => trivial, fun _ => rfl⟩
  | [_] => ⟨fun _ => trivial, fun _ => rfl⟩
  | a :: b :: r => by
    show (ltB a b && eqB (b % a) 0 && ChainB (b :: r)) = true ↔ (a < b ∧ b % a = 0 ∧ Chain (b :: r))
    unfold ltB eqB
    rw [Bool.and_eq_true, Bool.and_eq_true, decide_eq_true_eq, decide_eq_true_eq, chainB_iff, and_assoc]
def coinsB (ns : List Int) : Bool := Nat.ble 2 ns.length && Nat.ble ns.length 5 && eqB (ns.headD 0) 1 && ChainB ns && leB ((atI ns (-1)).getD 0) 100000
theorem coinsB_iff {ns : List Int} : coinsB ns = true ↔ (((2 ≤ ns.length ∧ ns.length ≤ 5) ∧ ns.headD 0 = 1) ∧ Chain ns) ∧ (atI ns (-1)).getD 0 ≤ 100000 := by
  unfold coinsB eqB leB
  rw [Bool.and_eq_true, Bool.and_eq_true, Bool.and_eq_true, Bool.and_eq_true, decide_eq_true_eq, decide_eq_true_eq, chainB_iff, Nat.ble_eq, Nat.ble_eq]
def intsOf : List D → Option (List Int)
  | [] => some []
  | .int i :: r => (intsOf r).map (i :: ·)
  | _ :: _ => none
theorem intsOf_map : ∀ ns : List Int, intsOf (ns.map D.int) = some ns
  | [] => rfl
  | n :: r => by
    show (intsOf (r.map D.int)).map (n :: ·) = _
    rw [intsOf_map r]
    rfl
theorem intsOf_some : ∀ {ds : List D} {ns : List Int}, intsOf ds = some ns → ds = ns.map D.int
  | [], _, e => by
    cases e
    rfl
  | .int i :: r, ns, e => by
    rw [show intsOf (.int i :: r) = (intsOf r).map (i :: ·) from rfl] at e
    cases q : intsOf r with
    | none => rw [q] at e; cases e
    | some ms =>
      rw [q] at e
      cases e
      rw [intsOf_some q]
      rfl
/-- what is coins, of anything -/
def coinsD : D → Bool
  | .lst ds =>
    match intsOf ds with
    | some ns => coinsB ns
    | none => false
  | _ => false
theorem counts_ints : ∀ {ds : List D}, ds.all countD = true → ∃ ns : List Int, ds = ns.map D.int ∧ ∀ n ∈ ns, 0 ≤ n
  | [], _ => ⟨[], rfl, fun _ h => by cases h⟩
  | d :: ds, h => by
    rw [List.all_cons, Bool.and_eq_true] at h
    obtain ⟨ns, e, k⟩ := counts_ints h.2
    cases d with
    | int i =>
      refine ⟨i :: ns, by rw [e]; rfl, fun n hn => ?_⟩
      rcases List.mem_cons.mp hn with rfl | hn
      · exact of_decide_eq_true h.1
      · exact k n hn
    | _ => exact Bool.noConfusion h.1
theorem counts_map {ns : List Int} : (ns.map D.int).all countD = ns.all fun n => leB 0 n := by
  rw [List.all_map]
  rfl
theorem chain_pos : ∀ {a : Int} {r : List Int}, Chain (a :: r) → 1 ≤ a → ∀ n ∈ a :: r, 1 ≤ n
  | a, [], _, h, n, hn => by
    rw [List.mem_singleton] at hn
    omega
  | a, b :: r, hc, h, n, hn => by
    rcases List.mem_cons.mp hn with rfl | hn
    · exact h
    · exact chain_pos (a := b) (r := r) hc.2.2 (by have := hc.1; omega) n hn
theorem coins_loop {step : D → DL.Env → Out} (hs : step = stepOf (tgName 1) (sIf (tOrD (tOf (eOp cLe (eOp ixD (eVar 0) (eVar 1)) (eOp ixD (eVar 0) (eOp opSub (eVar 1) (eC (.int 1)))))) (tOf (eOp cNe (eOp opMod (eOp ixD (eVar 0) (eVar 1)) (eOp ixD (eVar 0) (eOp opSub (eVar 1) (eC (.int 1))))) (eC (.int 0))))) (sRet (eC (.bl false))) sNext)) :
    ∀ (r pre : List Int) (a : Int) (x : Sl), 1 ≤ a → ∃ y, dFor step (rngD (1 + (pre.length : Int)) r.length) [.im (.lst ((pre ++ a :: r).map D.int)), x] =
      cond (ChainB (a :: r)) (.nx [.im (.lst ((pre ++ a :: r).map D.int)), y]) (.ret (.im (.bl false)) [.im (.lst ((pre ++ a :: r).map D.int)), y])
  | [], pre, a, x, _ => ⟨x, rfl⟩
  | b :: r, pre, a, x, h => by
    have e1 : atI ((pre ++ a :: b :: r).map D.int) (1 + (pre.length : Int)) = some (.int b) := by
      refine (congrArg _ (by omega)).trans (atI_nat (j := pre.length + 1) (v := D.int b) ?_)
      rw [List.getElem?_map, List.getElem?_append_right (by omega), Nat.add_sub_cancel_left]
      rfl
    have e2 : atI ((pre ++ a :: b :: r).map D.int) (1 + (pre.length : Int) - 1) = some (.int a) := by
      refine (congrArg _ (by omega)).trans (atI_nat (j := pre.length) (v := D.int a) ?_)
      rw [List.getElem?_map, List.getElem?_append_right (by omega), Nat.sub_self]
      rfl
    have e0 : pre ++ a :: b :: r = (pre ++ [a]) ++ b :: r := by simp
    rw [List.length_cons, rngD_cons]
    have hstep : step (.int (1 + (pre.length : Int))) [.im (.lst ((pre ++ a :: b :: r).map D.int)), x] = cond (ltB a b && eqB (b % a) 0) (.nx [.im (.lst ((pre ++ a :: b :: r).map D.int)), .im (.int (1 + (pre.length : Int)))])
        (.ret (.im (.bl false)) [.im (.lst ((pre ++ a :: b :: r).map D.int)), .im (.int (1 + (pre.length : Int)))]) := by
      rw [hs, x_step x_tgName]
      walk_at "ev"
      rw [e1]
      walk_at "ev"
      rw [e2]
      walk_at "ev"
      by_cases h1 : b ≤ a
      · walk_at "ev"
      · walk_at "ev"
        rw [e1]
        walk_at "ev"
        rw [e2]
        walk_at "ev"
        by_cases h2 : b % a = 0
        · walk_at "ev"
        · walk_at "ev"
    cases hc : (ltB a b && eqB (b % a) 0) with
    | true =>
      rw [hc, cond_true] at hstep
      have hab : a < b := by
        rw [Bool.and_eq_true] at hc
        exact of_decide_eq_true hc.1
      obtain ⟨y, e⟩ := coins_loop hs r (pre ++ [a]) b (.im (.int (1 + (pre.length : Int)))) (by omega)
      refine ⟨y, ?_⟩
      rw [dFor_cons hstep]
      rw [List.length_append, List.length_singleton, ← e0] at e
      rw [show (1 : Int) + (pre.length : Int) + 1 = 1 + ((pre.length + 1 : Nat) : Int) by omega, e]
      show _ = cond (ltB a b && eqB (b % a) 0 && ChainB (b :: r)) _ _
      rw [hc, Bool.true_and]
    | false =>
      rw [hc, cond_false] at hstep
      refine ⟨.im (.int (1 + (pre.length : Int))), ?_⟩
      rw [dFor_ret hstep]
      show _ = cond (ltB a b && eqB (b % a) 0 && ChainB (b :: r)) _ _
      rw [hc, Bool.false_and, cond_false]
theorem are_coins_ok {d : D} (h : plain2 d = true) : F_are_coins [.im d] = .ok (.im (.bl (coinsD d))) [.im d] := by
  unfold F_are_coins
  rw [x_run rfl]
  show endOf _ (g_are_coins [.im d, .no]) = _
  unfold g_are_coins
  walk_at "ev"
  rw [x_do1 (are_counts_ok h)]
  walk_at "ev"
  cases hc : countsD d with
  | false =>
    walk_at "ev"
    have hcd : coinsD d = false := by
      cases d with
      | lst ds =>
        show (match intsOf ds with | some ns => coinsB ns | none => false) = false
        cases q : intsOf ds with
        | none => rfl
        | some ns =>
          have hds := intsOf_some q
          show coinsB ns = false
          cases hb : coinsB ns with
          | false => rfl
          | true =>
            exfalso
            obtain ⟨⟨⟨⟨h1, h2⟩, h3⟩, h4⟩, h5⟩ := coinsB_iff.mp hb
            cases ns with
            | nil => simp at h1
            | cons n r =>
              have hn : n = 1 := by simpa using h3
              have := chain_pos h4 (by omega)
              have : (ds.all countD) = true := by
                rw [hds, counts_map]
                exact List.all_eq_true.mpr fun m hm => decide_eq_true (by have := this m hm; omega)
              rw [show countsD (.lst ds) = ds.all countD from rfl, this] at hc
              exact Bool.noConfusion hc
      | _ => rfl
    rw [hcd]
  | true =>
    walk_at "ev"
    cases d with
    | lst ds =>
      obtain ⟨ns, rfl, hpos⟩ := counts_ints (show ds.all countD = true from hc)
      have hcd : coinsD (.lst (ns.map D.int)) = coinsB ns := by
        show (match intsOf (ns.map D.int) with | some ns => coinsB ns | none => false) = _
        rw [intsOf_map]
      rw [hcd]
      unfold coinsB
      walk_at "ev"
      by_cases h1 : 2 ≤ ns.length
      case neg =>
        have : ¬ (2 : Int) ≤ (ns.length : Int) := by omega
        walk_at "ev"
      have h1' : (2 : Int) ≤ (ns.length : Int) := by omega
      walk_at "ev"
      by_cases h2 : ns.length ≤ 5
      case neg =>
        have : ¬ (ns.length : Int) ≤ 5 := by omega
        walk_at "ev"
      have h2' : (ns.length : Int) ≤ 5 := by omega
      walk_at "ev"
      obtain ⟨n, r, rfl⟩ : ∃ n r, ns = n :: r := by
        cases ns with
        | nil => simp at h1
        | cons n r => exact ⟨n, r, rfl⟩
      rw [List.map_cons]
      walk_at "ev"
      by_cases h3 : n = 1
      case neg =>
        rw [List.headD_cons]
        walk_at "ev"
      subst h3
      walk_at "ev"
      have hlast : atI (D.int 1 :: r.map D.int) (-1) = (atI ((1 : Int) :: r) (-1)).map D.int := by
        rw [← List.map_cons (f := D.int)]
        unfold atI
        rw [List.length_map]
        cases ixN ((1 : Int) :: r).length (-1) with
        | none => rfl
        | some j => exact List.getElem?_map
      obtain ⟨l, hl⟩ : ∃ l, atI ((1 : Int) :: r) (-1) = some l := by
        refine ⟨((1 : Int) :: r).getLast (List.cons_ne_nil _ _), ?_⟩
        have := atI_last ((1 : Int) :: r).dropLast (((1 : Int) :: r).getLast (List.cons_ne_nil _ _))
        rwa [List.dropLast_concat_getLast] at this
      rw [hlast, hl]
      walk_at "ev"
      simp only [Option.getD_some]
      by_cases h4 : l ≤ 100000
      case neg =>
        walk_at "ev"
      have h2r : r.length ≤ 4 := by
        rw [List.length_cons] at h2
        omega
      walk_at "ev"
      obtain ⟨y, e⟩ := coins_loop rfl r [] 1 .no (by omega)
      have hlen : (((r.length : Nat) + 1 : Nat) : Int) - 1 = (r.length : Int) := by omega
      rw [hlen]
      rw [show ((1 : Int) + (([] : List Int).length : Int)) = 1 by rfl, List.nil_append, List.map_cons] at e
      rw [show ((r.length : Int)).toNat = r.length by omega, e]
      rw [List.length_cons] at h1 h2
      cases ChainB (1 :: r) <;> rfl
    | _ => exact Bool.noConfusion hc

theorem Coins.b {ns : List Int} (C : Coins ns) : coinsB ns = true := by
  refine coinsB_iff.mpr ?_
  have hne : ns ≠ [] := fun z => by
    have := C.lo
    rw [z] at this
    simp at this
  obtain ⟨l, hl, hm⟩ : ∃ l, atI ns (-1) = some l ∧ l ∈ ns := by
    refine ⟨ns.getLast hne, ?_, List.getLast_mem hne⟩
    have := atI_last ns.dropLast (ns.getLast hne)
    rwa [List.dropLast_concat_getLast] at this
  refine ⟨⟨⟨⟨C.lo, C.hi⟩, ?_⟩, C.ch⟩, by rw [hl, Option.getD_some]; exact C.le l hm⟩
  have h1 := C.one
  cases ns with
  | nil => cases h1
  | cons n r =>
    cases h1
    rfl
theorem chain_le : ∀ {a : Int} {r : List Int}, Chain (a :: r) → ∀ n ∈ a :: r, a ≤ n ∧ ∀ l, atI (a :: r) (-1) = some l → n ≤ l
  | a, [], _, n, hn => by
    rw [List.mem_singleton] at hn
    subst hn
    refine ⟨Int.le_refl _, fun l hl => ?_⟩
    rw [show ([n] : List Int) = [] ++ [n] from rfl, atI_last] at hl
    cases hl
    exact Int.le_refl _
  | a, b :: r, hc, n, hn => by
    have hlast : atI (a :: b :: r) (-1) = atI (b :: r) (-1) := by
      have h1 := atI_last (a :: b :: r).dropLast ((a :: b :: r).getLast (List.cons_ne_nil _ _))
      have h2 := atI_last (b :: r).dropLast ((b :: r).getLast (List.cons_ne_nil _ _))
      rw [List.dropLast_concat_getLast] at h1 h2
      rw [h1, h2, List.getLast_cons]
    rcases List.mem_cons.mp hn with rfl | hn
    · refine ⟨Int.le_refl _, fun l hl => ?_⟩
      rw [hlast] at hl
      have := (chain_le (a := b) (r := r) hc.2.2 b List.mem_cons_self).2 l hl
      have := hc.1
      omega
    · obtain ⟨h1, h2⟩ := chain_le (a := b) (r := r) hc.2.2 n hn
      have := hc.1
      exact ⟨by omega, fun l hl => h2 l (by rw [← hlast]; exact hl)⟩
theorem coins_of {ns : List Int} (h : coinsB ns = true) : Coins ns := by
  obtain ⟨⟨⟨⟨h1, h2⟩, h3⟩, h4⟩, h5⟩ := coinsB_iff.mp h
  refine ⟨h1, h2, ?_, h4, fun c hc => ?_⟩
  · cases ns with
    | nil => simp at h1
    | cons n r =>
      have h3 : n = 1 := h3
      rw [h3]
      rfl
  cases ns with
  | nil => cases hc
  | cons n r =>
    obtain ⟨l, hl⟩ : ∃ l, atI (n :: r) (-1) = some l := by
      refine ⟨(n :: r).getLast (List.cons_ne_nil _ _), ?_⟩
      have := atI_last (n :: r).dropLast ((n :: r).getLast (List.cons_ne_nil _ _))
      rwa [List.dropLast_concat_getLast] at this
    rw [hl, Option.getD_some] at h5
    have := (chain_le h4 c hc).2 l hl
    omega
theorem Coins.pos {ns : List Int} (C : Coins ns) : ∀ n ∈ ns, 1 ≤ n := by
  obtain ⟨h1, _, h3, h4, _⟩ := C
  cases ns with
  | nil => simp at h1
  | cons n r =>
    have hn : n = 1 := by simpa using h3
    exact chain_pos h4 (by omega)
theorem plain2_ints (ns : List Int) : plain2 (.lst (ns.map D.int)) = true := by
  show (ns.map D.int).all plain = true
  rw [List.all_map]
  exact List.all_eq_true.mpr fun _ _ => rfl
theorem coinsD_ints (ns : List Int) : coinsD (.lst (ns.map D.int)) = coinsB ns := by
  show (match intsOf (ns.map D.int) with | some ns => coinsB ns | none => false) = _
  rw [intsOf_map]
theorem check_coins_ok {cs : List Int} (C : Coins cs) : F_check_coins [.im (.lst (cs.map D.int))] = .ok (.im .non) [.im (.lst (cs.map D.int))] := by
  unfold F_check_coins
  rw [x_run rfl]
  show endOf _ (g_check_coins [.im (.lst (cs.map D.int))]) = _
  unfold g_check_coins
  walk_at "ev"
  rw [x_do1 (are_coins_ok (plain2_ints cs))]
  rw [coinsD_ints, C.b]
  walk_at "ev"
/-- one number from 0 on for each coin -/
structure Till (cs ns : List Int) : Prop where
  len : ns.length = cs.length
  nn : ∀ n ∈ ns, 0 ≤ n
theorem countsD_ints (ns : List Int) : countsD (.lst (ns.map D.int)) = decide (∀ n ∈ ns, 0 ≤ n) := by
  show (ns.map D.int).all countD = _
  rw [counts_map]
  by_cases h : ∀ n ∈ ns, 0 ≤ n
  · rw [decide_eq_true h]
    exact List.all_eq_true.mpr fun n hn => decide_eq_true (h n hn)
  · rw [decide_eq_false h]
    rw [← Bool.not_eq_true]
    exact fun z => h fun n hn => of_decide_eq_true (List.all_eq_true.mp z n hn)
def eachD (cs : List Int) (d : D) : Bool :=
  match d with
  | .lst ds => ds.all countD && eqB ds.length cs.length
  | _ => false
theorem are_for_each_ok {cs : List Int} {d : D} (h : plain2 d = true) : F_are_for_each [.im (.lst (cs.map D.int)), .im d] = .ok (.im (.bl (eachD cs d))) [.im (.lst (cs.map D.int)), .im d] := by
  unfold F_are_for_each
  rw [x_run rfl]
  show endOf _ (g_are_for_each [.im (.lst (cs.map D.int)), .im d]) = _
  unfold g_are_for_each
  walk_at "ev"
  rw [x_do1 (are_counts_ok h)]
  walk_at "ev"
  cases hc : countsD d with
  | false =>
    walk_at "ev"
    cases d with
    | lst ds =>
      show _ = R.ok (Rv.im (.bl (ds.all countD && _))) _
      rw [show ds.all countD = false from hc, Bool.false_and]
    | _ => rfl
  | true =>
    walk_at "ev"
    cases d with
    | lst ds =>
      walk_at "ev"
      show _ = R.ok (Rv.im (.bl (ds.all countD && _))) _
      rw [show ds.all countD = true from hc, Bool.true_and]
    | _ => exact Bool.noConfusion hc
theorem is_till_ok {cs : List Int} {d : D} (C : Coins cs) (h : plain2 d = true) : F_is_till [.im (.lst (cs.map D.int)), .im d] = .ok (.im (.bl (eachD cs d))) [.im (.lst (cs.map D.int)), .im d] := by
  unfold F_is_till
  rw [x_run rfl]
  show endOf _ (g_is_till [.im (.lst (cs.map D.int)), .im d]) = _
  unfold g_is_till
  walk_at "ev"
  rw [x_do1 (check_coins_ok C)]
  walk_at "ev"
  rw [x_do2 (are_for_each_ok h)]
  walk_at "ev"
theorem Till.each {cs ns : List Int} (T : Till cs ns) : eachD cs (.lst (ns.map D.int)) = true := by
  show ((ns.map D.int).all countD && eqB (ns.map D.int).length cs.length) = true
  rw [counts_map, List.length_map, eq_t (by rw [T.len]), Bool.and_true]
  exact List.all_eq_true.mpr fun n hn => decide_eq_true (T.nn n hn)
theorem check_till_ok {cs ns : List Int} (C : Coins cs) (T : Till cs ns) : F_check_till [.im (.lst (cs.map D.int)), .im (.lst (ns.map D.int))] = .ok (.im .non) [.im (.lst (cs.map D.int)), .im (.lst (ns.map D.int))] := by
  unfold F_check_till
  rw [x_run rfl]
  show endOf _ (g_check_till [.im (.lst (cs.map D.int)), .im (.lst (ns.map D.int))]) = _
  unfold g_check_till
  walk_at "ev"
  rw [x_do2 (is_till_ok C (plain2_ints ns)), T.each]
  walk_at "ev"
/-- the levels, from what is below on -/
def lv : List Int → List Int → Int → List Int
  | c :: cs, n :: ns, w => (w + c * n) :: lv cs ns (w + c * n)
  | _, _, _ => []
theorem lv_len : ∀ {cs ns : List Int} {w : Int}, ns.length = cs.length → (lv cs ns w).length = cs.length
  | [], [], _, _ => rfl
  | c :: cs, n :: ns, w, h => congrArg (· + 1) (lv_len (cs := cs) (ns := ns) (by simpa using h))
  | [], _ :: _, _, h => by simp at h
  | _ :: _, [], _, h => by simp at h
/-- numbers that the reckoning bears -/
def Sm (ns : List Int) : Prop := ∀ n ∈ ns, n < 2 ^ 180
theorem levels_loop {step : D → DL.Env → Out} {P Q : Sl} (hs : step = stepOf (tgTup [tgName 4, tgName 5]) (sSeq (sSet 3 (eOp opAdd (eVar 3) (eOp opMul (eVar 4) (eVar 5)))) (sApp 2 (eVar 3)))) :
    ∀ (cs ns out : List Int) (w : Int) (x y : Sl), (∀ c ∈ cs, 1 ≤ c ∧ c ≤ 100000) → (∀ n ∈ ns, 0 ≤ n ∧ n < 2 ^ 180) → ns.length = cs.length → out.length + ns.length ≤ 1000 →
      ∃ z x' y', dFor step (zipD (cs.map D.int) (ns.map D.int)) [P, Q, .own (out.map D.int), .im (.int w), x, y] = .nx [P, Q, .own ((out ++ lv cs ns w).map D.int), z, x', y']
  | [], [], out, w, x, y, _, _, _, _ => ⟨.im (.int w), x, y, by rw [show lv [] [] w = [] from rfl, List.append_nil]; rfl⟩
  | [], _ :: _, _, _, _, _, _, _, h, _ => by simp at h
  | _ :: _, [], _, _, _, _, _, _, h, _ => by simp at h
  | c :: cs, n :: ns, out, w, x, y, hc, hn, hl, ho => by
    have h1 := hc c List.mem_cons_self
    have h2 := hn n List.mem_cons_self
    rw [List.length_cons, List.length_cons] at hl
    rw [List.length_cons] at ho
    have hstep : step (.tup [.int c, .int n]) [P, Q, .own (out.map D.int), .im (.int w), x, y] = .nx [P, Q, .own ((out ++ [w + c * n]).map D.int), .im (.int (w + c * n)), .im (.int c), .im (.int n)] := by
      rw [hs, x_step (ρ' := [P, Q, .own (out.map D.int), .im (.int w), .im (.int c), .im (.int n)]) (by walk_at "ev")]
      walk_at "ev"
      rw [x_appK2 (by rw [List.length_map]; omega)]
      walk_at "ev"
      rw [List.map_append]
      rfl
    obtain ⟨z, x', y', e⟩ := levels_loop hs cs ns (out ++ [w + c * n]) (w + c * n) (.im (.int c)) (.im (.int n)) (fun c' h => hc c' (List.mem_cons_of_mem _ h)) (fun n' h => hn n' (List.mem_cons_of_mem _ h)) (by omega) (by rw [List.length_append, List.length_singleton]; omega)
    refine ⟨z, x', y', ?_⟩
    show dFor step (.tup [.int c, .int n] :: zipD (cs.map D.int) (ns.map D.int)) _ = _
    rw [dFor_cons hstep, e, List.append_assoc]
    rfl
theorem levels_of_ok {cs ns : List Int} (C : Coins cs) (T : Till cs ns) (S : Sm ns) : F_levels_of [.im (.lst (cs.map D.int)), .im (.lst (ns.map D.int))] = .ok (.own ((lv cs ns 0).map D.int)) [.im (.lst (cs.map D.int)), .im (.lst (ns.map D.int))] := by
  unfold F_levels_of
  rw [x_run rfl]
  show endOf _ (g_levels_of [.im (.lst (cs.map D.int)), .im (.lst (ns.map D.int)), .no, .no, .no, .no]) = _
  unfold g_levels_of
  walk_at "ev"
  rw [x_do2 (check_till_ok C T)]
  walk_at "ev"
  obtain ⟨z, x', y', e⟩ := levels_loop (P := .im (.lst (cs.map D.int))) (Q := .im (.lst (ns.map D.int))) rfl cs ns [] 0 .no .no (fun c h => ⟨C.pos c h, C.le c h⟩) (fun n h => ⟨T.nn n h, S n h⟩) T.len (by have := C.hi; have := T.len; rw [List.length_nil]; omega)
  rw [List.map_nil, List.nil_append] at e
  rw [e]
  walk_at "ev"

/-! ### levels to tills -/
def LvB : List Int → List Int → Int → Bool
  | c :: cs, l :: ls, b => leB b l && eqB ((l - b) % c) 0 && LvB cs ls l
  | _, _, _ => true
def dv : List Int → List Int → Int → List Int
  | c :: cs, l :: ls, b => (l - b) / c :: dv cs ls l
  | _, _, _ => []
theorem dv_lv : ∀ {cs ns : List Int} {w : Int}, (∀ c ∈ cs, 1 ≤ c) → ns.length = cs.length → dv cs (lv cs ns w) w = ns
  | [], [], _, _, _ => rfl
  | c :: cs, n :: ns, w, hc, h => by
    have h1 := hc c List.mem_cons_self
    show (w + c * n - w) / c :: dv cs (lv cs ns (w + c * n)) (w + c * n) = n :: ns
    rw [dv_lv (fun c' h' => hc c' (List.mem_cons_of_mem _ h')) (by simpa using h), show w + c * n - w = c * n by omega, Int.mul_ediv_cancel_left _ (by omega)]
  | [], _ :: _, _, _, h => by simp at h
  | _ :: _, [], _, _, h => by simp at h
theorem lvB_lv : ∀ {cs ns : List Int} {w : Int}, (∀ c ∈ cs, 1 ≤ c) → (∀ n ∈ ns, 0 ≤ n) → LvB cs (lv cs ns w) w = true
  | [], _, _, _, _ => by cases ‹List Int› <;> rfl
  | c :: cs, [], w, _, _ => rfl
  | c :: cs, n :: ns, w, hc, hn => by
    have h1 := hc c List.mem_cons_self
    have h2 := hn n List.mem_cons_self
    have h3 : 0 ≤ c * n := Int.mul_nonneg (by omega) h2
    show (leB w (w + c * n) && eqB ((w + c * n - w) % c) 0 && LvB cs (lv cs ns (w + c * n)) (w + c * n)) = true
    rw [lvB_lv (fun c' h' => hc c' (List.mem_cons_of_mem _ h')) (fun n' h' => hn n' (List.mem_cons_of_mem _ h')), le_t (by omega), eq_t (by rw [show w + c * n - w = c * n by omega]; exact Int.mul_emod_right c n)]
    rfl
theorem are_levels_loop {step : D → DL.Env → Out} {P Q : Sl} (hs : step = stepOf (tgTup [tgName 3, tgName 4]) (sSeq (sIf (tOrD (tOf (eOp cLt (eVar 4) (eVar 2))) (tOf (eOp cNe (eOp opMod (eOp opSub (eVar 4) (eVar 2)) (eVar 3)) (eC (.int 0))))) (sRet (eC (.bl false))) sNext) (sSet 2 (eVar 4)))) :
    ∀ (cs ls : List Int) (b : Int) (x y : Sl), (∀ c ∈ cs, 1 ≤ c) →
      ∃ z x' y', dFor step (zipD (cs.map D.int) (ls.map D.int)) [P, Q, .im (.int b), x, y] = cond (LvB cs ls b) (.nx [P, Q, z, x', y']) (.ret (.im (.bl false)) [P, Q, z, x', y'])
  | [], ls, b, x, y, _ => ⟨.im (.int b), x, y, by cases ls <;> rfl⟩
  | _ :: _, [], b, x, y, _ => ⟨.im (.int b), x, y, rfl⟩
  | c :: cs, l :: ls, b, x, y, hc => by
    have h1 := hc c List.mem_cons_self
    have hstep : step (.tup [.int c, .int l]) [P, Q, .im (.int b), x, y] = cond (leB b l && eqB ((l - b) % c) 0) (.nx [P, Q, .im (.int l), .im (.int c), .im (.int l)]) (.ret (.im (.bl false)) [P, Q, .im (.int b), .im (.int c), .im (.int l)]) := by
      rw [hs, x_step (ρ' := [P, Q, .im (.int b), .im (.int c), .im (.int l)]) (by walk_at "ev")]
      walk_at "ev"
      by_cases h2 : l < b
      · walk_at "ev"
      · walk_at "ev"
        by_cases h3 : (l - b) % c = 0
        · walk_at "ev"
        · walk_at "ev"
    show ∃ z x' y', dFor step (.tup [.int c, .int l] :: zipD (cs.map D.int) (ls.map D.int)) _ = cond (leB b l && eqB ((l - b) % c) 0 && LvB cs ls l) _ _
    cases hb : (leB b l && eqB ((l - b) % c) 0) with
    | true =>
      rw [hb, cond_true] at hstep
      obtain ⟨z, x', y', e⟩ := are_levels_loop hs cs ls l (.im (.int c)) (.im (.int l)) (fun c' h => hc c' (List.mem_cons_of_mem _ h))
      exact ⟨z, x', y', by rw [dFor_cons hstep, e, Bool.true_and]⟩
    | false =>
      rw [hb, cond_false] at hstep
      exact ⟨_, _, _, by rw [dFor_ret hstep, Bool.false_and, cond_false]⟩
/-- what is levels, of anything -/
def levelsD (cs : List Int) (d : D) : Bool :=
  match d with
  | .lst ds =>
    match intsOf ds with
    | some ls => eachD cs (.lst ds) && LvB cs ls 0
    | none => false
  | _ => false
theorem each_ints {cs : List Int} {d : D} (h : eachD cs d = true) : ∃ ls : List Int, d = .lst (ls.map D.int) ∧ Till cs ls := by
  cases d with
  | lst ds =>
    have h' : (ds.all countD && eqB ds.length cs.length) = true := h
    rw [Bool.and_eq_true] at h'
    obtain ⟨ls, rfl, hn⟩ := counts_ints h'.1
    have h2 : ((ls.map D.int).length : Int) = cs.length := of_decide_eq_true h'.2
    rw [List.length_map] at h2
    exact ⟨ls, rfl, by omega, hn⟩
  | _ => exact Bool.noConfusion h
theorem are_levels_ok {cs : List Int} {d : D} (C : Coins cs) (h : plain2 d = true) : F_are_levels [.im (.lst (cs.map D.int)), .im d] = .ok (.im (.bl (levelsD cs d))) [.im (.lst (cs.map D.int)), .im d] := by
  unfold F_are_levels
  rw [x_run rfl]
  show endOf _ (g_are_levels [.im (.lst (cs.map D.int)), .im d, .no, .no, .no]) = _
  unfold g_are_levels
  walk_at "ev"
  rw [x_do1 (check_coins_ok C)]
  walk_at "ev"
  rw [x_do2 (are_for_each_ok h)]
  walk_at "ev"
  cases he : eachD cs d with
  | false =>
    walk_at "ev"
    have : levelsD cs d = false := by
      cases d with
      | lst ds =>
        show (match intsOf ds with | some ls => eachD cs (.lst ds) && LvB cs ls 0 | none => false) = false
        rw [he]
        cases intsOf ds <;> rfl
      | _ => rfl
    rw [this]
  | true =>
    obtain ⟨ls, rfl, T⟩ := each_ints he
    walk_at "ev"
    obtain ⟨z, x', y', e⟩ := are_levels_loop (P := .im (.lst (cs.map D.int))) (Q := .im (.lst (ls.map D.int))) rfl cs ls 0 .no .no C.pos
    rw [e]
    have : levelsD cs (.lst (ls.map D.int)) = LvB cs ls 0 := by
      show (match intsOf (ls.map D.int) with | some ls' => eachD cs (.lst (ls.map D.int)) && LvB cs ls' 0 | none => false) = _
      rw [intsOf_map, he]
      rfl
    rw [this]
    cases LvB cs ls 0 <;> walk_at "ev"
/-- levels of some till -/
structure Levels (cs ls : List Int) : Prop where
  len : ls.length = cs.length
  nn : ∀ n ∈ ls, 0 ≤ n
  ok : LvB cs ls 0 = true
theorem Levels.d {cs ls : List Int} (L : Levels cs ls) : levelsD cs (.lst (ls.map D.int)) = true := by
  show (match intsOf (ls.map D.int) with | some ls' => eachD cs (.lst (ls.map D.int)) && LvB cs ls' 0 | none => false) = _
  rw [intsOf_map]
  show (eachD cs (.lst (ls.map D.int)) && LvB cs ls 0) = true
  rw [Till.each ⟨L.len, L.nn⟩, L.ok]
  rfl
theorem check_levels_ok {cs ls : List Int} (C : Coins cs) (L : Levels cs ls) : F_check_levels [.im (.lst (cs.map D.int)), .im (.lst (ls.map D.int))] = .ok (.im .non) [.im (.lst (cs.map D.int)), .im (.lst (ls.map D.int))] := by
  unfold F_check_levels
  rw [x_run rfl]
  show endOf _ (g_check_levels [.im (.lst (cs.map D.int)), .im (.lst (ls.map D.int))]) = _
  unfold g_check_levels
  walk_at "ev"
  rw [x_do2 (are_levels_ok C (plain2_ints ls)), L.d]
  walk_at "ev"
theorem till_loop {step : D → DL.Env → Out} {P Q : Sl} (hs : step = stepOf (tgTup [tgName 4, tgName 5]) (sSeq (sApp 2 (eOp opDiv (eOp opSub (eVar 5) (eVar 3)) (eVar 4))) (sSet 3 (eVar 5)))) :
    ∀ (cs ls out : List Int) (b : Int) (x y : Sl), (∀ c ∈ cs, 1 ≤ c ∧ c ≤ 100000) → ls.length = cs.length → out.length + ls.length ≤ 1000 →
      ∃ z x' y', dFor step (zipD (cs.map D.int) (ls.map D.int)) [P, Q, .own (out.map D.int), .im (.int b), x, y] = .nx [P, Q, .own ((out ++ dv cs ls b).map D.int), z, x', y']
  | [], [], out, b, x, y, _, _, _ => ⟨.im (.int b), x, y, by rw [show dv [] [] b = [] from rfl, List.append_nil]; rfl⟩
  | [], _ :: _, _, _, _, _, _, h, _ => by simp at h
  | _ :: _, [], _, _, _, _, _, h, _ => by simp at h
  | c :: cs, l :: ls, out, b, x, y, hc, hl, ho => by
    have h1 := hc c List.mem_cons_self
    rw [List.length_cons, List.length_cons] at hl
    rw [List.length_cons] at ho
    have hstep : step (.tup [.int c, .int l]) [P, Q, .own (out.map D.int), .im (.int b), x, y] = .nx [P, Q, .own ((out ++ [(l - b) / c]).map D.int), .im (.int l), .im (.int c), .im (.int l)] := by
      rw [hs, x_step (ρ' := [P, Q, .own (out.map D.int), .im (.int b), .im (.int c), .im (.int l)]) (by walk_at "ev")]
      walk_at "ev"
      rw [x_appK2 (by rw [List.length_map]; omega)]
      walk_at "ev"
      rw [List.map_append]
      rfl
    obtain ⟨z, x', y', e⟩ := till_loop hs cs ls (out ++ [(l - b) / c]) l (.im (.int c)) (.im (.int l)) (fun c' h => hc c' (List.mem_cons_of_mem _ h)) (by omega) (by rw [List.length_append, List.length_singleton]; omega)
    refine ⟨z, x', y', ?_⟩
    show dFor step (.tup [.int c, .int l] :: zipD (cs.map D.int) (ls.map D.int)) _ = _
    rw [dFor_cons hstep, e, List.append_assoc]
    rfl
theorem till_of_ok {cs ls : List Int} (C : Coins cs) (L : Levels cs ls) : F_till_of [.im (.lst (cs.map D.int)), .im (.lst (ls.map D.int))] = .ok (.own ((dv cs ls 0).map D.int)) [.im (.lst (cs.map D.int)), .im (.lst (ls.map D.int))] := by
  unfold F_till_of
  rw [x_run rfl]
  show endOf _ (g_till_of [.im (.lst (cs.map D.int)), .im (.lst (ls.map D.int)), .no, .no, .no, .no]) = _
  unfold g_till_of
  walk_at "ev"
  rw [x_do2 (check_levels_ok C L)]
  walk_at "ev"
  obtain ⟨z, x', y', e⟩ := till_loop (P := .im (.lst (cs.map D.int))) (Q := .im (.lst (ls.map D.int))) rfl cs ls [] 0 .no .no (fun c h => ⟨C.pos c h, C.le c h⟩) L.len (by have := C.hi; have := L.len; rw [List.length_nil]; omega)
  rw [List.map_nil, List.nil_append] at e
  rw [e]
  walk_at "ev"
theorem lv_nn : ∀ {cs ns : List Int} {w : Int}, (∀ c ∈ cs, 1 ≤ c) → (∀ n ∈ ns, 0 ≤ n) → 0 ≤ w → ∀ l ∈ lv cs ns w, 0 ≤ l
  | [], _, _, _, _, _, l, h => by
    cases ‹List Int› <;> exact absurd h (by intro z; cases z)
  | c :: cs, [], w, _, _, _, l, h => by cases h
  | c :: cs, n :: ns, w, hc, hn, hw, l, h => by
    have h1 := hc c List.mem_cons_self
    have h2 := hn n List.mem_cons_self
    have h3 : 0 ≤ c * n := Int.mul_nonneg (by omega) h2
    have h4 : l ∈ (w + c * n) :: lv cs ns (w + c * n) := h
    rcases List.mem_cons.mp h4 with rfl | h4
    · omega
    · exact lv_nn (fun c' h' => hc c' (List.mem_cons_of_mem _ h')) (fun n' h' => hn n' (List.mem_cons_of_mem _ h')) (by omega) l h4
theorem levels_lv {cs ns : List Int} (C : Coins cs) (T : Till cs ns) : Levels cs (lv cs ns 0) := ⟨lv_len T.len, lv_nn C.pos T.nn (Int.le_refl 0), lvB_lv C.pos T.nn⟩

/-! ### the drawing of a till, a sack -/
theorem few_at {a b c r : Int} (h1 : 0 ≤ r) (h2 : r < 3) (ha : 1 ≤ a) (hb : 1 ≤ b) (hc : 1 ≤ c) (ha2 : a ≤ 1000000000000001) (hb2 : b ≤ 1000000000000001) (hc2 : c ≤ 1000000000000001) :
    ∃ m : Int, atI [D.int a, D.int b, D.int c] r = some (.int m) ∧ 1 ≤ m ∧ m ≤ 1000000000000001 := by
  have h : r = 0 ∨ r = 1 ∨ r = 2 := by omega
  rcases h with rfl | rfl | rfl
  · exact ⟨a, ix0, ha, ha2⟩
  · exact ⟨b, ix1, hb, hb2⟩
  · exact ⟨c, ix2, hc, hc2⟩
theorem lot_ok {n a b c : Int} {cs : List Int} (S : Sk n a b c) (hn : n < 100000000) (C : cs.length ≤ 1000) :
    ∃ ns a' c', F__law_lot [.own (skL a b c), .im (.lst (cs.map D.int))] = .ok (.own (ns.map D.int)) [.own (skL a' b c'), .im (.lst (cs.map D.int))] ∧ Till cs ns ∧ (∀ x ∈ ns, x < 1000000000000001) ∧ Sk (n + 1 + 2 * cs.length) a' b c' := by
  unfold F__law_lot
  rw [x_run rfl]
  show ∃ ns a' c', endOf _ (g__law_lot [.own (skL a b c), .im (.lst (cs.map D.int)), .no, .no]) = _ ∧ _
  unfold g__law_lot
  obtain ⟨r, a1, c1, e, h1, h2, S1⟩ := fetch_sk (m := 4) S (by omega) (by omega) (by omega)
  walk_at "ev"
  rw [x_doSI rfl e]
  walk_at "ev"
  obtain ⟨f1, f2, f3, ef, q1, q2, q3, q4, q5, q6⟩ : ∃ f1 f2 f3 : Int, atI [D.lst [D.int 3, D.int 3, D.int 3], D.lst [D.int 2, D.int 6, D.int 12], D.lst [D.int 1, D.int 3, D.int 1000000000000001], D.lst [D.int 20, D.int 2, D.int 1000]] r = some (.lst [.int f1, .int f2, .int f3]) ∧
      1 ≤ f1 ∧ 1 ≤ f2 ∧ 1 ≤ f3 ∧ f1 ≤ 1000000000000001 ∧ f2 ≤ 1000000000000001 ∧ f3 ≤ 1000000000000001 := by
    have hr : r = 0 ∨ r = 1 ∨ r = 2 ∨ r = 3 := by omega
    rcases hr with rfl | rfl | rfl | rfl
    · exact ⟨3, 3, 3, ix0, by omega, by omega, by omega, by omega, by omega, by omega⟩
    · exact ⟨2, 6, 12, ix1, by omega, by omega, by omega, by omega, by omega, by omega⟩
    · exact ⟨1, 3, 1000000000000001, ix2, by omega, by omega, by omega, by omega, by omega, by omega⟩
    · exact ⟨20, 2, 1000, ix3, by omega, by omega, by omega, by omega, by omega, by omega⟩
  rw [ef]
  walk_at "ev"
  rw [x_iList]
  walk_at "ev"
  generalize hfe : eCall0 2 F__law_fetch _ = fe
  obtain ⟨acc, ρ', e2, ns, a2, c2, rfl, rfl, hlen, hb, S2⟩ := dComp_run (vs := [3]) (tg := tgName 3) (ft := tYesD) (fe := fe) (items := cs.map D.int)
    (fun i acc ρ => ∃ (ns : List Int) (a2 c2 : Int), ρ = [.own (skL a2 b c2), .im (.lst (cs.map D.int)), .im (.lst [.int f1, .int f2, .int f3]), .no] ∧ acc = ns.map D.int ∧ ns.length = i ∧ (∀ x ∈ ns, 0 ≤ x ∧ x < 1000000000000001) ∧ Sk (n + 1 + 2 * i) a2 b c2)
    (ρ := [.own (skL a1 b c1), .im (.lst (cs.map D.int)), .im (.lst [.int f1, .int f2, .int f3]), .no]) (by rw [List.length_map]; omega) ⟨[], a1, c1, rfl, rfl, rfl, by simp, by simpa using S1⟩ (by
      rintro i d acc ρ hi ⟨ns, a2, c2, rfl, rfl, hlen, hb, S2⟩
      have hil : i < cs.length := by
        have := (List.getElem?_eq_some_iff.mp hi).1
        rwa [List.length_map] at this
      obtain ⟨r1, a3, c3, e3, k1, k2, S3⟩ := fetch_sk (m := 3) S2 (by omega) (by omega) (by omega)
      obtain ⟨m, em, m1, m2⟩ := few_at k1 k2 q1 q2 q3 q4 q5 q6
      obtain ⟨r2, a4, c4, e4, k3, k4, S4⟩ := fetch_sk (m := m) S3 (by omega) m1 (by omega)
      refine ⟨_, x_tgName, .inl ⟨.im (.int r2), [.own (skL a2 b c2), .im (.lst (cs.map D.int)), .im (.lst [.int f1, .int f2, .int f3]), .im d], [.own (skL a4 b c4), .im (.lst (cs.map D.int)), .im (.lst [.int f1, .int f2, .int f3]), .im d], rfl, ?_, ns ++ [r2], a4, c4, rfl, by rw [List.map_append]; rfl, by rw [List.length_append, List.length_singleton, hlen], ?_, S4.mono (by omega)⟩⟩
      · subst hfe
        walk_at "ev"
        rw [x_doSI rfl e3]
        walk_at "ev"
        rw [em]
        walk_at "ev"
        rw [x_doSI rfl e4]
        walk_at "ev"
      · intro x hx
        rcases List.mem_append.mp hx with hx | hx
        · exact hb x hx
        · rw [List.mem_singleton] at hx
          omega)
  rw [e2]
  walk_at "ev"
  rw [List.length_map] at hlen S2
  exact ⟨ns, a2, c2, rfl, ⟨hlen, fun x h => (hb x h).1⟩, fun x h => (hb x h).2, S2⟩
theorem sack_ok {ns : List Int} {k : Nat} (hk : k ≤ 100) : ∃ a b, F__law_sack [.im (.scr ns), .im (.int k)] = .ok (.own (skL a b 0)) [.im (.scr ns), .im (.int k)] ∧ Sk 0 a b 0 := by
  unfold F__law_sack
  rw [x_run rfl]
  show ∃ a b, endOf _ (g__law_sack [.im (.scr ns), .im (.int k), .no]) = _ ∧ _
  unfold g__law_sack
  obtain ⟨cell, hcell⟩ : ∃ cell : Int, (eIf (tOf (eOp cLt (eVar 1) (eCB bLen (aCons (eVar 0) aNil)))) (eOp ixD (eVar 0) (eVar 1)) (eC (.int 0))) [.im (.scr ns), .im (.int k), .no] = .ok (.im (.int cell)) [.im (.scr ns), .im (.int k), .no] := by
    by_cases h : (k : Int) < ns.length
    · refine ⟨ns[k]'(by omega), ?_⟩
      walk_at "ev"
      rw [atI_at (by omega) (by omega), Int.toNat_natCast, List.getElem?_eq_getElem (by omega)]
      rfl
    · refine ⟨0, ?_⟩
      walk_at "ev"
  rw [x_sSeq, x_set, hcell]
  have hm1 := Int.emod_nonneg cell (b := 10000000000000000000000000000000000000121) (by omega)
  have hm2 := Int.emod_lt_of_pos cell (b := 10000000000000000000000000000000000000121) (by omega)
  walk_at "ev"
  refine ⟨_, _, rfl, ?_, by omega, by omega, by omega, by omega⟩
  split <;> omega

/-! ### k06: exchanged, wider -/
theorem set_split {xs : List Int} {k : Nat} {v : Int} (h : k < xs.length) : xs.take k ++ [v] ++ xs.drop (k + 1) = xs.set k v := by
  rw [List.set_eq_take_append_cons_drop, if_pos h, List.append_assoc]
  rfl
theorem map_take {xs : List Int} {k : Nat} : (xs.map D.int).take k = (xs.take k).map D.int := by rw [List.map_take]
theorem map_drop {xs : List Int} {k : Nat} : (xs.map D.int).drop k = (xs.drop k).map D.int := by rw [List.map_drop]
theorem map_one {v : Int} : [D.int v] = [v].map D.int := (rfl)
theorem cat_ints {xs ys : List Int} (h : xs.length + ys.length ≤ 100000) : opAdd (.lst (xs.map D.int)) (.lst (ys.map D.int)) = some (.own ((xs ++ ys).map D.int)) := by
  rw [x_cat (by rw [List.length_map, List.length_map]; exact h), List.map_append]
theorem lv_exch : ∀ {k : Nat} {cs ns : List Int} {w a b x y q h : Int}, cs[k]? = some a → cs[k + 1]? = some b → ns[k]? = some x → ns[k + 1]? = some y → a * q = b → (lv cs ns w)[k]? = some h →
    lv cs ((ns.set k (x - q)).set (k + 1) (y + 1)) w = (lv cs ns w).set k (h - b)
  | 0, c :: d :: cs, m :: n :: ns, w, a, b, x, y, q, h, h1, h2, h3, h4, hq, h5 => by
    cases h1
    cases h2
    cases h3
    cases h4
    cases h5
    show (w + c * (m - q)) :: (w + c * (m - q) + d * (n + 1)) :: lv cs ns (w + c * (m - q) + d * (n + 1)) = (w + c * m - d) :: (w + c * m + d * n) :: lv cs ns (w + c * m + d * n)
    have e1 : w + c * (m - q) = w + c * m - d := by
      rw [Int.mul_sub]
      omega
    have e2 : w + c * (m - q) + d * (n + 1) = w + c * m + d * n := by
      rw [e1, Int.mul_add]
      omega
    rw [e2, e1]
  | k + 1, c :: cs, m :: ns, w, a, b, x, y, q, h, h1, h2, h3, h4, hq, h5 => by
    show (w + c * m) :: lv cs ((ns.set k (x - q)).set (k + 1) (y + 1)) (w + c * m) = (w + c * m) :: (lv cs ns (w + c * m)).set k (h - b)
    rw [lv_exch (k := k) (cs := cs) (ns := ns) h1 h2 h3 h4 hq h5]
  | 0, [], _, _, _, _, _, _, _, _, h1, _, _, _, _, _ => by simp at h1
  | 0, [_], _, _, _, _, _, _, _, _, _, h1, _, _, _, _ => by simp at h1
  | 0, _ :: _ :: _, [], _, _, _, _, _, _, _, _, _, h1, _, _, _ => by simp at h1
  | 0, _ :: _ :: _, [_], _, _, _, _, _, _, _, _, _, _, h1, _, _ => by simp at h1
  | _ + 1, [], _, _, _, _, _, _, _, _, h1, _, _, _, _, _ => by simp at h1
  | _ + 1, _ :: _, [], _, _, _, _, _, _, _, _, _, h1, _, _, _ => by simp at h1
theorem chain_at : ∀ {k : Nat} {cs : List Int} {a b : Int}, Chain cs → cs[k]? = some a → cs[k + 1]? = some b → a < b ∧ b % a = 0
  | 0, c :: d :: r, a, b, h, h1, h2 => by
    cases h1
    cases h2
    exact ⟨h.1, h.2.1⟩
  | k + 1, c :: d :: r, a, b, h, h1, h2 => chain_at (k := k) (cs := d :: r) h.2.2 h1 h2
  | _, [], _, _, _, h1, _ => by simp at h1
  | 0, [_], _, _, _, _, h2 => by simp at h2
  | _ + 1, [_], _, _, _, h1, _ => by simp at h1
theorem exchanged_ok {cs ns : List Int} {k : Nat} {a b x y : Int} (ha : cs[k]? = some a) (hb : cs[k + 1]? = some b) (hx : ns[k]? = some x) (hy : ns[k + 1]? = some y) (ha1 : 1 ≤ a) (ha2 : a ≤ 100000) :
    F__law_exchanged [.im (.lst (cs.map D.int)), .im (.lst (ns.map D.int)), .im (.int k)] = .ok (.own (((ns.set k (x - b / a)).set (k + 1) (y + 1)).map D.int)) [.im (.lst (cs.map D.int)), .im (.lst (ns.map D.int)), .im (.int k)] := by
  unfold F__law_exchanged
  rw [x_run rfl]
  show endOf _ (g__law_exchanged [.im (.lst (cs.map D.int)), .im (.lst (ns.map D.int)), .im (.int k), .no]) = _
  unfold g__law_exchanged
  have ek : (k : Int) + 1 = ((k + 1 : Nat) : Int) := by omega
  have hl : k + 1 < ns.length := (List.getElem?_eq_some_iff.mp hy).1
  have hy2 : (ns.set k (x - b / a))[k + 1]? = some y := by
    rw [List.getElem?_set_ne (by omega)]
    exact hy
  walk_at "ev"
  rw [atI_int hx]
  walk_at "ev"
  rw [ek, atI_int hb]
  walk_at "ev"
  rw [atI_int ha]
  walk_at "ev"
  rw [← List.map_set, ek, atI_int hy2]
  walk_at "ev"
  rw [← List.map_set]
theorem exchange_ok {cs ns : List Int} {k : Nat} (C : Coins cs) (T : Till cs ns) (S : ∀ n ∈ ns, n < 2 ^ 150) (hk : k + 1 < cs.length) :
    F__law_exchange_right [.im (.lst (cs.map D.int)), .im (.lst (ns.map D.int)), .im (.int k)] = .ok (.im (.bl true)) [.im (.lst (cs.map D.int)), .im (.lst (ns.map D.int)), .im (.int k)] := by
  unfold F__law_exchange_right
  rw [x_run rfl]
  show endOf _ (g__law_exchange_right [.im (.lst (cs.map D.int)), .im (.lst (ns.map D.int)), .im (.int k), .no, .no]) = _
  unfold g__law_exchange_right
  have ek : (k : Int) + 1 = ((k + 1 : Nat) : Int) := by omega
  have hT := T.len
  obtain ⟨a, ha⟩ : ∃ a, cs[k]? = some a := ⟨_, List.getElem?_eq_getElem (by omega)⟩
  obtain ⟨b, hb⟩ : ∃ a, cs[k + 1]? = some a := ⟨_, List.getElem?_eq_getElem (by omega)⟩
  obtain ⟨x, hx⟩ : ∃ a, ns[k]? = some a := ⟨_, List.getElem?_eq_getElem (by omega)⟩
  obtain ⟨y, hy⟩ : ∃ a, ns[k + 1]? = some a := ⟨_, List.getElem?_eq_getElem (by omega)⟩
  have hll : (lv cs ns 0).length = cs.length := lv_len T.len
  obtain ⟨h, hh⟩ : ∃ a, (lv cs ns 0)[k]? = some a := ⟨_, List.getElem?_eq_getElem (by omega)⟩
  obtain ⟨hab, hdv⟩ := chain_at C.ch ha hb
  have ha1 := C.pos a (List.mem_of_getElem? ha)
  have ha2 := C.le a (List.mem_of_getElem? ha)
  have hb2 := C.le b (List.mem_of_getElem? hb)
  have hq : a * (b / a) = b := Int.mul_ediv_cancel' (Int.dvd_of_emod_eq_zero hdv)
  have hx0 := T.nn x (List.mem_of_getElem? hx)
  have hy0 := T.nn y (List.mem_of_getElem? hy)
  have hy1 := S y (List.mem_of_getElem? hy)
  have hC5 := C.hi
  walk_at "ev"
  rw [x_do2 (levels_of_ok C T (fun n h => by have := S n h; omega))]
  walk_at "ev"
  rw [atI_int hx]
  walk_at "ev"
  rw [ek, atI_int hb]
  walk_at "ev"
  rw [atI_int ha]
  walk_at "ev"
  by_cases hlt : x < b / a
  · walk_at "ev"
  · walk_at "ev"
    rw [atI_int hh]
    walk_at "ev"
    rw [ek, atI_int hb]
    walk_at "ev"
    rw [map_take, map_one, cat_ints (by rw [List.length_take, List.length_singleton]; omega)]
    walk_at "ev"
    rw [ek]
    walk_at "ev"
    rw [map_drop, cat_ints (by rw [List.length_append, List.length_take, List.length_singleton, List.length_drop]; omega), set_split (by omega)]
    walk_at "ev"
    rw [x_do3 (exchanged_ok ha hb hx hy ha1 ha2)]
    walk_at "ev"
    have hq0 : 0 ≤ b / a := Int.ediv_nonneg (by omega) (by omega)
    have T2 : Till cs ((ns.set k (x - b / a)).set (k + 1) (y + 1)) := ⟨by rw [List.length_set, List.length_set]; exact T.len, fun n hn => by
      rcases List.mem_or_eq_of_mem_set hn with hn | rfl
      · rcases List.mem_or_eq_of_mem_set hn with hn | rfl
        · exact T.nn n hn
        · omega
      · omega⟩
    have S2 : Sm ((ns.set k (x - b / a)).set (k + 1) (y + 1)) := fun n hn => by
      rcases List.mem_or_eq_of_mem_set hn with hn | rfl
      · rcases List.mem_or_eq_of_mem_set hn with hn | rfl
        · have := S n hn
          omega
        · have := S x (List.mem_of_getElem? hx)
          omega
      · omega
    rw [x_do2 (levels_of_ok C T2 S2)]
    walk_at "ev"
    rw [eqL_t (lv_exch ha hb hx hy hq hh)]

def ins (k : Nat) (v : Int) (xs : List Int) : List Int := xs.take (k + 1) ++ [v] ++ xs.drop (k + 1)
theorem ins_len {k : Nat} {v : Int} {xs : List Int} (h : k < xs.length) : (ins k v xs).length = xs.length + 1 := by
  unfold ins
  rw [List.length_append, List.length_append, List.length_take, List.length_singleton, List.length_drop]
  omega
theorem ins_mem {k : Nat} {v x : Int} {xs : List Int} (h : x ∈ ins k v xs) : x ∈ xs ∨ x = v := by
  unfold ins at h
  rcases List.mem_append.mp h with h | h
  · rcases List.mem_append.mp h with h | h
    · exact .inl (List.mem_of_mem_take h)
    · exact .inr (List.mem_singleton.mp h)
  · exact .inl (List.mem_of_mem_drop h)
theorem lv_ins : ∀ {k : Nat} {cs ns : List Int} {w h g : Int}, k < cs.length → ns.length = cs.length → (lv cs ns w)[k]? = some h → lv (ins k g cs) (ins k 0 ns) w = ins k h (lv cs ns w)
  | 0, c :: cs, m :: ns, w, h, g, _, _, h5 => by
    cases h5
    show (w + c * m) :: (w + c * m + g * 0) :: lv cs ns (w + c * m + g * 0) = (w + c * m) :: (w + c * m) :: lv cs ns (w + c * m)
    rw [Int.mul_zero, Int.add_zero]
  | k + 1, c :: cs, m :: ns, w, h, g, h1, h2, h5 => by
    show (w + c * m) :: lv (ins k g cs) (ins k 0 ns) (w + c * m) = (w + c * m) :: ins k h (lv cs ns (w + c * m))
    rw [lv_ins (k := k) (cs := cs) (ns := ns) (g := g) (by simpa using h1) (by simpa using h2) h5]
  | _, [], _, _, _, _, h1, _, _ => by simp at h1
  | _, _ :: _, [], _, _, _, _, h1, _ => by simp at h1
theorem chain_ins : ∀ {k : Nat} {cs : List Int} {a b m : Int}, Chain cs → cs[k]? = some a → cs[k + 1]? = some b → a < m → m < b → m % a = 0 → b % m = 0 → Chain (ins k m cs)
  | 0, c :: d :: r, a, b, m, h, h1, h2, h3, h4, h5, h6 => by
    cases h1
    cases h2
    exact ⟨h3, h5, h4, h6, h.2.2⟩
  | 1, c :: d :: e :: r, a, b, m, h, h1, h2, h3, h4, h5, h6 => by
    cases h1
    cases h2
    exact ⟨h.1, h.2.1, h3, h5, h4, h6, h.2.2.2.2⟩
  | k + 2, c :: d :: r, a, b, m, h, h1, h2, h3, h4, h5, h6 => ⟨h.1, h.2.1, chain_ins (k := k + 1) (cs := d :: r) h.2.2 h1 h2 h3 h4 h5 h6⟩
  | _, [], _, _, _, _, h1, _, _, _, _, _ => by simp at h1
  | 0, [_], _, _, _, _, _, h2, _, _, _, _ => by simp at h2
  | _ + 1, [_], _, _, _, _, h1, _, _, _, _, _ => by simp at h1
  | 1, [_, _], _, _, _, _, _, h2, _, _, _, _ => by simp at h2
theorem wider_ok {cs ns : List Int} {k : Nat} (C : Coins cs) (T : Till cs ns) (S : ∀ n ∈ ns, n < 2 ^ 150) (hk : k + 1 < cs.length) :
    F__law_wider_right [.im (.lst (cs.map D.int)), .im (.lst (ns.map D.int)), .im (.int k)] = .ok (.im (.bl true)) [.im (.lst (cs.map D.int)), .im (.lst (ns.map D.int)), .im (.int k)] := by
  unfold F__law_wider_right
  rw [x_run rfl]
  show endOf _ (g__law_wider_right [.im (.lst (cs.map D.int)), .im (.lst (ns.map D.int)), .im (.int k), .no, .no, .no, .no, .no, .no]) = _
  unfold g__law_wider_right
  have ek : (k : Int) + 1 = ((k + 1 : Nat) : Int) := by omega
  have hT := T.len
  obtain ⟨a, ha⟩ : ∃ a, cs[k]? = some a := ⟨_, List.getElem?_eq_getElem (by omega)⟩
  obtain ⟨b, hb⟩ : ∃ a, cs[k + 1]? = some a := ⟨_, List.getElem?_eq_getElem (by omega)⟩
  have hll : (lv cs ns 0).length = cs.length := lv_len T.len
  obtain ⟨h, hh⟩ : ∃ a, (lv cs ns 0)[k]? = some a := ⟨_, List.getElem?_eq_getElem (by omega)⟩
  obtain ⟨hab, hdv⟩ := chain_at C.ch ha hb
  have ha1 := C.pos a (List.mem_of_getElem? ha)
  have ha2 := C.le a (List.mem_of_getElem? ha)
  have hb2 := C.le b (List.mem_of_getElem? hb)
  have hq : a * (b / a) = b := Int.mul_ediv_cancel' (Int.dvd_of_emod_eq_zero hdv)
  have hC5 := C.hi
  walk_at "ev"
  rw [ek, atI_int hb]
  walk_at "ev"
  rw [atI_int ha]
  walk_at "ev"
  rw [x_iList]
  walk_at "ev"
  generalize hft : tAndD _ _ = ft
  have hw : dComp [5] (tgName 5) ft (eVar 5) [] [D.int 2, D.int 3, D.int 5, D.int 7] [.im (.lst (cs.map D.int)), .im (.lst (ns.map D.int)), .im (.int k), .im (.int (b / a)), .no, .no, .no, .no, .no] =
      .ok (((([2, 3, 5, 7] : List Int).filter fun f => eqB (b / a % f) 0 && ltB f (b / a)).map D.int)) [.im (.lst (cs.map D.int)), .im (.lst (ns.map D.int)), .im (.int k), .im (.int (b / a)), .no, .no, .no, .no, .no] := by
    refine dComp_filter [2, 3, 5, 7] (fun f => eqB (b / a % f) 0 && ltB f (b / a)) D.int (by decide) fun f hf => ?_
    have hf1 : 0 < f := by
      simp at hf
      omega
    refine ⟨_, [.im (.lst (cs.map D.int)), .im (.lst (ns.map D.int)), .im (.int k), .im (.int (b / a)), .no, .im (.int f), .no, .no, .no], x_tgName, ?_, fun _ => rfl, fun _ => ⟨[.im (.lst (cs.map D.int)), .im (.lst (ns.map D.int)), .im (.int k), .im (.int (b / a)), .no, .im (.int f), .no, .no, .no], rfl, rfl⟩⟩
    subst hft
    walk_at "ev"
    cases eqB (b / a % f) 0 <;> walk_at "ev"
  rw [hw]
  walk_at "ev"
  cases hws : (([2, 3, 5, 7] : List Int).filter fun f => eqB (b / a % f) 0 && ltB f (b / a)) with
  | nil =>
    rw [eqL_t rfl]
    walk_at "ev"
  | cons f rest =>
    have hfm : f ∈ ([2, 3, 5, 7] : List Int).filter fun f => eqB (b / a % f) 0 && ltB f (b / a) := by
      rw [hws]
      exact List.mem_cons_self
    rw [List.mem_filter, Bool.and_eq_true] at hfm
    obtain ⟨hf0, hf1, hf2⟩ := hfm
    have hf1 : b / a % f = 0 := of_decide_eq_true hf1
    have hf2 : f < b / a := of_decide_eq_true hf2
    have hfr : 2 ≤ f ∧ f ≤ 7 := by
      simp at hf0
      omega
    rw [eqL_f (by intro z; cases z), List.map_cons]
    walk_at "ev"
    by_cases h4 : 4 < (cs.length : Int)
    · walk_at "ev"
    · walk_at "ev"
      rw [ek]
      walk_at "ev"
      rw [atI_int ha]
      walk_at "ev"
      have hm1 : a < a * f := by
        have : a * 2 ≤ a * f := Int.mul_le_mul_of_nonneg_left hfr.1 (by omega)
        omega
      have hm2 : a * f < b := by
        have : a * (f + 1) ≤ a * (b / a) := Int.mul_le_mul_of_nonneg_left (by omega) (by omega)
        rw [Int.mul_add] at this
        omega
      have hm3 : b % (a * f) = 0 := by
        have h1 : f * (b / a / f) = b / a := Int.mul_ediv_cancel' (Int.dvd_of_emod_eq_zero hf1)
        rw [← hq]
        rw [← h1, ← Int.mul_assoc]
        exact Int.mul_emod_right _ _
      have C2 : Coins (ins k (a * f) cs) := ⟨by rw [ins_len (by omega)]; omega, by rw [ins_len (by omega)]; omega, by
          unfold ins
          rw [List.append_assoc, List.getElem?_append_left (by rw [List.length_take]; omega), List.getElem?_take_of_lt (by omega)]
          exact C.one, chain_ins C.ch ha hb hm1 hm2 (Int.mul_emod_right a f) hm3, fun c hc => by
          rcases ins_mem hc with hc | rfl
          · exact C.le c hc
          · omega⟩
      have T2 : Till (ins k (a * f) cs) (ins k 0 ns) := ⟨by rw [ins_len (by omega), ins_len (by omega)]; omega, fun n hn => by
          rcases ins_mem hn with hn | rfl
          · exact T.nn n hn
          · omega⟩
      have S2 : Sm (ins k 0 ns) := fun n hn => by
          rcases ins_mem hn with hn | rfl
          · have := S n hn
            omega
          · omega
      have hcat : ∀ (xs : List Int) (v : Int), xs.length ≤ 100 → opAdd (.lst (((xs.map D.int).take (k + 1)))) (.lst [D.int v]) = some (.own ((xs.take (k + 1) ++ [v]).map D.int)) := fun xs v hx => by
        rw [map_take, map_one, cat_ints (by rw [List.length_take, List.length_singleton]; omega)]
      have hcat2 : ∀ (xs : List Int) (v : Int), xs.length ≤ 100 → opAdd (.lst ((xs.take (k + 1) ++ [v]).map D.int)) (.lst ((xs.map D.int).drop (k + 1))) = some (.own ((ins k v xs).map D.int)) := fun xs v hx => by
        rw [map_drop, cat_ints (by rw [List.length_append, List.length_take, List.length_singleton, List.length_drop]; omega)]
        rfl
      rw [hcat cs (a * f) (by omega)]
      walk_at "ev"
      rw [ek]
      walk_at "ev"
      rw [hcat2 cs (a * f) (by omega)]
      walk_at "ev"
      rw [ek]
      walk_at "ev"
      rw [hcat ns 0 (by omega)]
      walk_at "ev"
      rw [ek]
      walk_at "ev"
      rw [hcat2 ns 0 (by omega)]
      walk_at "ev"
      rw [x_do1 (are_coins_ok (plain2_ints _)), coinsD_ints, C2.b]
      walk_at "ev"
      rw [x_do2 (is_till_ok C2 (plain2_ints _)), T2.each]
      walk_at "ev"
      rw [x_do2 (levels_of_ok C T (fun n h => by have := S n h; omega))]
      walk_at "ev"
      rw [x_do2 (levels_of_ok C2 T2 S2)]
      walk_at "ev"
      rw [ek]
      walk_at "ev"
      rw [atI_int hh]
      walk_at "ev"
      rw [hcat (lv cs ns 0) h (by omega)]
      walk_at "ev"
      rw [ek]
      walk_at "ev"
      rw [hcat2 (lv cs ns 0) h (by omega)]
      walk_at "ev"
      rw [eqL_t (lv_ins (by omega) hT hh)]

def zsum (xs ys : List Int) : List Int := List.zipWith (fun a b => a + b) xs ys
theorem zsum_len {xs ys : List Int} (h : ys.length = xs.length) : (zsum xs ys).length = xs.length := by
  unfold zsum
  rw [List.length_zipWith, h, Nat.min_self]
theorem zipD_at : ∀ {xs ys : List Int} {i : Nat} {d v : D}, (zipD (xs.map D.int) (ys.map D.int))[i]? = some d → ((zsum xs ys).map D.int)[i]? = some v → ∃ x y : Int, d = .tup [.int x, .int y] ∧ v = .int (x + y)
  | x :: xs, y :: ys, 0, d, v, h1, h2 => by
    cases h1
    cases h2
    exact ⟨x, y, rfl, rfl⟩
  | x :: xs, y :: ys, i + 1, d, v, h1, h2 => zipD_at (xs := xs) (ys := ys) (i := i) h1 h2
  | [], ys, i, d, v, h1, _ => by
    have : zipD (([] : List Int).map D.int) (ys.map D.int) = [] := by cases ys <;> rfl
    rw [this] at h1
    cases h1
  | _ :: _, [], i, d, v, h1, _ => by cases h1
theorem zipD_len : ∀ {xs ys : List Int}, ys.length = xs.length → (zipD (xs.map D.int) (ys.map D.int)).length = xs.length
  | [], [], _ => rfl
  | x :: xs, y :: ys, h => by
    show (zipD (xs.map D.int) (ys.map D.int)).length + 1 = xs.length + 1
    rw [zipD_len (by simpa using h)]
  | [], _ :: _, h => by simp at h
  | _ :: _, [], h => by simp at h
theorem lv_add : ∀ {cs ns ms : List Int} {w v : Int}, ns.length = cs.length → ms.length = cs.length → lv cs (zsum ns ms) (w + v) = zsum (lv cs ns w) (lv cs ms v)
  | [], [], [], _, _, _, _ => rfl
  | c :: cs, n :: ns, m :: ms, w, v, h1, h2 => by
    show (w + v + c * (n + m)) :: lv cs (zsum ns ms) (w + v + c * (n + m)) = (w + c * n + (v + c * m)) :: zsum (lv cs ns (w + c * n)) (lv cs ms (v + c * m))
    have e : w + v + c * (n + m) = w + c * n + (v + c * m) := by
      rw [Int.mul_add]
      omega
    rw [e, lv_add (by simpa using h1) (by simpa using h2)]
  | [], _ :: _, _, _, _, h, _ => by simp at h
  | [], [], _ :: _, _, _, _, h => by simp at h
  | _ :: _, [], _, _, _, h, _ => by simp at h
  | _ :: _, _ :: _, [], _, _, _, h => by simp at h
theorem zsum_mem : ∀ {xs ys : List Int} {z : Int}, z ∈ zsum xs ys → ∃ x ∈ xs, ∃ y ∈ ys, z = x + y
  | x :: xs, y :: ys, z, h => by
    rcases List.mem_cons.mp (show z ∈ (x + y) :: zsum xs ys from h) with rfl | h
    · exact ⟨x, List.mem_cons_self, y, List.mem_cons_self, rfl⟩
    · obtain ⟨x', h1, y', h2, e⟩ := zsum_mem h
      exact ⟨x', List.mem_cons_of_mem _ h1, y', List.mem_cons_of_mem _ h2, e⟩
  | [], _, _, h => by
    have h : _ ∈ List.zipWith (fun a b : Int => a + b) [] _ := h
    rw [List.zipWith_nil_left] at h
    cases h
  | _ :: _, [], _, h => by cases h
theorem sum_comp {i j : Nat} {xs ys : List Int} {ρ : DL.Env} (hl : ys.length = xs.length) (hx : xs.length ≤ 100) {fe : DL.Env → R Rv}
    (hs : ∀ x y : Int, tgTup [tgName i, tgName j] (.tup [.int x, .int y]) (wipeE ρ [i, j]) = some (((wipeE ρ [i, j]).set i (.im (.int x))).set j (.im (.int y))) ∧
      fe (((wipeE ρ [i, j]).set i (.im (.int x))).set j (.im (.int y))) = .ok (.im (.int (x + y))) (((wipeE ρ [i, j]).set i (.im (.int x))).set j (.im (.int y))) ∧
      restore ρ [i, j] (((wipeE ρ [i, j]).set i (.im (.int x))).set j (.im (.int y))) = ρ) :
    dComp [i, j] (tgTup [tgName i, tgName j]) tYesD fe [] (zipD (xs.map D.int) (ys.map D.int)) ρ = .ok ((zsum xs ys).map D.int) ρ := by
  refine dComp_map (by rw [zipD_len hl]; omega) (by rw [zipD_len hl, List.length_map, zsum_len hl]) fun k d v h1 h2 => ?_
  obtain ⟨x, y, rfl, rfl⟩ := zipD_at h1 h2
  obtain ⟨e1, e2, e3⟩ := hs x y
  exact ⟨_, _, _, e1, e2, rfl, e3⟩
theorem eqLB_lv {cs ns ms : List Int} (hc : ∀ c ∈ cs, 1 ≤ c) (h1 : ns.length = cs.length) (h2 : ms.length = cs.length) : eqLB (lv cs ns 0) (lv cs ms 0) = eqLB ns ms := by
  by_cases h : ns = ms
  · rw [h, eqL_t rfl, eqL_t rfl]
  · rw [eqL_f h, eqL_f (fun z => h (by rw [← dv_lv hc h1 (w := 0), z, dv_lv hc h2]))]
theorem law_true (ns : List Int) (hl : ns.length ≤ 63) (hb : ∀ z ∈ ns, Builtin.Int.intBits z ≤ 1048576) : ∃ ρ, F_law [.im (.scr ns)] = .ok (.im (.bl true)) ρ := by
  unfold F_law
  rw [x_run rfl]
  show ∃ ρ, endOf _ (g_law [.im (.scr ns), .no, .no, .no, .no, .no, .no, .no, .no, .no, .no, .no, .no, .no, .no, .no]) = _
  unfold g_law
  walk_at "ev"
  generalize hn : (if (1 : Int) < (if (ns.length : Int) < 10 then (ns.length : Int) else 10) then (if (ns.length : Int) < 10 then (ns.length : Int) else 10) else 1) = n
  have hn10 : 0 ≤ n ∧ n ≤ 10 := by
    subst hn
    split <;> split <;> omega
  generalize hstep : stepOf (tgName 1) _ = step
  obtain ⟨ρ', e, s1, s2, s3, s4, s5, s6, s7, s8, s9, s12, s15, rfl⟩ := dFor_run (step := step) (items := rngD 0 n.toNat)
    (fun _ ρ => ∃ s1 s2 s3 s4 s5 s6 s7 s8 s9 s12 s15 : Sl, ρ = [.im (.scr ns), s1, s2, s3, s4, s5, s6, s7, s8, s9, .no, .no, s12, .no, .no, s15])
    (ρ := [.im (.scr ns), .no, .no, .no, .no, .no, .no, .no, .no, .no, .no, .no, .no, .no, .no, .no]) ⟨_, _, _, _, _, _, _, _, _, _, _, rfl⟩ (by
    rintro i d ρ hi ⟨s1, s2, s3, s4, s5, s6, s7, s8, s9, s12, s15, rfl⟩
    have hin : i < n.toNat := by
      have := (List.getElem?_eq_some_iff.mp hi).1
      rwa [rngD_len] at this
    rw [rngD_get hin] at hi
    cases hi
    subst hstep
    obtain ⟨a0, b, e0, S0⟩ := sack_ok (ns := ns) (k := i) (by omega)
    rw [x_step x_tgName]
    walk_at "ev"
    rw [x_do2 e0]
    walk_at "ev"
    generalize hstep : stepOf (tgName 3) _ = step
    obtain ⟨ρ', e, a1, c1, s3, s4, s5, s6, s7, s8, s9, s12, s15, rfl, S1⟩ := dFor_run (step := step) (items := rngD 0 4)
      (fun k ρ => ∃ (a c : Int) (s3 s4 s5 s6 s7 s8 s9 s12 s15 : Sl), ρ = [.im (.scr ns), .im (.int (i : Int)), .own (skL a b c), s3, s4, s5, s6, s7, s8, s9, .no, .no, s12, .no, .no, s15] ∧ Sk (100 * k) a b c)
      (ρ := [.im (.scr ns), .im (.int (i : Int)), .own (skL a0 b 0), s3, s4, s5, s6, s7, s8, s9, .no, .no, s12, .no, .no, s15]) ⟨a0, 0, _, _, _, _, _, _, _, _, _, rfl, by simpa using S0⟩ (by
      rintro k d ρ hi ⟨a, c, s3, s4, s5, s6, s7, s8, s9, s12, s15, rfl, S⟩
      have hk : k < 4 := by
        have := (List.getElem?_eq_some_iff.mp hi).1
        rwa [rngD_len] at this
      rw [rngD_get hk] at hi
      cases hi
      subst hstep
      obtain ⟨cs, a2, c2, e2, C, S2⟩ := mint_ok S (by omega)
      have hC5 := C.hi
      obtain ⟨ma, a3, c3, e3, T3, B3, S3⟩ := lot_ok (cs := cs) S2 (by omega) (by omega)
      obtain ⟨mo, a4, c4, e4, T4, B4, S4⟩ := lot_ok (cs := cs) S3 (by omega) (by omega)
      have G3 : Sm ma := fun x h => by have := B3 x h; omega
      have G4 : Sm mo := fun x h => by have := B4 x h; omega
      rw [x_step x_tgName]
      walk_at "ev"
      rw [x_doS rfl e2]
      walk_at "ev"
      rw [x_doSI rfl e3]
      walk_at "ev"
      rw [x_doSI rfl e4]
      walk_at "ev"
      rw [x_do2 (levels_of_ok C T3 G3)]
      walk_at "ev"
      rw [x_do2 (levels_of_ok C T4 G4)]
      walk_at "ev"
      rw [x_do2 (till_of_ok C (levels_lv C T3)), dv_lv C.pos T3.len]
      walk_at "ev"
      rw [eqL_t rfl]
      walk_at "ev"
      rw [x_do2 (till_of_ok C (levels_lv C T4)), dv_lv C.pos T4.len]
      walk_at "ev"
      rw [x_do2 (levels_of_ok C T4 G4)]
      walk_at "ev"
      rw [eqL_t rfl]
      walk_at "ev"
      generalize hfe : eOp opAdd (eVar 10) (eVar 11) = fe
      rw [sum_comp (by rw [T4.len, T3.len]) (by rw [T3.len]; omega) (fun x y => ⟨rfl, by subst hfe; walk_at "ev", rfl⟩)]
      walk_at "ev"
      subst hfe
      generalize hfe : eOp opAdd (eVar 13) (eVar 14) = fe
      rw [sum_comp (by rw [lv_len T4.len, lv_len T3.len]) (by rw [lv_len T3.len]; omega) (fun x y => ⟨rfl, by subst hfe; walk_at "ev", rfl⟩)]
      walk_at "ev"
      subst hfe
      have T5 : Till cs (zsum ma mo) := ⟨by rw [zsum_len (by rw [T4.len, T3.len]), T3.len], fun x h => by
        obtain ⟨p, hp, q, hq, rfl⟩ := zsum_mem h
        have := T3.nn p hp
        have := T4.nn q hq
        omega⟩
      have G5 : Sm (zsum ma mo) := fun x h => by
        obtain ⟨p, hp, q, hq, rfl⟩ := zsum_mem h
        have := B3 p hp
        have := B4 q hq
        omega
      rw [x_do2 (levels_of_ok C T5 G5)]
      walk_at "ev"
      have hadd := lv_add (w := 0) (v := 0) T3.len T4.len
      rw [Int.add_zero] at hadd
      rw [eqL_t hadd]
      walk_at "ev"
      rw [eqLB_lv C.pos T3.len T4.len]
      have hxor : (!(eqLB ma mo == eqLB ma mo)) = false := by cases eqLB ma mo <;> rfl
      rw [hxor]
      walk_at "ev"
      generalize hstep : stepOf (tgName 15) _ = step
      obtain ⟨ρ', e, s, rfl⟩ := dFor_run (step := step) (items := rngD 0 ((cs.length : Int) - 1).toNat)
        (fun _ ρ => ∃ s : Sl, ρ = [.im (.scr ns), .im (.int (i : Int)), .own (skL a4 b c4), .im (.int (k : Int)), .im (.lst (cs.map D.int)), .im (.lst (ma.map D.int)), .im (.lst (mo.map D.int)), .im (.lst ((lv cs ma 0).map D.int)), .im (.lst ((lv cs mo 0).map D.int)), .im (.lst ((zsum ma mo).map D.int)), .no, .no, .im (.lst ((zsum (lv cs ma 0) (lv cs mo 0)).map D.int)), .no, .no, s])
        (ρ := [.im (.scr ns), .im (.int (i : Int)), .own (skL a4 b c4), .im (.int (k : Int)), .im (.lst (cs.map D.int)), .im (.lst (ma.map D.int)), .im (.lst (mo.map D.int)), .im (.lst ((lv cs ma 0).map D.int)), .im (.lst ((lv cs mo 0).map D.int)), .im (.lst ((zsum ma mo).map D.int)), .no, .no, .im (.lst ((zsum (lv cs ma 0) (lv cs mo 0)).map D.int)), .no, .no, s15]) ⟨_, rfl⟩ (by
        rintro j d ρ hj ⟨s, rfl⟩
        have hjl : j < ((cs.length : Int) - 1).toNat := by
          have := (List.getElem?_eq_some_iff.mp hj).1
          rwa [rngD_len] at this
        rw [rngD_get hjl] at hj
        cases hj
        subst hstep
        rw [x_step x_tgName]
        walk_at "ev"
        rw [x_do3 (exchange_ok C T3 (fun x h => by have := B3 x h; omega) (by omega))]
        walk_at "ev"
        rw [x_do3 (wider_ok C T4 (fun x h => by have := B4 x h; omega) (by omega))]
        walk_at "ev"
        exact ⟨_, rfl, _, rfl⟩)
      rw [e]
      exact ⟨_, rfl, a4, c4, _, _, _, _, _, _, _, _, _, rfl, S4.mono (by omega)⟩)
    rw [e]
    exact ⟨_, rfl, _, _, _, _, _, _, _, _, _, _, _, rfl⟩)
  rw [e]
  walk_at "ev"
  exact ⟨_, rfl⟩

end Law
open PySem PySem.W PyProof.Rows
set_option maxHeartbeats 0 in
theorem PySem.Challenge.cw_tillpress_k06_whole_levels_and_tills_holds : PySem.Challenge.rw_tillpress_k06_whole_levels_and_tills.Holds := by
  w_on; o_law; k_head; (case hw => w_witness2)
  k_fill
  refine L2.walk_ofB (l := PySem.Challenge.rw_tillpress_k06_whole_levels_and_tills) (n := 63) (k := 9) (x := "script") (CX := fun w => L2.CX PySem.Challenge.rw_tillpress_k06_whole_levels_and_tills.prog w) (sp := fun w => DL.spD _ 1 Law.F_law) rfl (by decide) rfl ⟨rfl, by decide, by decide⟩ (fun w h Y => PySem.W.kIn_of Y) ?F (fun w H a ns hl hb _ hS => DL.law_sp hS (Law.law_true ns hl hb)) (fun w H s e s' h => DL.law_cx h)
  case F =>
    intro w mg fa h KX G hmg
    refine' Law.all_mk KX G hmg ?a0 ?l0 ?c0 ?k0 ?a1 ?l1 ?c1 ?k1 ?a2 ?l2 ?c2 ?k2 ?a3 ?l3 ?c3 ?k3 ?a4 ?l4 ?c4 ?k4 ?a5 ?l5 ?c5 ?k5 ?a6 ?l6 ?c6 ?k6 ?a7 ?l7 ?c7 ?k7 ?a8 ?l8 ?c8 ?k8 ?a9 ?l9 ?c9 ?k9 ?a10 ?l10 ?c10 ?k10 ?a11 ?l11 ?c11 ?k11 ?a12 ?l12 ?c12 ?k12 ?a13 ?l13 ?c13 ?k13 ?a14 ?l14 ?c14 ?k14 ?a15 ?l15 ?c15 ?k15 ?a16 ?l16 ?c16 ?k16 ?a17 ?l17 ?c17 ?k17 ?a18 ?l18 ?c18 ?k18 ?q0 ?q1 ?q2 ?z0 ?z1 ?z2 ?z3 ?z4 ?z5 ?z6 ?z7 ?z8
    (case a0 => k_is); (case l0 => k_is); (case c0 => k_is); (case k0 => k_is); (case a1 => k_is); (case l1 => k_is); (case c1 => k_is); (case k1 => k_is); (case a2 => k_is); (case l2 => k_is); (case c2 => k_is); (case k2 => k_is); (case a3 => k_is); (case l3 => k_is); (case c3 => k_is); (case k3 => k_is); (case a4 => k_is); (case l4 => k_is); (case c4 => k_is); (case k4 => k_is); (case a5 => k_is); (case l5 => k_is); (case c5 => k_is); (case k5 => k_is); (case a6 => k_is); (case l6 => k_is); (case c6 => k_is); (case k6 => k_is); (case a7 => k_is); (case l7 => k_is); (case c7 => k_is); (case k7 => k_is); (case a8 => k_is); (case l8 => k_is); (case c8 => k_is); (case k8 => k_is); (case a9 => k_is); (case l9 => k_is); (case c9 => k_is); (case k9 => k_is); (case a10 => k_is); (case l10 => k_is); (case c10 => k_is); (case k10 => k_is); (case a11 => k_is); (case l11 => k_is); (case c11 => k_is); (case k11 => k_is); (case a12 => k_is); (case l12 => k_is); (case c12 => k_is); (case k12 => k_is); (case a13 => k_is); (case l13 => k_is); (case c13 => k_is); (case k13 => k_is); (case a14 => k_is); (case l14 => k_is); (case c14 => k_is); (case k14 => k_is); (case a15 => k_is); (case l15 => k_is); (case c15 => k_is); (case k15 => k_is); (case a16 => k_is); (case l16 => k_is); (case c16 => k_is); (case k16 => k_is); (case a17 => k_is); (case l17 => k_is); (case c17 => k_is); (case k17 => k_is); (case a18 => k_is); (case l18 => k_is); (case c18 => k_is); (case k18 => k_is); (case q0 => k_is); (case q1 => k_is); (case q2 => k_is); (case z0 => k_is); (case z1 => k_is); (case z2 => k_is); (case z3 => k_is); (case z4 => k_is); (case z5 => k_is); (case z6 => k_is); (case z7 => k_is); (case z8 => k_is)

