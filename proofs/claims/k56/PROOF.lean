import PyProof.Rows.All
import Wide.All
import OpenK.AllK
import Wide.FinOn
import HandS.ForMost
import HandS.ForExc
import HandS.IsInst
import HandS.Wide
import HandS.TupLe
import HandS.Ends
import HandS.EndBits
import HandS.RevRange
import HandS.Rev
import HandS.Deep
import HandS.Codes
import HandS.TryOnly
import HandS.ExcInit
import HandS.ExcOwn
import HandS.WordsExc
import HandS.ExcIs
import HandS.Flt
import HandS.Conv
import HandS.Style
import PyProof.ReprRoads
import PyProof.ReprBulk
import PyProof.FitsInt
import KE.DatumOrd
import KE.KDictZip
import HandS.ExcField
import KE.KExcIs
import KE.SortData
import KE.GoesMore
import HandS.Zip
import PySem.Challenge.RW_tillpress_k56_orders_told
set_option Elab.async false
set_option linter.all false
set_option maxRecDepth 100000
set_option maxHeartbeats 4000000
/-! DL, part a: data, what a value stands for, frames, outcomes. -/
namespace DL
open PySem PySem.Spec PyProof.Rows L2

inductive D where
  | non | bl (b : Bool) | int (i : Int) | str (x : Str) | lst (xs : List D) | tup (xs : List D) | dic (kvs : List (Key × D)) | scr (ns : List Int) | ref (a : Addr) | ty (n : String) | any | exn (C : Addr) | exf (C : Addr) (n : Str) (x : D)

/-- an exception of an own class, caught and kept -/
def ExK (C : Addr) (d : Option Addr) (a : Addr) : HO := .ext fun h => ∃ (oe : Obj) (vs : Array Value), h.get? a = some oe ∧ Zc (.ref C) d oe ∧ oe.data = .fields vs

mutual
inductive Is (K : PySem.W.Frag) (B : Hp) : V → D → Prop
  | non : Is K B .non .non
  | bl (b : Bool) : Is K B (.bl b) (.bl b)
  | int (i : Int) : Is K B (.int i) (.int i)
  | str (x : Str) : Is K B (.str x) (.str x)
  | lst {a : Addr} {xs : List V} {ds : List D} : B a = some (.lst xs) → IsA K B xs ds → Is K B (.ref a) (.lst ds)
  | tup {a : Addr} {xs : List V} {ds : List D} : B a = some (.tup xs) → IsA K B xs ds → Is K B (.ref a) (.tup ds)
  | dic {a : Addr} {kvs : List (Key × V)} {ds : List (Key × D)} : B a = some (.dK kvs) → IsK K B kvs ds → Is K B (.ref a) (.dic ds)
  | scr {a : Addr} {ns : List Int} : SqL K B a (ns.map V.int) → Is K B (.ref a) (.scr ns)
  | ref (a : Addr) : Is K B (.ref a) (.ref a)
  | ty (n : String) : Is K B (.ty n) (.ty n)
  | any (a : Addr) : Is K B (.ref a) .any
  | exn {a C : Addr} {d : Option Addr} : B a = some (ExK C d a) → (d = none ∨ ∃ q fs, d = some q ∧ B q = some (.xd fs)) → Is K B (.ref a) (.exn C)
  | exf {a C q : Addr} {n : Str} {v : V} {x : D} : B a = some (ExK C (some q) a) → B q = some (.xd [(n, v)]) → Is K B v x → Is K B (.ref a) (.exf C n x)
inductive IsA (K : PySem.W.Frag) (B : Hp) : List V → List D → Prop
  | nil : IsA K B [] []
  | cons {v : V} {vs : List V} {d : D} {ds : List D} : Is K B v d → IsA K B vs ds → IsA K B (v :: vs) (d :: ds)
inductive IsK (K : PySem.W.Frag) (B : Hp) : List (Key × V) → List (Key × D) → Prop
  | nil : IsK K B [] []
  | cons {k : Key} {v : V} {vs : List (Key × V)} {d : D} {ds : List (Key × D)} : Is K B v d → IsK K B vs ds → IsK K B ((k, v) :: vs) ((k, d) :: ds)
end

theorem same_upd {H : Hp} {p : Addr} {o : HO} (h : H p = none) : Same H (upd H p o) := fun b x e => by
  rw [upd_ne (ne_of_none e h)]
  exact e
theorem same_t {K : PySem.W.Frag} {H H' : Hp} {a : Addr} {xs : List V} (e : Same H H') (h : SqT K H a xs) : SqT K H' a xs := by
  rcases h with (h | ⟨o, h⟩) | h
  · exact .inl (.inl (e _ _ h))
  · exact .inl (.inr ⟨o, e _ _ h⟩)
  · exact .inr h
mutual
theorem Is.mono {K : PySem.W.Frag} {B B' : Hp} (e : Same B B') : ∀ {v : V} {d : D}, Is K B v d → Is K B' v d
  | _, _, .non => .non
  | _, _, .bl b => .bl b
  | _, _, .int i => .int i
  | _, _, .str x => .str x
  | _, _, .lst h k => .lst (e _ _ h) (IsA.mono e k)
  | _, _, .tup h k => .tup (e _ _ h) (IsA.mono e k)
  | _, _, .dic h k => .dic (e _ _ h) (IsK.mono e k)
  | _, _, .scr h => .scr (e.seq h)
  | _, _, .ref a => .ref a
  | _, _, .ty n => .ty n
  | _, _, .any a => .any a
  | _, _, .exn h k => .exn (e _ _ h) (k.imp id fun ⟨q, fs, h1, h2⟩ => ⟨q, fs, h1, e _ _ h2⟩)
  | _, _, .exf h k i => .exf (e _ _ h) (e _ _ k) (Is.mono e i)
theorem IsA.mono {K : PySem.W.Frag} {B B' : Hp} (e : Same B B') : ∀ {v : List V} {d : List D}, IsA K B v d → IsA K B' v d
  | _, _, .nil => .nil
  | _, _, .cons h k => .cons (Is.mono e h) (IsA.mono e k)
theorem IsK.mono {K : PySem.W.Frag} {B B' : Hp} (e : Same B B') : ∀ {v : List (Key × V)} {d : List (Key × D)}, IsK K B v d → IsK K B' v d
  | _, _, .nil => .nil
  | _, _, .cons h k => .cons (Is.mono e h) (IsK.mono e k)
end
section
variable {K : PySem.W.Frag} {B B' : Hp}
theorem IsA.len : ∀ {xs : List V} {ds : List D}, IsA K B xs ds → xs.length = ds.length
  | _, _, .nil => rfl
  | _, _, .cons _ k => by rw [List.length_cons, List.length_cons, IsA.len k]
theorem IsA.get : ∀ {xs : List V} {ds : List D} {i : Nat} {d : D}, IsA K B xs ds → ds[i]? = some d → ∃ v, xs[i]? = some v ∧ Is K B v d
  | _, _, _, _, .nil, e => by simp at e
  | _, _, 0, _, .cons h k, e => by
    simp at e
    subst e
    exact ⟨_, rfl, h⟩
  | _, _, i + 1, d, .cons h k, e => by
    obtain ⟨v, h1, h2⟩ := IsA.get (i := i) (d := d) k (by simpa using e)
    exact ⟨v, by simpa using h1, h2⟩
theorem IsA.getV : ∀ {xs : List V} {ds : List D} {i : Nat} {v : V}, IsA K B xs ds → xs[i]? = some v → ∃ d, ds[i]? = some d ∧ Is K B v d
  | _, _, _, _, .nil, e => by simp at e
  | _, _, 0, _, .cons h k, e => by
    simp at e
    subst e
    exact ⟨_, rfl, h⟩
  | _, _, i + 1, d, .cons h k, e => by
    obtain ⟨v, h1, h2⟩ := IsA.getV (i := i) (v := d) k (by simpa using e)
    exact ⟨v, by simpa using h1, h2⟩
theorem IsA.app : ∀ {xs ys : List V} {ds es : List D}, IsA K B xs ds → IsA K B ys es → IsA K B (xs ++ ys) (ds ++ es)
  | _, _, _, _, .nil, k => k
  | _, _, _, _, .cons h t, k => .cons h (IsA.app t k)
theorem IsA.set : ∀ {xs : List V} {ds : List D} (i : Nat) {v : V} {d : D}, IsA K B xs ds → Is K B v d → IsA K B (xs.set i v) (ds.set i d)
  | _, _, _, _, _, .nil, _ => .nil
  | _, _, 0, _, _, .cons _ t, k => .cons k t
  | _, _, i + 1, _, _, .cons h t, k => .cons h (IsA.set i t k)
theorem IsA.take : ∀ {xs : List V} {ds : List D} (n : Nat), IsA K B xs ds → IsA K B (xs.take n) (ds.take n)
  | _, _, 0, _ => .nil
  | _, _, _ + 1, .nil => .nil
  | _, _, n + 1, .cons h t => .cons h (IsA.take n t)
theorem IsA.drop : ∀ {xs : List V} {ds : List D} (n : Nat), IsA K B xs ds → IsA K B (xs.drop n) (ds.drop n)
  | _, _, 0, k => k
  | _, _, _ + 1, .nil => .nil
  | _, _, n + 1, .cons _ t => IsA.drop n t
theorem IsA.rev : ∀ {xs : List V} {ds : List D}, IsA K B xs ds → IsA K B xs.reverse ds.reverse
  | _, _, .nil => .nil
  | _, _, .cons h t => by
    rw [List.reverse_cons, List.reverse_cons]
    exact IsA.app (IsA.rev t) (.cons h .nil)
theorem IsA.rep : ∀ (n : Nat) {xs : List V} {ds : List D}, IsA K B xs ds → IsA K B (List.replicate n xs).flatten (List.replicate n ds).flatten
  | 0, _, _, _ => .nil
  | n + 1, xs, ds, k => by
    rw [List.replicate_succ, List.replicate_succ, List.flatten_cons, List.flatten_cons]
    exact IsA.app k (IsA.rep n k)
theorem isA_ints : ∀ (ns : List Int), IsA K B (ns.map V.int) (ns.map D.int)
  | [] => .nil
  | n :: r => .cons (.int n) (isA_ints r)
theorem Is.intV {v : V} {i : Int} (h : Is K B v (.int i)) : v = .int i := by cases h; rfl
theorem Is.blV {v : V} {b : Bool} (h : Is K B v (.bl b)) : v = .bl b := by cases h; rfl
theorem Is.nonV {v : V} (h : Is K B v .non) : v = .non := by cases h; rfl
theorem Is.strV {v : V} {x : Str} (h : Is K B v (.str x)) : v = .str x := by cases h; rfl
theorem Is.lstV {v : V} {ds : List D} (h : Is K B v (.lst ds)) : ∃ a xs, v = .ref a ∧ B a = some (.lst xs) ∧ IsA K B xs ds := by
  cases h with
  | lst h k => exact ⟨_, _, rfl, h, k⟩
theorem Is.tupV {v : V} {ds : List D} (h : Is K B v (.tup ds)) : ∃ a xs, v = .ref a ∧ B a = some (.tup xs) ∧ IsA K B xs ds := by
  cases h with
  | tup h k => exact ⟨_, _, rfl, h, k⟩
theorem Is.exnV {v : V} {C : Addr} (h : Is K B v (.exn C)) : ∃ a d, v = .ref a ∧ B a = some (ExK C d a) ∧ (d = none ∨ ∃ q fs, d = some q ∧ B q = some (.xd fs)) := by
  cases h with
  | exn h k => exact ⟨_, _, rfl, h, k⟩
theorem Is.exfV {v : V} {C : Addr} {n : Str} {x : D} (h : Is K B v (.exf C n x)) : ∃ a q w, v = .ref a ∧ B a = some (ExK C (some q) a) ∧ B q = some (.xd [(n, w)]) ∧ Is K B w x := by
  cases h with
  | exf h k i => exact ⟨_, _, _, rfl, h, k, i⟩
theorem Is.exfN {v : V} {C : Addr} {n : Str} {x : D} (h : Is K B v (.exf C n x)) : Is K B v (.exn C) := by
  obtain ⟨a, q, w, rfl, h1, h2, _⟩ := h.exfV
  exact .exn h1 (.inr ⟨q, _, rfl, h2⟩)
theorem Is.scrV {v : V} {ns : List Int} (h : Is K B v (.scr ns)) : ∃ a, v = .ref a ∧ SqL K B a (ns.map V.int) := by
  cases h with
  | scr h => exact ⟨_, rfl, h⟩
end

/-! ### blocks: things of one's own with parts of one's own -/
abbrev T3 := Int × Int × Int
/-- an item of a thing of mixed items: it stays, or is a list of one's own -/
inductive Rt where
  | im (d : D) | ow (ds : List D)
def Rt.d : Rt → D
  | .im d => d
  | .ow ds => .lst ds
/-- a list (or a tuple) -/
def mkO (tp : Bool) (vs : List V) : HO := cond tp (.tup vs) (.lst vs)
theorem mkO_inj {tp : Bool} {vs us : List V} (h : some (mkO tp vs) = some (mkO tp us)) : vs = us := by
  cases tp
  · exact HO.lst.inj (Option.some.inj h)
  · exact HO.tup.inj (Option.some.inj h)
def RtIs (K : PySem.W.Frag) (B H : Hp) (w : V) : Rt → Prop
  | .im d => Is K B w d
  | .ow ds => ∃ a zs, w = .ref a ∧ H a = some (.lst zs) ∧ IsA K B zs ds
/-- a thing of one's own with parts of one's own, however deep -/
inductive Tr where
  | im (d : D) | nd (tp : Bool) (xs : List Tr)
mutual
def Tr.d : Tr → D
  | .im d => d
  | .nd true xs => .tup (trD xs)
  | .nd false xs => .lst (trD xs)
def trD : List Tr → List D
  | [] => []
  | t :: ts => t.d :: trD ts
end
inductive TFt (H : Hp) : V → Tr → Addr → Prop
  | here {a : Addr} {tp : Bool} {xs : List Tr} : TFt H (.ref a) (.nd tp xs) a
  | there {a p : Addr} {tp : Bool} {xs : List Tr} {vs : List V} {i : Nat} {x : Tr} {w : V} : H a = some (mkO tp vs) → xs[i]? = some x → vs[i]? = some w → TFt H w x p → TFt H (.ref a) (.nd tp xs) p
mutual
inductive TAt (K : PySem.W.Frag) (B H : Hp) : V → Tr → List Addr → Prop
  | im {v : V} {d : D} : Is K B v d → TAt K B H v (.im d) []
  | nd {a : Addr} {tp : Bool} {vs : List V} {xs : List Tr} {ps : List Addr} : H a = some (mkO tp vs) → TAtA K B H vs xs ps → TAt K B H (.ref a) (.nd tp xs) (a :: ps)
inductive TAtA (K : PySem.W.Frag) (B H : Hp) : List V → List Tr → List Addr → Prop
  | nil : TAtA K B H [] [] []
  | cons {v : V} {vs : List V} {t : Tr} {ts : List Tr} {ps qs : List Addr} : TAt K B H v t ps → TAtA K B H vs ts qs → TAtA K B H (v :: vs) (t :: ts) (ps ++ qs)
end
section
variable {K : PySem.W.Frag} {B B' H H' : Hp}
mutual
theorem TAt.monoB (s : Same B B') : ∀ {v : V} {t : Tr} {ps : List Addr}, TAt K B H v t ps → TAt K B' H v t ps
  | _, _, _, .im h => .im (h.mono s)
  | _, _, _, .nd h k => .nd h (TAtA.monoB s k)
theorem TAtA.monoB (s : Same B B') : ∀ {v : List V} {t : List Tr} {ps : List Addr}, TAtA K B H v t ps → TAtA K B' H v t ps
  | _, _, _, .nil => .nil
  | _, _, _, .cons h k => .cons (TAt.monoB s h) (TAtA.monoB s k)
end
mutual
theorem TAt.congr : ∀ {v : V} {t : Tr} {ps : List Addr}, (∀ p ∈ ps, H' p = H p) → TAt K B H v t ps → TAt K B H' v t ps
  | _, _, _, _, .im h => .im h
  | _, _, _, e, .nd h k => .nd ((e _ List.mem_cons_self).trans h) (TAtA.congr (fun p hp => e p (List.mem_cons_of_mem _ hp)) k)
theorem TAtA.congr : ∀ {v : List V} {t : List Tr} {ps : List Addr}, (∀ p ∈ ps, H' p = H p) → TAtA K B H v t ps → TAtA K B H' v t ps
  | _, _, _, _, .nil => .nil
  | _, _, _, e, .cons h k => .cons (TAt.congr (fun p hp => e p (List.mem_append_left _ hp)) h) (TAtA.congr (fun p hp => e p (List.mem_append_right _ hp)) k)
end
mutual
theorem TAt.live : ∀ {v : V} {t : Tr} {ps : List Addr}, TAt K B H v t ps → ∀ p ∈ ps, H p ≠ none
  | _, _, _, .im _, p, hp => by cases hp
  | _, _, _, .nd h k, p, hp => by
    rcases List.mem_cons.mp hp with e | hp
    · rw [e, h]
      exact Option.some_ne_none _
    · exact TAtA.live k p hp
theorem TAtA.live : ∀ {v : List V} {t : List Tr} {ps : List Addr}, TAtA K B H v t ps → ∀ p ∈ ps, H p ≠ none
  | _, _, _, .nil, p, hp => by cases hp
  | _, _, _, .cons h k, p, hp => by
    rcases List.mem_append.mp hp with hp | hp
    · exact TAt.live h p hp
    · exact TAtA.live k p hp
end
mutual
theorem TAt.is (s : Same B B') : ∀ {v : V} {t : Tr} {ps : List Addr}, (∀ p ∈ ps, B' p = H p) → TAt K B H v t ps → Is K B' v t.d
  | _, _, _, _, .im h => by
    rw [Tr.d]
    exact h.mono s
  | _, .nd true xs, _, e, .nd h k => by
    rw [Tr.d]
    exact .tup ((e _ List.mem_cons_self).trans h) (TAtA.is s (fun p hp => e p (List.mem_cons_of_mem _ hp)) k)
  | _, .nd false xs, _, e, .nd h k => by
    rw [Tr.d]
    exact .lst ((e _ List.mem_cons_self).trans h) (TAtA.is s (fun p hp => e p (List.mem_cons_of_mem _ hp)) k)
theorem TAtA.is (s : Same B B') : ∀ {v : List V} {t : List Tr} {ps : List Addr}, (∀ p ∈ ps, B' p = H p) → TAtA K B H v t ps → IsA K B' v (trD t)
  | _, _, _, _, .nil => by
    rw [trD]
    exact .nil
  | _, _, _, e, .cons h k => by
    rw [trD]
    exact .cons (TAt.is s (fun p hp => e p (List.mem_append_left _ hp)) h) (TAtA.is s (fun p hp => e p (List.mem_append_right _ hp)) k)
end
theorem TAtA.get : ∀ {vs : List V} {ts : List Tr} {ps : List Addr} {i : Nat} {t : Tr}, TAtA K B H vs ts ps → ts[i]? = some t → ∃ w qs, vs[i]? = some w ∧ TAt K B H w t qs ∧ ∀ p ∈ qs, p ∈ ps
  | _, _, _, _, _, .nil, e => by simp at e
  | _, _, _, 0, _, .cons h k, e => by
    simp at e
    subst e
    exact ⟨_, _, rfl, h, fun p hp => List.mem_append_left _ hp⟩
  | _, _, _, i + 1, t, .cons h k, e => by
    obtain ⟨w, qs, h1, h2, h3⟩ := TAtA.get (i := i) (t := t) k (by simpa using e)
    exact ⟨w, qs, by simpa using h1, h2, fun p hp => List.mem_append_right _ (h3 p hp)⟩
theorem TFt.mem {v : V} {t : Tr} {p : Addr} (f : TFt H v t p) : ∀ {ps : List Addr}, TAt K B H v t ps → p ∈ ps := by
  induction f with
  | here => intro ps h; cases h; exact List.mem_cons_self
  | there e1 e2 e3 _ ih =>
    intro ps h
    cases h with
    | nd h k =>
      rw [e1] at h
      cases mkO_inj h
      obtain ⟨w, qs, g1, g2, g3⟩ := TAtA.get k e2
      rw [e3] at g1
      cases g1
      exact List.mem_cons_of_mem _ (g3 _ (ih g2))
mutual
theorem TAt.ft : ∀ {v : V} {t : Tr} {ps : List Addr}, TAt K B H v t ps → ∀ p ∈ ps, TFt H v t p
  | _, _, _, .im _, p, hp => by cases hp
  | _, _, _, .nd h k, p, hp => by
    rcases List.mem_cons.mp hp with e | hp
    · rw [e]
      exact .here
    · obtain ⟨i, x, w, e1, e2, f⟩ := TAtA.ft k p hp
      exact .there h e1 e2 f
theorem TAtA.ft : ∀ {vs : List V} {ts : List Tr} {ps : List Addr}, TAtA K B H vs ts ps → ∀ p ∈ ps, ∃ (i : Nat) (x : Tr) (w : V), ts[i]? = some x ∧ vs[i]? = some w ∧ TFt H w x p
  | _, _, _, .nil, p, hp => by cases hp
  | _, _, _, .cons h k, p, hp => by
    rcases List.mem_append.mp hp with hp | hp
    · exact ⟨0, _, _, rfl, rfl, TAt.ft h p hp⟩
    · obtain ⟨i, x, w, e1, e2, f⟩ := TAtA.ft k p hp
      exact ⟨i + 1, x, w, by simpa using e1, by simpa using e2, f⟩
end
theorem TFt.to {v : V} {t : Tr} {p : Addr} (f : TFt H v t p) : (∀ q, TFt H v t q → H' q = H q) → TFt H' v t p := by
  induction f with
  | here => intro _; exact .here
  | there e1 e2 e3 _ ih => intro h; exact .there ((h _ .here).trans e1) e2 e3 (ih fun q g => h q (.there e1 e2 e3 g))
theorem TFt.back {v : V} {t : Tr} {p : Addr} (f : TFt H' v t p) : (∀ q, TFt H v t q → H' q = H q) → TFt H v t p := by
  induction f with
  | here => intro _; exact .here
  | there e1 e2 e3 _ ih =>
    intro h
    have e1' := (h _ .here).symm.trans e1
    exact .there e1' e2 e3 (ih fun q g => h q (.there e1' e2 e3 g))
end
inductive Bd where
  | deck (ps : List T3) (n : Int) | pile (ps : List T3) | mix (tp : Bool) (xs : List Rt) | tree (tp : Bool) (xs : List Tr)
def Bd.d : Bd → D
  | .mix true xs => .tup (xs.map Rt.d)
  | .mix false xs => .lst (xs.map Rt.d)
  | .tree tp xs => (Tr.nd tp xs).d
  | _ => .any
def At3 (H : Hp) (p : Addr) (x : T3) : Prop := H p = some (.lst [.int x.1, .int x.2.1, .int x.2.2])
theorem trd_t {xs : List Tr} : (Bd.tree true xs).d = .tup (trD xs) := by
  show (Tr.nd true xs).d = _
  rw [Tr.d]
theorem trd_f {xs : List Tr} : (Bd.tree false xs).d = .lst (trD xs) := by
  show (Tr.nd false xs).d = _
  rw [Tr.d]
/-- whose addresses are a block's -/
def Bd.Ft : Bd → Hp → V → Addr → Prop
  | .deck _ _, H, v, p => ∃ a, v = .ref a ∧ (p = a ∨ ∃ b r, H a = some (.lst (.ref b :: r)) ∧ (p = b ∨ ∃ ts, H b = some (.lst ts) ∧ V.ref p ∈ ts))
  | .pile _, H, v, p => ∃ b, v = .ref b ∧ (p = b ∨ ∃ ts, H b = some (.lst ts) ∧ V.ref p ∈ ts)
  | .mix tp xs, H, v, p => ∃ b, v = .ref b ∧ (p = b ∨ ∃ vs, H b = some (mkO tp vs) ∧ ∃ (i : Nat) (ds : List D), xs[i]? = some (.ow ds) ∧ vs[i]? = some (.ref p))
  | .tree tp xs, H, v, p => TFt H v (.nd tp xs) p
def Bd.C : Bd → PySem.W.Frag → Hp → Hp → V → Prop
  | .deck ps n, _, _, H, v => ∃ a b ts, v = .ref a ∧ H a = some (.lst [.ref b, .int n]) ∧ H b = some (.lst (ts.map V.ref)) ∧ (a :: b :: ts).Nodup ∧ Paired (At3 H) ts ps
  | .pile ps, _, _, H, v => ∃ b ts, v = .ref b ∧ H b = some (.lst (ts.map V.ref)) ∧ (b :: ts).Nodup ∧ Paired (At3 H) ts ps
  | .mix tp xs, K, B, H, v => ∃ b vs, v = .ref b ∧ H b = some (mkO tp vs) ∧ Paired (RtIs K B H) vs xs ∧ ∀ (i : Nat) (ds : List D), xs[i]? = some (.ow ds) → vs[i]? ≠ some (.ref b)
  | .tree tp xs, K, B, H, v => ∃ ps, TAt K B H v (.nd tp xs) ps ∧ ps.Nodup
theorem paired_at {α β : Type} {R : α → β → Prop} : ∀ {xs : List α} {ys : List β} {i : Nat} {y : β}, Paired R xs ys → ys[i]? = some y → ∃ x, xs[i]? = some x ∧ R x y
  | _, _, _, _, .nil, h => by simp at h
  | _, _, 0, _, .cons h t, e => by
    simp at e
    subst e
    exact ⟨_, rfl, h⟩
  | _, _, i + 1, y, .cons h t, e => by
    obtain ⟨x, h1, h2⟩ := paired_at (i := i) (y := y) t (by simpa using e)
    exact ⟨x, by simpa using h1, h2⟩
theorem paired_idx {α β : Type} {R S : α → β → Prop} : ∀ {xs : List α} {ys : List β}, Paired R xs ys → (∀ (i : Nat) x y, xs[i]? = some x → ys[i]? = some y → R x y → S x y) → Paired S xs ys
  | _, _, .nil, _ => .nil
  | _, _, .cons h t, g => .cons (g 0 _ _ rfl rfl h) (paired_idx t fun i x y e1 e2 r => g (i + 1) x y (by simpa using e1) (by simpa using e2) r)
theorem RtIs.monoB {K : PySem.W.Frag} {B B' H : Hp} {w : V} {r : Rt} (s : Same B B') (h : RtIs K B H w r) : RtIs K B' H w r := by
  cases r with
  | im d => exact Is.mono s h
  | ow ds =>
    obtain ⟨a, zs, e, h1, h2⟩ := h
    exact ⟨a, zs, e, h1, h2.mono s⟩
theorem pair_mem {α β : Type} {R : α → β → Prop} {xs : List α} {ys : List β} (h : Paired R xs ys) : ∀ {x : α}, x ∈ xs → ∃ y, y ∈ ys ∧ R x y := by
  induction h with
  | nil => intro x hx; cases hx
  | cons a t ih =>
    intro x hx
    rcases List.mem_cons.mp hx with e | hx
    · subst e
      exact ⟨_, List.mem_cons_self, a⟩
    · obtain ⟨y, hy, r⟩ := ih hx
      exact ⟨y, List.mem_cons_of_mem _ hy, r⟩
theorem pair_mono {α β : Type} {R S : α → β → Prop} {xs : List α} {ys : List β} (h : Paired R xs ys) : (∀ x y, x ∈ xs → R x y → S x y) → Paired S xs ys := by
  induction h with
  | nil => intro _; exact .nil
  | cons a t ih => intro g; exact .cons (g _ _ List.mem_cons_self a) (ih fun x y hx r => g x y (List.mem_cons_of_mem _ hx) r)
theorem Bd.isRef {t : Bd} {K : PySem.W.Frag} {B H : Hp} {v : V} (c : t.C K B H v) : ∃ a, v = .ref a := by
  cases t with
  | deck ps n =>
    obtain ⟨a, _, _, h, _⟩ := c
    exact ⟨a, h⟩
  | pile ps =>
    obtain ⟨a, _, h, _⟩ := c
    exact ⟨a, h⟩
  | mix tp xs =>
    obtain ⟨a, _, h, _⟩ := c
    exact ⟨a, h⟩
  | tree tp xs =>
    obtain ⟨ps, h, _⟩ := c
    cases h
    exact ⟨_, rfl⟩
theorem Bd.live {t : Bd} {K : PySem.W.Frag} {B H : Hp} {v : V} {p : Addr} (c : t.C K B H v) (h : t.Ft H v p) : H p ≠ none := by
  cases t with
  | deck ps n =>
    obtain ⟨a, b, ts, rfl, h1, h2, h3, h4⟩ := c
    obtain ⟨a', e, h⟩ := h
    cases e
    rcases h with e | ⟨b', r, e, h⟩
    · subst e
      rw [h1]
      exact Option.some_ne_none _
    · rw [h1] at e
      cases e
      rcases h with e | ⟨ts', e, h⟩
      · subst e
        rw [h2]
        exact Option.some_ne_none _
      · rw [h2] at e
        cases e
        obtain ⟨q, hq, e⟩ := List.mem_map.mp h
        cases e
        obtain ⟨y, _, h5⟩ := pair_mem h4 hq
        rw [show H p = _ from h5]
        exact Option.some_ne_none _
  | pile ps =>
    obtain ⟨b, ts, rfl, h2, h3, h4⟩ := c
    obtain ⟨b', e, h⟩ := h
    cases e
    rcases h with e | ⟨ts', e, h⟩
    · subst e
      rw [h2]
      exact Option.some_ne_none _
    · rw [h2] at e
      cases e
      obtain ⟨q, hq, e⟩ := List.mem_map.mp h
      cases e
      obtain ⟨y, _, h5⟩ := pair_mem h4 hq
      rw [show H p = _ from h5]
      exact Option.some_ne_none _
  | mix tp xs =>
    obtain ⟨b, vs, rfl, h1, h2, h3⟩ := c
    obtain ⟨b', e, h⟩ := h
    cases e
    rcases h with e | ⟨us, e, i, ds, e1, e2⟩
    · subst e
      rw [h1]
      exact Option.some_ne_none _
    · rw [h1] at e
      cases mkO_inj e
      obtain ⟨w, g1, a, zs, g2, g3, g4⟩ := paired_at h2 e1
      rw [e2] at g1
      cases g1
      cases g2
      rw [g3]
      exact Option.some_ne_none _
  | tree tp xs =>
    obtain ⟨ps, k, _⟩ := c
    exact k.live p (TFt.mem h k)
theorem Bd.monoB {t : Bd} {K : PySem.W.Frag} {B B' H : Hp} {v : V} (s : Same B B') (c : t.C K B H v) : t.C K B' H v := by
  cases t with
  | deck ps n => exact c
  | pile ps => exact c
  | mix tp xs =>
    obtain ⟨b, vs, e, h1, h2, h3⟩ := c
    exact ⟨b, vs, e, h1, paired_idx h2 fun _ _ _ _ _ r => r.monoB s, h3⟩
  | tree tp xs =>
    obtain ⟨ps, k, n⟩ := c
    exact ⟨ps, k.monoB s, n⟩
theorem Bd.ftEq {t : Bd} {H H' : Hp} {v : V} (h : ∀ p, t.Ft H v p → H' p = H p) (p : Addr) : t.Ft H' v p ↔ t.Ft H v p := by
  cases t with
  | deck ps n =>
    constructor
    · rintro ⟨a, rfl, k⟩
      have ea : H' a = H a := h a ⟨a, rfl, .inl rfl⟩
      rcases k with e | ⟨b, r, e, k⟩
      · exact ⟨a, rfl, .inl e⟩
      · rw [ea] at e
        have eb : H' b = H b := h b ⟨a, rfl, .inr ⟨b, r, e, .inl rfl⟩⟩
        rw [eb] at k
        exact ⟨a, rfl, .inr ⟨b, r, e, k⟩⟩
    · rintro ⟨a, rfl, k⟩
      have ea : H' a = H a := h a ⟨a, rfl, .inl rfl⟩
      rcases k with e | ⟨b, r, e, k⟩
      · exact ⟨a, rfl, .inl e⟩
      · have eb : H' b = H b := h b ⟨a, rfl, .inr ⟨b, r, e, .inl rfl⟩⟩
        rw [← ea] at e
        rw [← eb] at k
        exact ⟨a, rfl, .inr ⟨b, r, e, k⟩⟩
  | pile ps =>
    constructor
    · rintro ⟨b, rfl, k⟩
      have eb : H' b = H b := h b ⟨b, rfl, .inl rfl⟩
      rw [eb] at k
      exact ⟨b, rfl, k⟩
    · rintro ⟨b, rfl, k⟩
      have eb : H' b = H b := h b ⟨b, rfl, .inl rfl⟩
      rw [← eb] at k
      exact ⟨b, rfl, k⟩
  | mix tp xs =>
    constructor
    · rintro ⟨b, rfl, k⟩
      have eb : H' b = H b := h b ⟨b, rfl, .inl rfl⟩
      rw [eb] at k
      exact ⟨b, rfl, k⟩
    · rintro ⟨b, rfl, k⟩
      have eb : H' b = H b := h b ⟨b, rfl, .inl rfl⟩
      rw [← eb] at k
      exact ⟨b, rfl, k⟩
  | tree tp xs => exact ⟨fun f => TFt.back f h, fun f => TFt.to f h⟩
theorem Bd.congr {t : Bd} {K : PySem.W.Frag} {B H H' : Hp} {v : V} (h : ∀ p, t.Ft H v p → H' p = H p) (c : t.C K B H v) : t.C K B H' v := by
  cases t with
  | deck ps n =>
    obtain ⟨a, b, ts, rfl, h1, h2, h3, h4⟩ := c
    refine ⟨a, b, ts, rfl, (h a ⟨a, rfl, .inl rfl⟩).trans h1, (h b ⟨a, rfl, .inr ⟨b, _, h1, .inl rfl⟩⟩).trans h2, h3, pair_mono h4 fun x y hx g1 => (h x ?_).trans g1⟩
    exact ⟨a, rfl, .inr ⟨b, _, h1, .inr ⟨_, h2, List.mem_map.mpr ⟨x, hx, rfl⟩⟩⟩⟩
  | pile ps =>
    obtain ⟨b, ts, rfl, h2, h3, h4⟩ := c
    refine ⟨b, ts, rfl, (h b ⟨b, rfl, .inl rfl⟩).trans h2, h3, pair_mono h4 fun x y hx g1 => (h x ?_).trans g1⟩
    exact ⟨b, rfl, .inr ⟨_, h2, List.mem_map.mpr ⟨x, hx, rfl⟩⟩⟩
  | mix tp xs =>
    obtain ⟨b, vs, rfl, h1, h2, h3⟩ := c
    refine ⟨b, vs, rfl, (h b ⟨b, rfl, .inl rfl⟩).trans h1, paired_idx h2 fun i w r e1 e2 g => ?_, h3⟩
    cases r with
    | im d => exact g
    | ow ds =>
      obtain ⟨a, zs, rfl, g1, g2⟩ := g
      exact ⟨a, zs, rfl, (h a ⟨b, rfl, .inr ⟨vs, h1, i, ds, e2, e1⟩⟩).trans g1, g2⟩
  | tree tp xs =>
    obtain ⟨ps, k, n⟩ := c
    exact ⟨ps, k.congr fun p hp => h p (k.ft p hp), n⟩

/-! ### frames -/
inductive Sl where
  | no | im (d : D) | own (ds : List D) | bk (t : Bd)
abbrev Env := List Sl

/-- the blocks of a frame -/
structure BKS (K : PySem.W.Frag) (Fm B H : Hp) (σ : L2.St) (ρ : Env) : Prop where
  bk : ∀ (i : Nat) t, ρ[i]? = some (.bk t) → ∃ v, σ[i]? = some (some v) ∧ t.C K B H v ∧ ∀ p, t.Ft H v p → B p = none ∧ Fm p = none
  bo : ∀ (i j : Nat) t ds v a, ρ[i]? = some (.bk t) → ρ[j]? = some (.own ds) → σ[i]? = some (some v) → σ[j]? = some (some (.ref a)) → ¬ t.Ft H v a
  bb : ∀ (i j : Nat) t u v w p, i ≠ j → ρ[i]? = some (.bk t) → ρ[j]? = some (.bk u) → σ[i]? = some (some v) → σ[j]? = some (some w) → t.Ft H v p → u.Ft H w p → False
/-- an address that is no part of a frame's own things -/
structure Apart (H : Hp) (σ : L2.St) (ρ : Env) (a : Addr) : Prop where
  o : ∀ (i : Nat) es, ρ[i]? = some (.own es) → σ[i]? ≠ some (some (.ref a))
  b : ∀ (i : Nat) t w, ρ[i]? = some (.bk t) → σ[i]? = some (some w) → ¬ t.Ft H w a
theorem BKS.to {K : PySem.W.Frag} {Fm Fm' B B' H H' : Hp} {σ σ' : L2.St} {ρ ρ' : Env} (h : BKS K Fm B H σ ρ) (sub : ∀ (i : Nat) t, ρ'[i]? = some (.bk t) → ρ[i]? = some (.bk t)) (sv : ∀ (i : Nat) t, ρ'[i]? = some (.bk t) → σ'[i]? = σ[i]?) (sB : Same B B')
    (go : ∀ (i : Nat) t v p, ρ'[i]? = some (.bk t) → σ[i]? = some (some v) → t.Ft H v p → H p ≠ none → B p = none → Fm p = none → (∀ (j : Nat) ds, ρ[j]? = some (.own ds) → σ[j]? ≠ some (some (.ref p))) →
      H' p = H p ∧ B' p = none ∧ Fm' p = none ∧ ∀ (j : Nat) ds, ρ'[j]? = some (.own ds) → σ'[j]? ≠ some (some (.ref p))) : BKS K Fm' B' H' σ' ρ' := by
  have all : ∀ (i : Nat) t v p, ρ'[i]? = some (.bk t) → σ[i]? = some (some v) → t.Ft H v p → H' p = H p ∧ B' p = none ∧ Fm' p = none ∧ ∀ (j : Nat) ds, ρ'[j]? = some (.own ds) → σ'[j]? ≠ some (some (.ref p)) := fun i t v p e e2 f => by
    obtain ⟨w, k1, k2, k3⟩ := h.bk i t (sub i t e)
    rw [e2] at k1
    cases k1
    exact go i t v p e e2 f (Bd.live k2 f) (k3 p f).1 (k3 p f).2 fun j ds q z => h.bo i j t ds v p (sub i t e) q e2 z f
  have fe : ∀ (i : Nat) t v p, ρ'[i]? = some (.bk t) → σ[i]? = some (some v) → (t.Ft H' v p ↔ t.Ft H v p) := fun i t v p e e2 => Bd.ftEq (fun q f => (all i t v q e e2 f).1) p
  refine ⟨fun i t e => ?_, fun i j t ds v a e1 e2 e3 e4 f => ?_, fun i j t u v w p hij e1 e2 e3 e4 f1 f2 => ?_⟩
  · obtain ⟨v, k1, k2, k3⟩ := h.bk i t (sub i t e)
    refine ⟨v, (sv i t e).trans k1, Bd.congr (fun q f => (all i t v q e k1 f).1) (Bd.monoB sB k2), fun p f => ?_⟩
    have f' := (fe i t v p e k1).mp f
    exact ⟨(all i t v p e k1 f').2.1, (all i t v p e k1 f').2.2.1⟩
  · rw [sv i t e1] at e3
    exact (all i t v a e1 e3 ((fe i t v a e1 e3).mp f)).2.2.2 j ds e2 e4
  · rw [sv i t e1] at e3
    rw [sv j u e2] at e4
    exact h.bb i j t u v w p hij (sub i t e1) (sub j u e2) e3 e4 ((fe i t v p e1 e3).mp f1) ((fe j u w p e2 e4).mp f2)
theorem BKS.fresh {K : PySem.W.Frag} {Fm B H : Hp} {σ : L2.St} {ρ : Env} (h : BKS K Fm B H σ ρ) {a : Addr} {o : HO} (e : H a = none) {i : Nat} {t : Bd} {w : V} (e1 : ρ[i]? = some (.bk t)) (e2 : σ[i]? = some (some w)) : ¬ t.Ft (upd H a o) w a := by
  obtain ⟨v, k1, k2, k3⟩ := h.bk i t e1
  rw [e2] at k1
  cases k1
  intro f
  have := (Bd.ftEq (H := H) (H' := upd H a o) (fun q f => upd_ne fun z => Bd.live k2 f (by rw [z]; exact e)) a).mp f
  exact Bd.live k2 this e
theorem Apart.upd {H : Hp} {σ : L2.St} {ρ : Env} {a : Addr} {o : HO} (h : Apart H σ ρ a) : Apart (upd H a o) σ ρ a :=
  ⟨h.o, fun i t w e e2 f => h.b i t w e e2 ((Bd.ftEq (fun q g => upd_ne fun z => h.b i t w e e2 (by rw [← z]; exact g)) a).mp f)⟩
/-- a frame without blocks -/
theorem BKS.none {K : PySem.W.Frag} {Fm B H : Hp} {σ : L2.St} {ρ : Env} (h : ∀ (i : Nat) t, ρ[i]? ≠ some (.bk t)) : BKS K Fm B H σ ρ :=
  ⟨fun i t e => absurd e (h i t), fun i j t ds v a e => absurd e (h i t), fun i j t u v w p _ e => absurd e (h i t)⟩

structure IV (K : PySem.W.Frag) (ks : List Nat) (σ0 : L2.St) (Fm B H : Hp) (σ : L2.St) (ρ : Env) : Prop where
  ex : Same B H
  fr : Same Fm H
  fb : ∀ a o, Fm a = some o → B a = none
  len : σ.length = ρ.length
  im : ∀ (i : Nat) d, ρ[i]? = some (.im d) → ∃ v, σ[i]? = some (some v) ∧ Is K B v d
  own : ∀ (i : Nat) ds, ρ[i]? = some (.own ds) → ∃ a xs, σ[i]? = some (some (.ref a)) ∧ H a = some (.lst xs) ∧ B a = none ∧ Fm a = none ∧ IsA K B xs ds
  dj : ∀ (i j : Nat) ds es a, i ≠ j → ρ[i]? = some (.own ds) → ρ[j]? = some (.own es) → σ[i]? = some (some (.ref a)) → σ[j]? = some (some (.ref a)) → False
  pin : ∀ j ∈ ks, σ[j]? = σ0[j]?
  bs : BKS K Fm B H σ ρ

inductive R (α : Type) where
  | ok (a : α) (ρ : Env)
  | exc (C : Addr) (d : Option (Str × D)) (ρ : Env)
  | bad
def R.bind {α β : Type} (r : R α) (k : α → Env → R β) : R β :=
  match r with
  | .ok a ρ => k a ρ
  | .exc C d ρ => .exc C d ρ
  | .bad => .bad
/-- no exception may leave -/
def R.nx {α : Type} (r : R α) : R α :=
  match r with
  | .ok a ρ => .ok a ρ
  | _ => .bad
inductive Rv where
  | im (d : D) | own (ds : List D) | bk (t : Bd)
def Rv.d : Rv → D
  | .im d => d
  | .own ds => .lst ds
  | .bk t => t.d
def Rv.sl : Rv → Sl
  | .im d => .im d
  | .own ds => .own ds
  | .bk t => .bk t
def lift {α : Type} (o : Option α) (ρ : Env) : R α :=
  match o with
  | some a => .ok a ρ
  | none => .bad

def XAt (K : PySem.W.Frag) (B : Hp) (dx : Option Addr) : Option (Str × D) → Prop
  | none => dx = none
  | some (nm, x) => ∃ q v, dx = some q ∧ B q = some (.xd [(nm, v)]) ∧ Is K B v x

/-- what must hold of what follows, by the outcome that the data tell. vis: how a result shows -/
def PtG {α β : Type} (K : PySem.W.Frag) (ks : List Nat) (σ0 : L2.St) (Fm : Hp) (W : WX) (vis : Hp → Hp → Env → β → α → Prop) (B : Hp) (σ : L2.St) (Q : β → Hp → Prop) : R α → Prop
  | .ok a ρ' => ∀ B' H' b, Same B B' → IV K ks σ0 Fm B' H' σ ρ' → vis B' H' ρ' b a → Q b H'
  | .exc C d ρ' => ∀ B' H' dx, Same B B' → IV K ks σ0 Fm B' H' σ ρ' → XAt K B' dx d → W (.ref C) dx σ H'
  | .bad => False

def vE (K : PySem.W.Frag) (Fm : Hp) (σ : L2.St) (B H : Hp) (ρ : Env) (v : V) : Rv → Prop
  | .im d => Is K B v d
  | .own ds => ∃ a xs, v = .ref a ∧ H a = some (.lst xs) ∧ B a = none ∧ Fm a = none ∧ IsA K B xs ds ∧ Apart H σ ρ a
  | .bk t => t.C K B H v ∧ ∀ p, t.Ft H v p → B p = none ∧ Fm p = none ∧ Apart H σ ρ p
def vEq {α : Type} (_ _ : Hp) (_ : Env) (b a : α) : Prop := b = a

/-- an expression's reading does what the data function tells -/
def DE (K : PySem.W.Frag) (W : WX) (te : TE) (f : Env → R Rv) : Prop := ∀ ks σ0 Fm B H σ ρ Q, IV K ks σ0 Fm B H σ ρ → PtG K ks σ0 Fm W (vE K Fm σ) B σ Q (f ρ) → te σ H Q
def DT (K : PySem.W.Frag) (W : WX) (te : TT) (f : Env → R Bool) : Prop := ∀ ks σ0 Fm B H σ ρ Q, IV K ks σ0 Fm B H σ ρ → PtG K ks σ0 Fm W vEq B σ Q (f ρ) → te σ H Q
def DO (K : PySem.W.Frag) (W : WX) (te : TO) (f : Env → R (Option Int)) : Prop := ∀ ks σ0 Fm B H σ ρ Q, IV K ks σ0 Fm B H σ ρ → PtG K ks σ0 Fm W vEq B σ Q (f ρ) → te σ H Q

inductive Av where
  | im (d : D) | sl (i : Nat)
def ArgIs (K : PySem.W.Frag) (σ : L2.St) (B _ : Hp) (_ : Env) (vs : List V) (as : List Av) : Prop :=
  Paired (fun v a => match a with | .im d => Is K B v d | .sl i => σ[i]? = some (some v)) vs as
def DA (K : PySem.W.Frag) (W : WX) (te : TA) (f : Env → R (List Av)) : Prop := ∀ ks σ0 Fm B H σ ρ Q, IV K ks σ0 Fm B H σ ρ → PtG K ks σ0 Fm W (ArgIs K σ) B σ Q (f ρ) → te σ H Q

section
variable {K : PySem.W.Frag} {ks : List Nat} {σ0 : L2.St} {Fm B B1 B' H H' : Hp} {σ : L2.St} {ρ : Env} {W : WX}
theorem PtG.mono {α β : Type} {vis : Hp → Hp → Env → β → α → Prop} {Q : β → Hp → Prop} {r : R α} (h : PtG K ks σ0 Fm W vis B σ Q r) (e : Same B B1) : PtG K ks σ0 Fm W vis B1 σ Q r := by
  cases r with
  | ok a ρ' => exact fun B' H' b s i v => h B' H' b (e.trans s) i v
  | exc C d ρ' => exact fun B' H' dx s i x => h B' H' dx (e.trans s) i x
  | bad => exact h
theorem PtG.step {α β γ δ : Type} {vis : Hp → Hp → Env → β → α → Prop} {vis2 : Hp → Hp → Env → δ → γ → Prop} {Q : δ → Hp → Prop} {Q1 : β → Hp → Prop} {r : R α} {k : α → Env → R γ} (h : PtG K ks σ0 Fm W vis2 B σ Q (r.bind k))
    (go : ∀ a ρ1 B1 H1 b, Same B B1 → IV K ks σ0 Fm B1 H1 σ ρ1 → vis B1 H1 ρ1 b a → PtG K ks σ0 Fm W vis2 B1 σ Q (k a ρ1) → Q1 b H1) : PtG K ks σ0 Fm W vis B σ Q1 r := by
  cases r with
  | ok a ρ1 => exact fun B1 H1 b s i v => go a ρ1 B1 H1 b s i v (PtG.mono h s)
  | exc C d ρ' => exact h
  | bad => exact h
/-- what lies at a block, held fast with what stays -/
noncomputable def holdH (t : Bd) (v : V) (B H : Hp) : Hp := fun p =>
  open Classical in if t.Ft H v p then H p else B p
theorem hold_with {t : Bd} {v : V} (I : IV K ks σ0 Fm B H σ ρ) (hf : ∀ p, t.Ft H v p → B p = none ∧ Fm p = none ∧ Apart H σ ρ p) : Same B (holdH t v B H) ∧ IV K ks σ0 Fm (holdH t v B H) H σ ρ ∧ ∀ p, t.Ft H v p → holdH t v B H p = H p := by
  have yes : ∀ p, t.Ft H v p → holdH t v B H p = H p := fun p f => by unfold holdH; rw [if_pos f]
  have no : ∀ p, ¬ t.Ft H v p → holdH t v B H p = B p := fun p f => by unfold holdH; rw [if_neg f]
  have s : Same B (holdH t v B H) := fun p o e => by
    rw [no p fun f => by rw [(hf p f).1] at e; cases e]
    exact e
  refine ⟨s, ⟨fun p o e => ?_, I.fr, fun p o e => ?_, I.len, fun i d e => ?_, fun i es e => ?_, I.dj, I.pin, I.bs.to (fun i t e => e) (fun i t e => rfl) s fun i u w p e e2 f hl hbn hfn ho => ⟨rfl, by rw [no p fun g => (hf p g).2.2.b i u w e e2 f]; exact hbn, hfn, ho⟩⟩, yes⟩
  · by_cases f : t.Ft H v p
    · rw [yes p f] at e
      exact e
    · rw [no p f] at e
      exact I.ex p o e
  · by_cases f : t.Ft H v p
    · rw [(hf p f).2.1] at e
      cases e
    · rw [no p f]
      exact I.fb p o e
  · obtain ⟨w, h1, h2⟩ := I.im i d e
    exact ⟨w, h1, h2.mono s⟩
  · obtain ⟨b, ys, h1, h2, h3, h4, h5⟩ := I.own i es e
    exact ⟨b, ys, h1, h2, by rw [no b fun f => (hf b f).2.2.o i es e h1]; exact h3, h4, h5.mono s⟩
theorem isA_rt {B' : Hp} {vs : List V} {xs : List Rt} (h : Paired (fun w r => Is K B' w (Rt.d r)) vs xs) : IsA K B' vs (xs.map Rt.d) := by
  induction h with
  | nil => exact .nil
  | cons a t ih => exact .cons a ih
theorem mix_is {tp : Bool} {xs : List Rt} {v : V} {B' : Hp} (hc : (Bd.mix tp xs).C K B H v) (s : Same B B') (h : ∀ p, (Bd.mix tp xs).Ft H v p → B' p = H p) : Is K B' v (Bd.mix tp xs).d := by
  obtain ⟨b, vs, rfl, h1, h2, h3⟩ := hc
  have hb : B' b = some (mkO tp vs) := (h b ⟨b, rfl, .inl rfl⟩).trans h1
  have k : IsA K B' vs (xs.map Rt.d) := isA_rt (paired_idx h2 fun i w r e1 e2 g => by
    cases r with
    | im d => exact Is.mono s g
    | ow ds =>
      obtain ⟨a, zs, rfl, g1, g2⟩ := g
      exact .lst ((h a ⟨b, rfl, .inr ⟨vs, h1, i, ds, e2, e1⟩⟩).trans g1) (g2.mono s))
  cases tp with
  | true => exact .tup hb k
  | false => exact .lst hb k
/-- an object of one's own becomes one that stays -/
theorem freeze {v : V} {rv : Rv} (I : IV K ks σ0 Fm B H σ ρ) (h : vE K Fm σ B H ρ v rv) : ∃ B', Same B B' ∧ IV K ks σ0 Fm B' H σ ρ ∧ Is K B' v rv.d := by
  cases rv with
  | im d => exact ⟨B, Same.refl B, I, h⟩
  | bk t =>
    cases t with
    | deck ps n =>
      obtain ⟨a, rfl⟩ := Bd.isRef h.1
      exact ⟨B, Same.refl B, I, .any a⟩
    | pile ps =>
      obtain ⟨a, rfl⟩ := Bd.isRef h.1
      exact ⟨B, Same.refl B, I, .any a⟩
    | mix tp xs =>
      obtain ⟨hc, hf⟩ := h
      obtain ⟨s1, s2, s3⟩ := hold_with (t := .mix tp xs) (v := v) I hf
      exact ⟨_, s1, s2, mix_is hc s1 s3⟩
    | tree tp xs =>
      obtain ⟨hc, hf⟩ := h
      obtain ⟨s1, s2, s3⟩ := hold_with (t := .tree tp xs) (v := v) I hf
      obtain ⟨ps, k, n⟩ := hc
      exact ⟨_, s1, s2, k.is s1 fun p hp => s3 p (k.ft p hp)⟩
  | own ds =>
    obtain ⟨a, xs, rfl, ha, hb, hf, hi, hn⟩ := h
    have s := same_upd (o := .lst xs) hb
    refine ⟨upd B a (.lst xs), s, ⟨fun b o e => ?_, I.fr, fun b o e => ?_, I.len, fun i d e => ?_, fun i es e => ?_, I.dj, I.pin, I.bs.to (fun i t e => e) (fun i t e => rfl) s fun i t w p e e2 f hl hbn hfn ho => ⟨rfl, by rw [upd_ne fun z => hn.b i t w e e2 (by rw [← z]; exact f)]; exact hbn, hfn, ho⟩⟩, .lst upd_same (hi.mono s)⟩
    · by_cases hb' : b = a
      · subst hb'
        rw [upd_same] at e
        cases e
        exact ha
      · rw [upd_ne hb'] at e
        exact I.ex b o e
    · have hne : b ≠ a := fun z => by
        subst z
        rw [hf] at e
        cases e
      rw [upd_ne hne]
      exact I.fb b o e
    · obtain ⟨v, h1, h2⟩ := I.im i d e
      exact ⟨v, h1, h2.mono s⟩
    · obtain ⟨b, ys, h1, h2, h3, h4, h5⟩ := I.own i es e
      have hne : b ≠ a := fun z => hn.o i es e (by rw [h1, z])
      exact ⟨b, ys, h1, h2, by rw [upd_ne hne]; exact h3, h4, h5.mono s⟩
theorem PtG.ok1 {α β : Type} {vis : Hp → Hp → Env → β → α → Prop} {Q : β → Hp → Prop} {a : α} (h : PtG K ks σ0 Fm W vis B σ Q (.ok a ρ)) {b : β} (I : IV K ks σ0 Fm B H σ ρ) (v : vis B H ρ b a) : Q b H := h B H b (Same.refl B) I v
/-- a new object that stays -/
theorem IV.laid {p : Addr} {o : HO} (I : IV K ks σ0 Fm B H σ ρ) (h : H p = none) : IV K ks σ0 Fm (upd B p o) (upd H p o) σ ρ := by
  have hB : B p = none := I.ex.free h
  have hF : Fm p = none := I.fr.free h
  have s := same_upd (o := o) hB
  refine ⟨fun b u e => ?_, fun b u e => ?_, fun b u e => ?_, I.len, fun i d e => ?_, fun i es e => ?_, I.dj, I.pin, I.bs.to (fun i t e => e) (fun i t e => rfl) s fun i t w q e e2 f hl hbn hfn ho => ⟨upd_ne (fun z => hl (by rw [z]; exact h)), by rw [upd_ne (fun z => hl (by rw [z]; exact h))]; exact hbn, hfn, ho⟩⟩
  · by_cases hb : b = p
    · subst hb
      rw [upd_same] at e ⊢
      exact e
    · rw [upd_ne hb] at e ⊢
      exact I.ex b u e
  · rw [upd_ne (ne_of_none e hF)]
    exact I.fr b u e
  · rw [upd_ne (ne_of_none e hF)]
    exact I.fb b u e
  · obtain ⟨v, h1, h2⟩ := I.im i d e
    exact ⟨v, h1, h2.mono s⟩
  · obtain ⟨b, ys, h1, h2, h3, h4, h5⟩ := I.own i es e
    have hne : b ≠ p := ne_of_none h2 h
    exact ⟨b, ys, h1, by rw [upd_ne hne]; exact h2, by rw [upd_ne hne]; exact h3, h4, h5.mono s⟩
/-- a new object of one's own -/
theorem IV.made {p : Addr} {o : HO} (I : IV K ks σ0 Fm B H σ ρ) (h : H p = none) : IV K ks σ0 Fm B (upd H p o) σ ρ := by
  have hB : B p = none := I.ex.free h
  have hF : Fm p = none := I.fr.free h
  refine ⟨fun b u e => ?_, fun b u e => ?_, I.fb, I.len, I.im, fun i es e => ?_, I.dj, I.pin, I.bs.to (fun i t e => e) (fun i t e => rfl) (Same.refl B) fun i t w q e e2 f hl hbn hfn ho => ⟨upd_ne (fun z => hl (by rw [z]; exact h)), hbn, hfn, ho⟩⟩
  · rw [upd_ne (ne_of_none e hB)]
    exact I.ex b u e
  · rw [upd_ne (ne_of_none e hF)]
    exact I.fr b u e
  · obtain ⟨b, ys, h1, h2, h3, h4, h5⟩ := I.own i es e
    have hne : b ≠ p := ne_of_none h2 h
    exact ⟨b, ys, h1, by rw [upd_ne hne]; exact h2, h3, h4, h5⟩
theorem IV.madeV {p : Addr} {xs : List V} {ds : List D} (I : IV K ks σ0 Fm B H σ ρ) (h : H p = none) (k : IsA K B xs ds) : vE K Fm σ B (upd H p (.lst xs)) ρ (.ref p) (.own ds) :=
  ⟨p, xs, rfl, upd_same, I.ex.free h, I.fr.free h, k, ⟨fun i es e z => (by
    obtain ⟨b, ys, h1, h2, _⟩ := I.own i es e
    rw [z] at h1
    cases h1
    rw [h] at h2
    cases h2), fun i t w e e2 => I.bs.fresh h e e2⟩⟩
theorem set_sub {ρ : Env} {i j : Nat} {x y : Sl} (h : (ρ.set i x)[j]? = some y) : (i = j ∧ x = y ∧ j < ρ.length) ∨ (i ≠ j ∧ ρ[j]? = some y) := by
  by_cases hij : i = j
  · subst hij
    by_cases hl : i < ρ.length
    · rw [List.getElem?_set_self hl] at h
      exact .inl ⟨rfl, Option.some.inj h, hl⟩
    · rw [List.getElem?_eq_none (by rw [List.length_set]; omega)] at h
      cases h
  · rw [List.getElem?_set_ne hij] at h
    exact .inr ⟨hij, h⟩
theorem BKS.set {i : Nat} {x : Sl} {z : Option V} (h : BKS K Fm B H σ ρ) (nb : ∀ t, x ≠ .bk t) (no : ∀ ds, x = .own ds → ∀ a, z = some (.ref a) → Apart H σ ρ a) (s : Same B B) : BKS K Fm B H (σ.set i z) (ρ.set i x) := by
  have sub : ∀ (j : Nat) t, (ρ.set i x)[j]? = some (.bk t) → i ≠ j ∧ ρ[j]? = some (.bk t) := fun j t e => by
    rcases set_sub e with ⟨_, e2, _⟩ | h
    · exact absurd e2 (nb t)
    · exact h
  refine h.to (fun j t e => (sub j t e).2) (fun j t e => List.getElem?_set_ne (sub j t e).1) s fun j t w p e e2 f hl hbn hfn ho => ⟨rfl, hbn, hfn, fun k ds q r => ?_⟩
  rcases set_sub q with ⟨e3, e4, _⟩ | ⟨e3, e4⟩
  · subst e3
    have hz : z = some (.ref p) := by
      by_cases hl : i < σ.length
      · rw [List.getElem?_set_self hl] at r
        exact Option.some.inj r
      · rw [List.getElem?_eq_none (by rw [List.length_set]; omega)] at r
        cases r
    exact (no ds e4 p hz).b j t w (sub j t e).2 e2 f
  · rw [List.getElem?_set_ne e3] at r
    exact ho k ds e4 r
/-- the same frame of values, seen otherwise -/
theorem BKS.see {i : Nat} {x : Sl} (h : BKS K Fm B H σ ρ) (nb : ∀ t, x ≠ .bk t) (no : ∀ ds, x ≠ .own ds) : BKS K Fm B H σ (ρ.set i x) := by
  have sub : ∀ (j : Nat) t, (ρ.set i x)[j]? = some (.bk t) → i ≠ j ∧ ρ[j]? = some (.bk t) := fun j t e => by
    rcases set_sub e with ⟨_, e2, _⟩ | h
    · exact absurd e2 (nb t)
    · exact h
  refine h.to (fun j t e => (sub j t e).2) (fun j t e => rfl) (Same.refl B) fun j t w p e e2 f hl hbn hfn ho => ⟨rfl, hbn, hfn, fun k ds q r => ?_⟩
  rcases set_sub q with ⟨_, e4, _⟩ | ⟨_, e4⟩
  · exact absurd e4 (no ds)
  · exact ho k ds e4 r
/-- a slot takes a thing that stays -/
theorem IV.setIm {i : Nat} {v : V} {d : D} (I : IV K ks σ0 Fm B H σ ρ) (hi : i ∉ ks) (h : Is K B v d) : IV K ks σ0 Fm B H (σ.set i (some v)) (ρ.set i (.im d)) := by
  refine ⟨I.ex, I.fr, I.fb, by rw [List.length_set, List.length_set]; exact I.len, fun j e hj => ?_, fun j es hj => ?_, fun j k ds es a hjk h1 h2 h3 h4 => ?_, fun j hj => ?_, I.bs.set (by intro t z; cases z) (by intro ds z; cases z) (Same.refl B)⟩
  · by_cases hij : i = j
    · subst hij
      by_cases hl : i < ρ.length
      · rw [List.getElem?_set_self hl] at hj
        cases hj
        exact ⟨v, List.getElem?_set_self (by rw [I.len]; exact hl), h⟩
      · rw [List.getElem?_eq_none (by rw [List.length_set]; omega)] at hj
        cases hj
    · rw [List.getElem?_set_ne hij] at hj ⊢
      exact I.im j e hj
  · have hij : i ≠ j := fun z => by
      subst z
      by_cases hl : i < ρ.length
      · rw [List.getElem?_set_self hl] at hj
        cases hj
      · rw [List.getElem?_eq_none (by rw [List.length_set]; omega)] at hj
        cases hj
    rw [List.getElem?_set_ne hij] at hj ⊢
    exact I.own j es hj
  · have ne : ∀ {m : Nat} {zs : List D}, (ρ.set i (.im d))[m]? = some (.own zs) → i ≠ m := fun {m zs} hm z => by
      subst z
      by_cases hl : i < ρ.length
      · rw [List.getElem?_set_self hl] at hm
        cases hm
      · rw [List.getElem?_eq_none (by rw [List.length_set]; omega)] at hm
        cases hm
    have n1 := ne h1
    have n2 := ne h2
    rw [List.getElem?_set_ne n1] at h1 h3
    rw [List.getElem?_set_ne n2] at h2 h4
    exact I.dj j k ds es a hjk h1 h2 h3 h4
  · have hij : i ≠ j := fun z => hi (by rw [z]; exact hj)
    rw [List.getElem?_set_ne hij]
    exact I.pin j hj
theorem IV.setBk {i : Nat} {v : V} {t : Bd} (I : IV K ks σ0 Fm B H σ ρ) (hi : i ∉ ks) (h : vE K Fm σ B H ρ v (.bk t)) : IV K ks σ0 Fm B H (σ.set i (some v)) (ρ.set i (.bk t)) := by
  obtain ⟨hc, hf⟩ := h
  have at_i : ∀ {w : V}, (σ.set i (some v))[i]? = some (some w) → w = v := fun {w} e => by
    by_cases hl : i < σ.length
    · rw [List.getElem?_set_self hl] at e
      exact (Option.some.inj (Option.some.inj e)).symm
    · rw [List.getElem?_eq_none (by rw [List.length_set]; omega)] at e
      cases e
  have own_of : ∀ {j : Nat} {ds : List D}, (ρ.set i (.bk t))[j]? = some (.own ds) → i ≠ j ∧ ρ[j]? = some (.own ds) := fun {j ds} e => by
    rcases set_sub e with ⟨_, z, _⟩ | h
    · cases z
    · exact h
  have im_of : ∀ {j : Nat} {d : D}, (ρ.set i (.bk t))[j]? = some (.im d) → i ≠ j ∧ ρ[j]? = some (.im d) := fun {j ds} e => by
    rcases set_sub e with ⟨_, z, _⟩ | h
    · cases z
    · exact h
  refine ⟨I.ex, I.fr, I.fb, by rw [List.length_set, List.length_set]; exact I.len, fun j e hj => ?_, fun j es hj => ?_, fun j k es fs b hjk h1 h2 h3 h4 => ?_, fun j hj => ?_, fun j u e => ?_, fun j k u ds w a e1 e2 e3 e4 f => ?_, fun j k u u' w w' p hjk e1 e2 e3 e4 f1 f2 => ?_⟩
  · obtain ⟨n, hj⟩ := im_of hj
    rw [List.getElem?_set_ne n]
    exact I.im j e hj
  · obtain ⟨n, hj⟩ := own_of hj
    rw [List.getElem?_set_ne n]
    exact I.own j es hj
  · obtain ⟨n1, h1⟩ := own_of h1
    obtain ⟨n2, h2⟩ := own_of h2
    rw [List.getElem?_set_ne n1] at h3
    rw [List.getElem?_set_ne n2] at h4
    exact I.dj j k es fs b hjk h1 h2 h3 h4
  · have hij : i ≠ j := fun z => hi (by rw [z]; exact hj)
    rw [List.getElem?_set_ne hij]
    exact I.pin j hj
  · rcases set_sub e with ⟨rfl, z, hl⟩ | ⟨n, e⟩
    · cases z
      exact ⟨v, List.getElem?_set_self (by rw [I.len]; exact hl), hc, fun p f => ⟨(hf p f).1, (hf p f).2.1⟩⟩
    · rw [List.getElem?_set_ne n]
      exact I.bs.bk j u e
  · obtain ⟨n2, e2⟩ := own_of e2
    rw [List.getElem?_set_ne n2] at e4
    rcases set_sub e1 with ⟨rfl, z, hl⟩ | ⟨n, e1⟩
    · cases z
      cases at_i e3
      exact (hf a f).2.2.o k ds e2 e4
    · rw [List.getElem?_set_ne n] at e3
      exact I.bs.bo j k u ds w a e1 e2 e3 e4 f
  · rcases set_sub e1 with ⟨rfl, z, hl⟩ | ⟨n, e1⟩
    · cases z
      cases at_i e3
      rcases set_sub e2 with ⟨q, _, _⟩ | ⟨n2, e2⟩
      · exact hjk q
      · rw [List.getElem?_set_ne n2] at e4
        exact (hf p f1).2.2.b k u' w' e2 e4 f2
    · rw [List.getElem?_set_ne n] at e3
      rcases set_sub e2 with ⟨rfl, z, hl⟩ | ⟨n2, e2⟩
      · cases z
        cases at_i e4
        exact (hf p f2).2.2.b j u w e1 e3 f1
      · rw [List.getElem?_set_ne n2] at e4
        exact I.bs.bb j k u u' w w' p hjk e1 e2 e3 e4 f1 f2
theorem IV.setSl {i : Nat} {v : V} {rv : Rv} (I : IV K ks σ0 Fm B H σ ρ) (hi : i ∉ ks) (h : vE K Fm σ B H ρ v rv) : IV K ks σ0 Fm B H (σ.set i (some v)) (ρ.set i rv.sl) := by
  cases rv with
  | im d => exact I.setIm hi h
  | bk t => exact I.setBk hi h
  | own ds =>
    obtain ⟨a, xs, rfl, ha, hb, hf, hk, hn⟩ := h
    refine ⟨I.ex, I.fr, I.fb, by rw [List.length_set, List.length_set]; exact I.len, fun j e hj => ?_, fun j es hj => ?_, fun j k es fs b hjk h1 h2 h3 h4 => ?_, fun j hj => ?_, I.bs.set (by intro t z; cases z) (fun es _ c e => by cases e; exact hn) (Same.refl B)⟩
    · have hij : i ≠ j := fun z => by
        subst z
        by_cases hl : i < ρ.length
        · rw [List.getElem?_set_self hl] at hj
          cases hj
        · rw [List.getElem?_eq_none (by rw [List.length_set]; omega)] at hj
          cases hj
      rw [List.getElem?_set_ne hij] at hj ⊢
      exact I.im j e hj
    · by_cases hij : i = j
      · subst hij
        by_cases hl : i < ρ.length
        · rw [show (ρ.set i (Rv.own ds).sl)[i]? = some (.own ds) from List.getElem?_set_self hl] at hj
          cases hj
          exact ⟨a, xs, List.getElem?_set_self (by rw [I.len]; exact hl), ha, hb, hf, hk⟩
        · rw [List.getElem?_eq_none (by rw [List.length_set]; omega)] at hj
          cases hj
      · rw [List.getElem?_set_ne hij] at hj ⊢
        exact I.own j es hj
    · by_cases e1 : i = j
      · subst e1
        have e2 : i ≠ k := hjk
        rw [List.getElem?_set_ne e2] at h2 h4
        have hl : i < ρ.length := by
          have := (List.getElem?_eq_some_iff.mp h1).1
          rw [List.length_set] at this
          exact this
        rw [List.getElem?_set_self (by rw [I.len]; exact hl)] at h3
        cases h3
        exact hn.o k fs h2 h4
      · rw [List.getElem?_set_ne e1] at h1 h3
        by_cases e2 : i = k
        · subst e2
          have hl : i < ρ.length := by
            have := (List.getElem?_eq_some_iff.mp h2).1
            rw [List.length_set] at this
            exact this
          rw [List.getElem?_set_self (by rw [I.len]; exact hl)] at h4
          cases h4
          exact hn.o j es h1 h3
        · rw [List.getElem?_set_ne e2] at h2 h4
          exact I.dj j k es fs b hjk h1 h2 h3 h4
    · have hij : i ≠ j := fun z => hi (by rw [z]; exact hj)
      rw [List.getElem?_set_ne hij]
      exact I.pin j hj
end
end DL

/-! DL, part b: expressions. -/
namespace DL
open PySem PySem.Spec PyProof.Rows L2

theorem sz_of {n : Nat} (h : n ≤ 100000) : n ≤ sizeLine := Nat.le_trans h (by decide)
theorem sz_lt {n : Nat} (h : n < 100000) : n < sizeLine := Nat.lt_of_lt_of_le h (by decide)

/-! ### the data functions -/
def eC (d : D) : Env → R Rv := fun ρ => .ok (.im d) ρ
/-- a name as a value: what was one's own stays as it is from now on -/
def eVar (i : Nat) : Env → R Rv := fun ρ =>
  match ρ[i]? with
  | some (.im d) => .ok (.im d) ρ
  | some (.own ds) => .ok (.im (.lst ds)) (ρ.set i (.im (.lst ds)))
  | _ => .bad
/-- a name given away -/
def eMove (i : Nat) : Env → R Rv := fun ρ =>
  match ρ[i]? with
  | some (.im d) => .ok (.im d) ρ
  | some (.own ds) => .ok (.own ds) (ρ.set i .no)
  | _ => .bad
def eOp (op : D → D → Option Rv) (a b : Env → R Rv) : Env → R Rv := fun ρ => (a ρ).bind fun x ρ => (b ρ).bind fun y ρ => lift (op x.d y.d) ρ
def eUn (op : D → Option Rv) (a : Env → R Rv) : Env → R Rv := fun ρ => (a ρ).bind fun x ρ => lift (op x.d) ρ
def asB : D → Option Bool
  | .bl b => some b
  | _ => none
def tOf (a : Env → R Rv) : Env → R Bool := fun ρ => (a ρ).bind fun x ρ => lift (asB x.d) ρ
def tAndD (a b : Env → R Bool) : Env → R Bool := fun ρ => (a ρ).bind fun c ρ => cond c (b ρ) (.ok false ρ)
def tOrD (a b : Env → R Bool) : Env → R Bool := fun ρ => (a ρ).bind fun c ρ => cond c (.ok true ρ) (b ρ)
def tNotD (a : Env → R Bool) : Env → R Bool := fun ρ => (a ρ).bind fun c ρ => .ok (!c) ρ
def eAnd (a b : Env → R Rv) : Env → R Rv := fun ρ => (a ρ).bind fun x ρ => (lift (asB x.d) ρ).bind fun c ρ => cond c (b ρ) (.ok (.im (.bl false)) ρ)
def eOr (a b : Env → R Rv) : Env → R Rv := fun ρ => (a ρ).bind fun x ρ => (lift (asB x.d) ρ).bind fun c ρ => cond c (.ok (.im (.bl true)) ρ) (b ρ)
def eNot (a : Env → R Rv) : Env → R Rv := fun ρ => (a ρ).bind fun x ρ => (lift (asB x.d) ρ).bind fun c ρ => .ok (.im (.bl (!c))) ρ
def eIf (t : Env → R Bool) (a b : Env → R Rv) : Env → R Rv := fun ρ => (t ρ).bind fun c ρ => cond c (a ρ) (b ρ)
def eChain (op op' : D → D → Option Rv) (a b c : Env → R Rv) : Env → R Rv := fun ρ => (a ρ).bind fun x ρ => (b ρ).bind fun y ρ => (lift (op x.d y.d) ρ).bind fun z ρ => (lift (asB z.d) ρ).bind fun k ρ =>
  cond k ((c ρ).bind fun w ρ => lift (op' y.d w.d) ρ) (.ok (.im (.bl false)) ρ)
def aNil : Env → R (List Av) := fun ρ => .ok [] ρ
def aCons (a : Env → R Rv) (r : Env → R (List Av)) : Env → R (List Av) := fun ρ => (a ρ).bind fun x ρ => (r ρ).bind fun xs ρ => .ok (.im x.d :: xs) ρ
/-- a list of one's own handed in, to be changed -/
def aSlot (i : Nat) (r : Env → R (List Av)) : Env → R (List Av) := fun ρ =>
  match ρ[i]? with
  | some (.own _) => (r ρ).bind fun xs ρ => .ok (.sl i :: xs) ρ
  | some (.bk _) => (r ρ).bind fun xs ρ => .ok (.sl i :: xs) ρ
  | _ => .bad
def ims : List Av → Option (List D)
  | [] => some []
  | .im d :: r => (ims r).map (d :: ·)
  | .sl _ :: _ => none
def eLst (a : Env → R (List Av)) : Env → R Rv := fun ρ => (a ρ).bind fun xs ρ => (lift (ims xs) ρ).bind fun ds ρ => cond (Nat.ble ds.length 100000) (.ok (.own ds) ρ) .bad
def eTup (a : Env → R (List Av)) : Env → R Rv := fun ρ => (a ρ).bind fun xs ρ => (lift (ims xs) ρ).bind fun ds ρ => cond (Nat.ble ds.length 100000) (.ok (.im (.tup ds)) ρ) .bad
/-- a built-in of values -/
def eCB (op : List D → Option Rv) (a : Env → R (List Av)) : Env → R Rv := fun ρ => (a ρ).bind fun xs ρ => (lift (ims xs) ρ).bind fun ds ρ => lift (op ds) ρ
def oNone : Env → R (Option Int) := fun ρ => .ok none ρ
def asI : D → Option Int
  | .int i => some i
  | _ => none
def oSome (a : Env → R Rv) : Env → R (Option Int) := fun ρ => (a ρ).bind fun x ρ => (lift (asI x.d) ρ).bind fun i ρ => .ok (some i) ρ
def cutD {α : Type} (xs : List α) (lo hi : Option Int) : List α := (xs.drop (HT.sIx xs.length 0 lo)).take (HT.sIx xs.length xs.length hi - HT.sIx xs.length 0 lo)
def slD (x : D) (lo hi : Option Int) : Option Rv :=
  match x with
  | .lst xs => some (.own (cutD xs lo hi))
  | _ => none
def eSl (a : Env → R Rv) (lo hi : Env → R (Option Int)) : Env → R Rv := fun ρ => (a ρ).bind fun x ρ => (lo ρ).bind fun l ρ => (hi ρ).bind fun u ρ => lift (slD x.d l u) ρ
/-- a slice, an item of a list of one's own, its length -/
def eSlO (i : Nat) (lo hi : Env → R (Option Int)) : Env → R Rv := fun ρ =>
  match ρ[i]? with
  | some (.own _) => (lo ρ).bind fun l ρ => (hi ρ).bind fun u ρ => match ρ[i]? with
    | some (.own ds) => .ok (.own (cutD ds l u)) ρ
    | _ => .bad
  | _ => .bad
def eIxO (i : Nat) (a : Env → R Rv) : Env → R Rv := fun ρ =>
  match ρ[i]? with
  | some (.own _) => (a ρ).bind fun x ρ => match ρ[i]?, x.d with
    | some (.own ds), .int k => match atI ds k with
      | some d => .ok (.im d) ρ
      | none => .bad
    | _, _ => .bad
  | _ => .bad
def eLenO (i : Nat) : Env → R Rv := fun ρ =>
  match ρ[i]? with
  | some (.own ds) => .ok (.im (.int ds.length)) ρ
  | _ => .bad

/-! ### operators of data -/
def ltB (i j : Int) : Bool := decide (i < j)
def leB (i j : Int) : Bool := decide (i ≤ j)
def eqB (i j : Int) : Bool := decide (i = j)
def opAdd : D → D → Option Rv
  | .int i, .int j => some (.im (.int (i + j)))
  | .lst xs, .lst ys => if xs.length + ys.length ≤ 100000 then some (.own (xs ++ ys)) else none
  | .str x, .str y => if x.length + y.length ≤ 100000 then some (.im (.str (x ++ y))) else none
  | _, _ => none
def opSub : D → D → Option Rv
  | .int i, .int j => some (.im (.int (i - j)))
  | _, _ => none
def opMul : D → D → Option Rv
  | .int i, .int j => if i.natAbs.log2 + j.natAbs.log2 < 1000000 then some (.im (.int (i * j))) else none
  | .lst xs, .int k => if k < 2 ^ 60 ∧ -(2 ^ 60) < k ∧ xs.length * k.toNat ≤ 100000 then some (.own (List.replicate k.toNat xs).flatten) else none
  | _, _ => none
def opDiv : D → D → Option Rv
  | .int i, .int j => if 0 < j ∧ j.natAbs.log2 < 9000 then some (.im (.int (i / j))) else none
  | _, _ => none
def opMod : D → D → Option Rv
  | .int i, .int j => if 0 < j then some (.im (.int (i % j))) else none
  | _, _ => none
def opPow : D → D → Option Rv
  | .int i, .int j => if 0 ≤ j ∧ (Builtin.Int.intBits i : Int) * j ≤ 2 ^ 27 then some (.im (.int (i ^ j.toNat))) else none
  | _, _ => none
def opNeg : D → Option Rv
  | .int i => some (.im (.int (-i)))
  | _ => none
def cLt : D → D → Option Rv
  | .int i, .int j => some (.im (.bl (ltB i j)))
  | _, _ => none
def cLe : D → D → Option Rv
  | .int i, .int j => some (.im (.bl (leB i j)))
  | _, _ => none
def cGt : D → D → Option Rv
  | .int i, .int j => some (.im (.bl (ltB j i)))
  | _, _ => none
def cGe : D → D → Option Rv
  | .int i, .int j => some (.im (.bl (leB j i)))
  | _, _ => none
mutual
def D.py : D → Option PyData
  | .non => some .none
  | .bl b => some (.bool b)
  | .int i => some (.int i)
  | .str x => some (.str x)
  | .lst xs => (pyA xs).map .list
  | .tup xs => (pyA xs).map .tuple
  | .dic _ => none
  | .scr _ => none
  | .ref _ => none
  | .ty _ => none
  | .any => none
  | .exn _ => none
  | .exf _ _ _ => none
def pyA : List D → Option (List PyData)
  | [] => some []
  | x :: xs => (D.py x).bind fun a => (pyA xs).map (a :: ·)
end
def eqD (x y : D) : Option Bool :=
  match x.py, y.py with
  | some a, some b => if SeqAt.shaped a = true ∧ SeqAt.shaped b = true then some (PyData.eqv a b) else none
  | _, _ => none
def cEq (x y : D) : Option Rv := (eqD x y).map fun b => .im (.bl b)
def cNe (x y : D) : Option Rv := (eqD x y).map fun b => .im (.bl (!b))
def isNonD : D → Bool
  | .non => true
  | _ => false
def cIsN (x y : D) : Option Rv :=
  match y with
  | .non => some (.im (.bl (isNonD x)))
  | _ => none
def cIsNotN (x y : D) : Option Rv :=
  match y with
  | .non => some (.im (.bl (!isNonD x)))
  | _ => none
/-- x is True, x is not True: of truths -/
def cIsB : D → D → Option Rv
  | .bl a, .bl b => some (.im (.bl (decide (a = b))))
  | _, _ => none
def cIsNotB : D → D → Option Rv
  | .bl a, .bl b => some (.im (.bl (!decide (a = b))))
  | _, _ => none
def ixD : D → D → Option Rv
  | .lst xs, .int k => (atI xs k).map .im
  | .tup xs, .int k => (atI xs k).map .im
  | .scr ns, .int k => (atI ns k).map fun n => .im (.int n)
  | .str z, .int k => if z.length ≤ 100000 then (atI z.cps.toList k).map fun c => .im (.str ⟨#[c]⟩) else none
  | _, _ => none
def bLen : List D → Option Rv
  | [.lst xs] => some (.im (.int xs.length))
  | [.tup xs] => some (.im (.int xs.length))
  | [.scr ns] => some (.im (.int ns.length))
  | _ => none
def bMax2 : List D → Option Rv
  | [.int i, .int j] => some (.im (.int (if j > i then j else i)))
  | _ => none
def bMin2 : List D → Option Rv
  | [.int i, .int j] => some (.im (.int (if j < i then j else i)))
  | _ => none
def bList : List D → Option Rv
  | [.lst xs] => some (.own xs)
  | [.tup xs] => some (.own xs)
  | _ => none

/-! ### what they say -/
section
variable {K : PySem.W.Frag} {W : WX} {ta tb tc : TE} {fa fb fc : Env → R Rv} {t u : TT} {ft fu : Env → R Bool}
theorem DE.c {v : V} {d : D} (h : ∀ B, Is K B v d) : DE K W (tC v) (eC d) := fun _ _ _ B H σ ρ Q I p => p B H v (Same.refl B) I (h B)
theorem de_int {i : Int} : DE K W (tC (.int i)) (eC (.int i)) := DE.c fun _ => .int i
theorem de_bl {b : Bool} : DE K W (tC (.bl b)) (eC (.bl b)) := DE.c fun _ => .bl b
theorem de_non : DE K W (tC .non) (eC .non) := DE.c fun _ => .non
theorem de_ty {n : String} : DE K W (tC (.ty n)) (eC (.ty n)) := DE.c fun _ => .ty n
theorem de_str {x : Str} : DE K W (tC (.str x)) (eC (.str x)) := DE.c fun _ => .str x
theorem IV.hide {ks : List Nat} {σ0 : L2.St} {Fm B H : Hp} {σ : L2.St} {ρ : Env} (I : IV K ks σ0 Fm B H σ ρ) (i : Nat) : IV K ks σ0 Fm B H σ (ρ.set i .no) := by
  have sub : ∀ {j : Nat} {x : Sl}, x ≠ .no → (ρ.set i .no)[j]? = some x → ρ[j]? = some x := fun {j x} hx h => by
    by_cases e : i = j
    · subst e
      by_cases hl : i < ρ.length
      · rw [List.getElem?_set_self hl] at h
        exact absurd (Option.some.inj h).symm hx
      · rw [List.getElem?_eq_none (by rw [List.length_set]; omega)] at h
        cases h
    · rw [List.getElem?_set_ne e] at h
      exact h
  exact ⟨I.ex, I.fr, I.fb, by rw [List.length_set]; exact I.len, fun j d h => I.im j d (sub (by intro z; cases z) h), fun j d h => I.own j d (sub (by intro z; cases z) h),
    fun j k ds es a hjk h1 h2 h3 h4 => I.dj j k ds es a hjk (sub (by intro z; cases z) h1) (sub (by intro z; cases z) h2) h3 h4, I.pin, I.bs.see (by intro t z; cases z) (by intro t z; cases z)⟩
/-- the object of a slot, as a thing that is one's own and stands in no slot -/
theorem IV.take {ks : List Nat} {σ0 : L2.St} {Fm B H : Hp} {σ : L2.St} {ρ : Env} (I : IV K ks σ0 Fm B H σ ρ) {i : Nat} {ds : List D} (e : ρ[i]? = some (.own ds)) : ∃ v, σ[i]? = some (some v) ∧ vE K Fm σ B H (ρ.set i .no) v (.own ds) := by
  obtain ⟨a, xs, h1, h2, h3, h4, h5⟩ := I.own i ds e
  refine ⟨.ref a, h1, a, xs, rfl, h2, h3, h4, h5, fun j es h z => ?_, fun j t w h h' f => ?_⟩
  · have hl : i < ρ.length := (List.getElem?_eq_some_iff.mp e).1
    by_cases hij : i = j
    · subst hij
      rw [List.getElem?_set_self hl] at h
      cases h
    rw [List.getElem?_set_ne hij] at h
    exact I.dj i j ds es a hij e h h1 z
  · rcases set_sub h with ⟨_, z, _⟩ | ⟨_, h⟩
    · cases z
    · exact I.bs.bo j i t ds w a h e h' h1 f
theorem set_set_own {ρ : Env} {i : Nat} {x y : Sl} : (ρ.set i x).set i y = ρ.set i y := by rw [List.set_set]
theorem IV.seen {ks : List Nat} {σ0 : L2.St} {Fm B H : Hp} {σ : L2.St} {ρ : Env} (I : IV K ks σ0 Fm B H σ ρ) {i : Nat} {v : V} {d : D} (h1 : σ[i]? = some (some v)) (h : Is K B v d) : IV K ks σ0 Fm B H σ (ρ.set i (.im d)) := by
  have hl : i < σ.length := (List.getElem?_eq_some_iff.mp h1).1
  have sub : ∀ {j : Nat} {ds : List D}, (ρ.set i (.im d))[j]? = some (.own ds) → ρ[j]? = some (.own ds) := fun {j x} h => by
    by_cases e : i = j
    · subst e
      rw [List.getElem?_set_self (by rw [← I.len]; exact hl)] at h
      cases h
    · rw [List.getElem?_set_ne e] at h
      exact h
  refine ⟨I.ex, I.fr, I.fb, by rw [List.length_set]; exact I.len, fun j e hj => ?_, fun j ds hj => I.own j ds (sub hj), fun j k ds es a hjk h1 h2 h3 h4 => I.dj j k ds es a hjk (sub h1) (sub h2) h3 h4, I.pin, I.bs.see (by intro t z; cases z) (by intro t z; cases z)⟩
  by_cases hij : i = j
  · subst hij
    rw [List.getElem?_set_self (by rw [← I.len]; exact hl)] at hj
    cases hj
    exact ⟨v, h1, h⟩
  · rw [List.getElem?_set_ne hij] at hj
    exact I.im j e hj
theorem de_var {i : Nat} : DE K W (tVar i) (eVar i) := fun ks σ0 Fm B H σ ρ Q I p => by
  unfold eVar at p
  cases e : ρ[i]? with
  | none => rw [e] at p; exact p.elim
  | some x =>
    rw [e] at p
    cases x with
    | no => exact p.elim
    | bk t => exact p.elim
    | im d =>
      obtain ⟨v, h1, h2⟩ := I.im i d e
      exact ⟨v, h1, p B H v (Same.refl B) I h2⟩
    | own ds =>
      obtain ⟨v, h1, h2⟩ := I.take e
      obtain ⟨B', s, I', h3⟩ := freeze (I.hide i) h2
      refine ⟨v, h1, p B' H v s ?_ h3⟩
      have I2 := I'.seen h1 h3
      rw [set_set_own] at I2
      exact I2
theorem de_move {i : Nat} : DE K W (tVar i) (eMove i) := fun ks σ0 Fm B H σ ρ Q I p => by
  unfold eMove at p
  cases e : ρ[i]? with
  | none => rw [e] at p; exact p.elim
  | some x =>
    rw [e] at p
    cases x with
    | no => exact p.elim
    | bk t => exact p.elim
    | im d =>
      obtain ⟨v, h1, h2⟩ := I.im i d e
      exact ⟨v, h1, p B H v (Same.refl B) I h2⟩
    | own ds =>
      obtain ⟨v, h1, h2⟩ := I.take e
      exact ⟨v, h1, p B H v (Same.refl B) (I.hide i) h2⟩

/-- an operation on values that stay -/
def OpD (K : PySem.W.Frag) (r : R2) (op : D → D → Option Rv) : Prop := ∀ ks σ0 Fm B H σ ρ x y dx dy rv (Q : VK), IV K ks σ0 Fm B H σ ρ → Is K B x dx → Is K B y dy → op dx dy = some rv →
  (∀ B' H' v, Same B B' → IV K ks σ0 Fm B' H' σ ρ → vE K Fm σ B' H' ρ v rv → Q v H') → r x y H Q
def UnD (K : PySem.W.Frag) (r : V → Hp → VK → Prop) (op : D → Option Rv) : Prop := ∀ ks σ0 Fm B H σ ρ x dx rv (Q : VK), IV K ks σ0 Fm B H σ ρ → Is K B x dx → op dx = some rv →
  (∀ B' H' v, Same B B' → IV K ks σ0 Fm B' H' σ ρ → vE K Fm σ B' H' ρ v rv → Q v H') → r x H Q
def CbD (K : PySem.W.Frag) (r : List V → Hp → VK → Prop) (op : List D → Option Rv) : Prop := ∀ ks σ0 Fm B H σ ρ xs ds rv (Q : VK), IV K ks σ0 Fm B H σ ρ → IsA K B xs ds → op ds = some rv →
  (∀ B' H' v, Same B B' → IV K ks σ0 Fm B' H' σ ρ → vE K Fm σ B' H' ρ v rv → Q v H') → r xs H Q
theorem de_op {r : R2} {op : D → D → Option Rv} (ho : OpD K r op) (ha : DE K W ta fa) (hb : DE K W tb fb) : DE K W (tOp r ta tb) (eOp op fa fb) := fun ks σ0 Fm B H σ ρ Q I p =>
  ha ks σ0 Fm B H σ ρ _ I (PtG.step p fun x ρ1 B1 H1 v s1 I1 v1 p1 => by
    obtain ⟨B2, s2, I2, i2⟩ := freeze I1 v1
    refine hb ks σ0 Fm B2 H1 σ ρ1 _ I2 (PtG.step (p1.mono s2) fun y ρ3 B3 H3 w s3 I3 v3 p3 => ?_)
    obtain ⟨B4, s4, I4, i4⟩ := freeze I3 v3
    cases e : op x.d y.d with
    | none => rw [e] at p3; exact p3.elim
    | some rv =>
      rw [e] at p3
      exact ho ks σ0 Fm B4 H3 σ ρ3 v w x.d y.d rv Q I4 (i2.mono (s3.trans s4)) i4 e fun B' H' z s i k => p3 B' H' z (s4.trans s) i k)
theorem de_un {r : V → Hp → VK → Prop} {op : D → Option Rv} (ho : UnD K r op) (ha : DE K W ta fa) : DE K W (tUn r ta) (eUn op fa) := fun ks σ0 Fm B H σ ρ Q I p =>
  ha ks σ0 Fm B H σ ρ _ I (PtG.step p fun x ρ1 B1 H1 v s1 I1 v1 p1 => by
    obtain ⟨B2, s2, I2, i2⟩ := freeze I1 v1
    cases e : op x.d with
    | none => rw [e] at p1; exact p1.elim
    | some rv =>
      rw [e] at p1
      exact ho ks σ0 Fm B2 H1 σ ρ1 v x.d rv Q I2 i2 e fun B' H' z s i k => p1 B' H' z (s2.trans s) i k)
/-- a truth -/
theorem bl_of {B H Fm : Hp} {σ : L2.St} {ρ : Env} {v : V} {x : Rv} {b : Bool} (h : vE K Fm σ B H ρ v x) (e : asB x.d = some b) : v = .bl b := by
  cases x with
  | im d =>
    cases d with
    | bl c =>
      cases e
      exact Is.blV h
    | _ => cases e
  | own ds => cases e
  | bk t => cases t with
    | deck => cases e
    | pile => cases e
    | mix tp xs => cases tp <;> cases e
    | tree tp xs => cases tp with
      | true => rw [show (Rv.bk (.tree true xs)).d = .tup (trD xs) from trd_t] at e; cases e
      | false => rw [show (Rv.bk (.tree false xs)).d = .lst (trD xs) from trd_f] at e; cases e
theorem dt_of {te : TE} (ha : DE K W te fa) : DT K W (fun σ H Q => te σ H fun x H1 => ∃ c, x = .bl c ∧ Q c H1) (tOf fa) := fun ks σ0 Fm B H σ ρ Q I p =>
  ha ks σ0 Fm B H σ ρ _ I (PtG.step p fun x ρ1 B1 H1 v s1 I1 v1 p1 => by
    cases e : asB x.d with
    | none => rw [e] at p1; exact p1.elim
    | some b =>
      rw [e] at p1
      exact ⟨b, bl_of v1 e, p1 B1 H1 b (Same.refl B1) I1 rfl⟩)
theorem dt_B (ha : DE K W ta fa) : DT K W (tB ta) (tOf fa) := dt_of ha
theorem dt_test (ha : DE K W ta fa) : DT K W (tTest ta) (tOf fa) := dt_of ha
theorem dt_and (ha : DT K W t ft) (hb : DT K W u fu) : DT K W (tAnd t u) (tAndD ft fu) := fun ks σ0 Fm B H σ ρ Q I p =>
  ha ks σ0 Fm B H σ ρ _ I (PtG.step p fun x ρ1 B1 H1 v s1 I1 v1 p1 => by
    cases (show v = x from v1)
    cases x with
    | true => exact hb ks σ0 Fm B1 H1 σ ρ1 Q I1 p1
    | false => exact p1 B1 H1 false (Same.refl B1) I1 rfl)
theorem dt_or (ha : DT K W t ft) (hb : DT K W u fu) : DT K W (tOr t u) (tOrD ft fu) := fun ks σ0 Fm B H σ ρ Q I p =>
  ha ks σ0 Fm B H σ ρ _ I (PtG.step p fun x ρ1 B1 H1 v s1 I1 v1 p1 => by
    cases (show v = x from v1)
    cases x with
    | true => exact p1 B1 H1 true (Same.refl B1) I1 rfl
    | false => exact hb ks σ0 Fm B1 H1 σ ρ1 Q I1 p1)
theorem dt_not (ha : DT K W t ft) : DT K W (tNot t) (tNotD ft) := fun ks σ0 Fm B H σ ρ Q I p =>
  ha ks σ0 Fm B H σ ρ _ I (PtG.step p fun x ρ1 B1 H1 v s1 I1 v1 p1 => by
    cases (show v = x from v1)
    exact p1 B1 H1 _ (Same.refl B1) I1 rfl)
theorem de_and (ha : DE K W ta fa) (hb : DE K W tb fb) : DE K W (tAndV ta tb) (eAnd fa fb) := fun ks σ0 Fm B H σ ρ Q I p =>
  ha ks σ0 Fm B H σ ρ _ I (PtG.step p fun x ρ1 B1 H1 v s1 I1 v1 p1 => by
    cases e : asB x.d with
    | none => rw [e] at p1; exact p1.elim
    | some b =>
      rw [e] at p1
      refine ⟨b, bl_of v1 e, ?_⟩
      cases b with
      | true => exact hb ks σ0 Fm B1 H1 σ ρ1 Q I1 p1
      | false => exact p1 B1 H1 _ (Same.refl B1) I1 (Is.bl false))
theorem de_or (ha : DE K W ta fa) (hb : DE K W tb fb) : DE K W (tOrV ta tb) (eOr fa fb) := fun ks σ0 Fm B H σ ρ Q I p =>
  ha ks σ0 Fm B H σ ρ _ I (PtG.step p fun x ρ1 B1 H1 v s1 I1 v1 p1 => by
    cases e : asB x.d with
    | none => rw [e] at p1; exact p1.elim
    | some b =>
      rw [e] at p1
      refine ⟨b, bl_of v1 e, ?_⟩
      cases b with
      | true => exact p1 B1 H1 _ (Same.refl B1) I1 (Is.bl true)
      | false => exact hb ks σ0 Fm B1 H1 σ ρ1 Q I1 p1)
theorem de_not (ha : DE K W ta fa) : DE K W (tNotV ta) (eNot fa) := fun ks σ0 Fm B H σ ρ Q I p =>
  ha ks σ0 Fm B H σ ρ _ I (PtG.step p fun x ρ1 B1 H1 v s1 I1 v1 p1 => by
    cases e : asB x.d with
    | none => rw [e] at p1; exact p1.elim
    | some b =>
      rw [e] at p1
      exact ⟨b, bl_of v1 e, p1 B1 H1 _ (Same.refl B1) I1 (Is.bl _)⟩)
theorem de_if (ht : DT K W t ft) (ha : DE K W ta fa) (hb : DE K W tb fb) : DE K W (tIf t ta tb) (eIf ft fa fb) := fun ks σ0 Fm B H σ ρ Q I p =>
  ht ks σ0 Fm B H σ ρ _ I (PtG.step p fun x ρ1 B1 H1 v s1 I1 v1 p1 => by
    cases (show v = x from v1)
    cases x with
    | true => exact ha ks σ0 Fm B1 H1 σ ρ1 Q I1 p1
    | false => exact hb ks σ0 Fm B1 H1 σ ρ1 Q I1 p1)
theorem de_chain {r r' : R2} {op op' : D → D → Option Rv} (ho : OpD K r op) (ho' : OpD K r' op') (ha : DE K W ta fa) (hb : DE K W tb fb) (hc : DE K W tc fc) : DE K W (tChain r r' ta tb tc) (eChain op op' fa fb fc) := fun ks σ0 Fm B H σ ρ Q I p =>
  ha ks σ0 Fm B H σ ρ _ I (PtG.step p fun x ρ1 B1 H1 v s1 I1 v1 p1 => by
    obtain ⟨B2, s2, I2, i2⟩ := freeze I1 v1
    refine hb ks σ0 Fm B2 H1 σ ρ1 _ I2 (PtG.step (p1.mono s2) fun y ρ3 B3 H3 w s3 I3 v3 p3 => ?_)
    obtain ⟨B4, s4, I4, i4⟩ := freeze I3 v3
    cases e : op x.d y.d with
    | none => rw [e] at p3; exact p3.elim
    | some rv =>
      rw [e] at p3
      refine ho ks σ0 Fm B4 H3 σ ρ3 v w x.d y.d rv _ I4 (i2.mono (s3.trans s4)) i4 e fun B5 H5 z s5 I5 k5 => ?_
      have p4 : PtG K ks σ0 Fm W (vE K Fm σ) B5 σ Q ((lift (asB rv.d) ρ3).bind fun k ρ => cond k ((fc ρ).bind fun w ρ => lift (op' y.d w.d) ρ) (.ok (.im (.bl false)) ρ)) := PtG.mono p3 (s4.trans s5)
      cases e5 : asB rv.d with
      | none => rw [e5] at p4; exact p4.elim
      | some b =>
        rw [e5] at p4
        refine ⟨b, bl_of k5 e5, ?_⟩
        cases b with
        | true =>
          refine hc ks σ0 Fm B5 H5 σ ρ3 _ I5 (PtG.step p4 fun z1 ρ6 B6 H6 w6 s6 I6 v6 p6 => ?_)
          obtain ⟨B7, s7, I7, i7⟩ := freeze I6 v6
          cases e7 : op' y.d z1.d with
          | none => rw [e7] at p6; exact p6.elim
          | some rv7 =>
            rw [e7] at p6
            exact ho' ks σ0 Fm B7 H6 σ ρ6 w w6 y.d z1.d rv7 Q I7 (i4.mono ((s5.trans s6).trans s7)) i7 e7 fun B' H' z s i k => p6 B' H' z (s7.trans s) i k
        | false => exact p4 B5 H5 _ (Same.refl B5) I5 (Is.bl false))
variable {tr : TA} {fr : Env → R (List Av)}
theorem da_nil : DA K W tNil aNil := fun ks σ0 Fm B H σ ρ Q I p => p B H [] (Same.refl B) I Paired.nil
theorem argIs_mono {σ : L2.St} {B B' H H' : Hp} {ρ ρ' : Env} (e : Same B B') : ∀ {vs : List V} {as : List Av}, ArgIs K σ B H ρ vs as → ArgIs K σ B' H' ρ' vs as
  | _, _, .nil => .nil
  | _, _, .cons (b := a) h t => .cons (match a, h with | .im d, h => Is.mono e h | .sl i, h => h) (argIs_mono (H := H) (H' := H') (ρ := ρ) (ρ' := ρ') e t)
theorem da_cons (ha : DE K W ta fa) (hr : DA K W tr fr) : DA K W (tCons ta tr) (aCons fa fr) := fun ks σ0 Fm B H σ ρ Q I p =>
  ha ks σ0 Fm B H σ ρ _ I (PtG.step p fun x ρ1 B1 H1 v s1 I1 v1 p1 => by
    obtain ⟨B2, s2, I2, i2⟩ := freeze I1 v1
    refine hr ks σ0 Fm B2 H1 σ ρ1 _ I2 (PtG.step (p1.mono s2) fun xs ρ3 B3 H3 vs s3 I3 v3 p3 => ?_)
    exact p3 B3 H3 _ (Same.refl B3) I3 (.cons (i2.mono s3) v3))
theorem da_slot {i : Nat} (hr : DA K W tr fr) : DA K W (tCons (tVar i) tr) (aSlot i fr) := fun ks σ0 Fm B H σ ρ Q I p => by
  unfold aSlot at p
  cases e : ρ[i]? with
  | none => rw [e] at p; exact p.elim
  | some x =>
    rw [e] at p
    cases x with
    | no => exact p.elim
    | im d => exact p.elim
    | own ds =>
      obtain ⟨a, xs, h1, _⟩ := I.own i ds e
      refine ⟨.ref a, h1, hr ks σ0 Fm B H σ ρ _ I (PtG.step p fun xs ρ3 B3 H3 vs s3 I3 v3 p3 => ?_)⟩
      exact p3 B3 H3 _ (Same.refl B3) I3 (.cons h1 v3)
    | bk t =>
      obtain ⟨v, h1, _⟩ := I.bs.bk i t e
      refine ⟨v, h1, hr ks σ0 Fm B H σ ρ _ I (PtG.step p fun xs ρ3 B3 H3 vs s3 I3 v3 p3 => ?_)⟩
      exact p3 B3 H3 _ (Same.refl B3) I3 (.cons h1 v3)
theorem ims_is {σ : L2.St} {B H : Hp} {ρ : Env} : ∀ {as : List Av} {vs : List V} {ds : List D}, ArgIs K σ B H ρ vs as → ims as = some ds → IsA K B vs ds
  | [], _, _, .nil, e => by
    cases e
    exact .nil
  | .im d :: r, _, ds, .cons h t, e => by
    cases q : ims r with
    | none =>
      rw [show ims (.im d :: r) = (ims r).map (d :: ·) from rfl, q] at e
      cases e
    | some es =>
      rw [show ims (.im d :: r) = (ims r).map (d :: ·) from rfl, q] at e
      cases e
      exact .cons h (ims_is (H := H) (ρ := ρ) t q)
  | .sl i :: r, _, _, _, e => by cases e
theorem de_lst (ha : DA K W tr fr) : DE K W (tLst tr) (eLst fr) := fun ks σ0 Fm B H σ ρ Q I p =>
  ha ks σ0 Fm B H σ ρ _ I (PtG.step p fun as ρ1 B1 H1 vs s1 I1 v1 p1 => by
    cases e : ims as with
    | none => rw [e] at p1; exact p1.elim
    | some ds =>
      rw [e] at p1
      have p2 : PtG K ks σ0 Fm W (vE K Fm σ) B1 σ Q (cond (Nat.ble ds.length 100000) (.ok (.own ds) ρ1) .bad) := p1
      have k := ims_is v1 e
      cases hb : Nat.ble ds.length 100000 with
      | true =>
        rw [hb] at p2
        exact ⟨by rw [k.len]; exact sz_of (Nat.le_of_ble_eq_true hb), fun q hq => p2 B1 _ _ (Same.refl B1) (I1.made hq) (I1.madeV hq k)⟩
      | false =>
        rw [hb] at p2
        exact p2.elim)
theorem de_tup (ha : DA K W tr fr) : DE K W (tTup tr) (eTup fr) := fun ks σ0 Fm B H σ ρ Q I p =>
  ha ks σ0 Fm B H σ ρ _ I (PtG.step p fun as ρ1 B1 H1 vs s1 I1 v1 p1 => by
    cases e : ims as with
    | none => rw [e] at p1; exact p1.elim
    | some ds =>
      rw [e] at p1
      have p2 : PtG K ks σ0 Fm W (vE K Fm σ) B1 σ Q (cond (Nat.ble ds.length 100000) (.ok (.im (.tup ds)) ρ1) .bad) := p1
      have k := ims_is v1 e
      cases hb : Nat.ble ds.length 100000 with
      | true =>
        rw [hb] at p2
        refine ⟨by rw [k.len]; exact sz_of (Nat.le_of_ble_eq_true hb), fun q hq => ?_⟩
        have s := same_upd (o := .tup vs) (I1.ex.free hq)
        exact p2 _ _ _ s (I1.laid hq) (.tup upd_same (k.mono s))
      | false =>
        rw [hb] at p2
        exact p2.elim)
theorem de_cb {r : List V → Hp → VK → Prop} {op : List D → Option Rv} (ho : CbD K r op) (ha : DA K W tr fr) : DE K W (tCB r tr) (eCB op fr) := fun ks σ0 Fm B H σ ρ Q I p =>
  ha ks σ0 Fm B H σ ρ _ I (PtG.step p fun as ρ1 B1 H1 vs s1 I1 v1 p1 => by
    cases e : ims as with
    | none => rw [e] at p1; exact p1.elim
    | some ds =>
      rw [e] at p1
      have p2 : PtG K ks σ0 Fm W (vE K Fm σ) B1 σ Q (lift (op ds) ρ1) := p1
      cases e2 : op ds with
      | none => rw [e2] at p2; exact p2.elim
      | some rv =>
        rw [e2] at p2
        exact ho ks σ0 Fm B1 H1 σ ρ1 vs ds rv Q I1 (ims_is v1 e) e2 fun B' H' z s i k => p2 B' H' z s i k)
theorem do_none : DO K W tNoPart oNone := fun ks σ0 Fm B H σ ρ Q I p => p B H none (Same.refl B) I rfl
theorem int_of {B H Fm : Hp} {σ : L2.St} {ρ : Env} {v : V} {x : Rv} {b : Int} (h : vE K Fm σ B H ρ v x) (e : asI x.d = some b) : v = .int b := by
  cases x with
  | im d =>
    cases d with
    | int c =>
      cases e
      exact Is.intV h
    | _ => cases e
  | own ds => cases e
  | bk t => cases t with
    | deck => cases e
    | pile => cases e
    | mix tp xs => cases tp <;> cases e
    | tree tp xs => cases tp with
      | true => rw [show (Rv.bk (.tree true xs)).d = .tup (trD xs) from trd_t] at e; cases e
      | false => rw [show (Rv.bk (.tree false xs)).d = .lst (trD xs) from trd_f] at e; cases e
theorem do_some (ha : DE K W ta fa) : DO K W (tPart ta) (oSome fa) := fun ks σ0 Fm B H σ ρ Q I p =>
  ha ks σ0 Fm B H σ ρ _ I (PtG.step p fun x ρ1 B1 H1 v s1 I1 v1 p1 => by
    cases e : asI x.d with
    | none => rw [e] at p1; exact p1.elim
    | some b =>
      rw [e] at p1
      exact ⟨b, int_of v1 e, p1 B1 H1 _ (Same.refl B1) I1 rfl⟩)
theorem cut_is {B : Hp} {xs : List V} {ds : List D} (h : IsA K B xs ds) (lo hi : Option Int) : IsA K B (cutV xs lo hi) (cutD ds lo hi) := by
  unfold cutV cutD
  rw [h.len]
  exact (h.drop _).take _
variable {tl th : TO} {fl fh : Env → R (Option Int)}
theorem de_sl (ha : DE K W ta fa) (hl : DO K W tl fl) (hh : DO K W th fh) : DE K W (L2.tSl (rSlL K) ta tl th) (eSl fa fl fh) := fun ks σ0 Fm B H σ ρ Q I p =>
  ha ks σ0 Fm B H σ ρ _ I (PtG.step p fun x ρ1 B1 H1 v s1 I1 v1 p1 => by
    obtain ⟨B2, s2, I2, i2⟩ := freeze I1 v1
    refine hl ks σ0 Fm B2 H1 σ ρ1 _ I2 (PtG.step (p1.mono s2) fun y ρ3 B3 H3 w s3 I3 v3 p3 => ?_)
    refine hh ks σ0 Fm B3 H3 σ ρ3 _ I3 (PtG.step p3 fun z ρ4 B4 H4 w4 s4 I4 v4 p4 => ?_)
    cases (show w = y from v3)
    cases (show w4 = z from v4)
    have i4 := i2.mono (s3.trans s4)
    cases e : x.d with
    | lst ds =>
      rw [e] at p4 i4
      obtain ⟨a, xs, rfl, ha, k⟩ := i4.lstV
      exact ⟨a, xs, rfl, .inl (.inl (I4.ex _ _ ha)), fun q hq => p4 B4 _ _ (Same.refl B4) (I4.made hq) (I4.madeV hq (cut_is k _ _))⟩
    | _ => rw [e] at p4; exact p4.elim)
theorem de_slO {i : Nat} (hl : DO K W tl fl) (hh : DO K W th fh) : DE K W (L2.tSl (rSlL K) (tVar i) tl th) (eSlO i fl fh) := fun ks σ0 Fm B H σ ρ Q I p => by
  unfold eSlO at p
  cases e : ρ[i]? with
  | none => rw [e] at p; exact p.elim
  | some x =>
    rw [e] at p
    cases x with
    | no => exact p.elim
    | bk t => exact p.elim
    | im d => exact p.elim
    | own ds =>
      obtain ⟨a, xs, h1, _⟩ := I.own i ds e
      refine ⟨.ref a, h1, hl ks σ0 Fm B H σ ρ _ I (PtG.step p fun y ρ3 B3 H3 w s3 I3 v3 p3 => ?_)⟩
      refine hh ks σ0 Fm B3 H3 σ ρ3 _ I3 (PtG.step p3 fun z ρ4 B4 H4 w4 s4 I4 v4 p4 => ?_)
      cases (show w = y from v3)
      cases (show w4 = z from v4)
      cases e4 : ρ4[i]? with
      | none => rw [e4] at p4; exact p4.elim
      | some x4 =>
        rw [e4] at p4
        cases x4 with
        | no => exact p4.elim
        | bk t => exact p4.elim
        | im d => exact p4.elim
        | own es =>
          obtain ⟨b, ys, g1, g2, g3, g4, g5⟩ := I4.own i es e4
          rw [h1] at g1
          cases g1
          exact ⟨a, ys, rfl, .inl (.inl g2), fun q hq => p4 B4 _ _ (Same.refl B4) (I4.made hq) (I4.madeV hq (cut_is g5 _ _))⟩
theorem atI_is {B : Hp} {xs : List V} {ds : List D} {k : Int} {d : D} (h : IsA K B xs ds) (e : atI ds k = some d) : ∃ v, atI xs k = some v ∧ Is K B v d := by
  unfold atI at e ⊢
  rw [h.len]
  cases q : ixN ds.length k with
  | none => rw [q] at e; cases e
  | some j =>
    rw [q] at e
    exact h.get e
theorem de_ixO {i : Nat} (hb : DE K W tb fb) : DE K W (tOp (rIx K) (tVar i) tb) (eIxO i fb) := fun ks σ0 Fm B H σ ρ Q I p => by
  unfold eIxO at p
  cases e : ρ[i]? with
  | none => rw [e] at p; exact p.elim
  | some x =>
    rw [e] at p
    cases x with
    | no => exact p.elim
    | bk t => exact p.elim
    | im d => exact p.elim
    | own ds =>
      obtain ⟨a, xs, h1, _⟩ := I.own i ds e
      refine ⟨.ref a, h1, hb ks σ0 Fm B H σ ρ _ I (PtG.step p fun y ρ3 B3 H3 w s3 I3 v3 p3 => ?_)⟩
      cases e4 : ρ3[i]? with
      | none => rw [e4] at p3; exact p3.elim
      | some x4 =>
        rw [e4] at p3
        cases x4 with
        | no => exact p3.elim
        | bk t => exact p3.elim
        | im d => exact p3.elim
        | own es =>
          obtain ⟨b, ys, g1, g2, g3, g4, g5⟩ := I3.own i es e4
          rw [h1] at g1
          cases g1
          cases e5 : y.d with
          | int k =>
            rw [e5] at p3
            dsimp only at p3
            cases e6 : atI es k with
            | none => rw [e6] at p3; exact p3.elim
            | some d =>
              rw [e6] at p3
              obtain ⟨v, hv, iv⟩ := atI_is g5 e6
              have ew : w = .int k := int_of v3 (by rw [e5]; rfl)
              exact .inl ⟨a, ys, k, v, rfl, ew, .inl (.inl g2), hv, p3 B3 H3 v (Same.refl B3) I3 iv⟩
          | _ => rw [e5] at p3; exact p3.elim
theorem de_lenO {i : Nat} : DE K W (tCB (fun xs H Q => ∃ p ys, xs = [.ref p] ∧ (SqL K H p ys ∨ SqT K H p ys) ∧ Q (.int ys.length) H) (tCons (tVar i) tNil)) (eLenO i) := fun ks σ0 Fm B H σ ρ Q I p => by
  unfold eLenO at p
  cases e : ρ[i]? with
  | none => rw [e] at p; exact p.elim
  | some x =>
    rw [e] at p
    cases x with
    | no => exact p.elim
    | bk t => exact p.elim
    | im d => exact p.elim
    | own ds =>
      obtain ⟨a, xs, h1, h2, h3, h4, h5⟩ := I.own i ds e
      refine ⟨.ref a, h1, a, xs, rfl, .inl (.inl (.inl h2)), p B H _ (Same.refl B) I ?_⟩
      rw [h5.len]
      exact Is.int _
end
end DL

/-! DL, part c: the operators and built-ins. -/
namespace DL
open PySem PySem.Spec PyProof.Rows L2

section
variable {X : Cx}
def rAddD : R2 := fun x y H Q => rI0 (fun i j => .int (i + j)) x y H Q ∨ (rCat x y H Q ∨ ∃ i j, x = .str i ∧ y = .str j ∧ i.length + j.length ≤ sizeLine ∧ Q (.str (i ++ j)) H)
theorem op_addD : OpR X (binaryOp .Add) rAddD := OpR.or op_add (OpR.or op_cat op_add_str)
def rMulD : R2 := fun x y H Q => rI CMulW (fun i j => .int (i * j)) x y H Q ∨ rRep x y H Q
theorem op_mulD : OpR X (binaryOp .Mult) rMulD := OpR.or op_mulW op_rep
def CPowW (i j : Int) : Prop := 0 ≤ j ∧ (Builtin.Int.intBits i : Int) * j ≤ 2 ^ 27
theorem op_powW : OpR X (binaryOp .Pow) (rI CPowW fun i j => .int (i ^ j.toNat)) := opI fun _ _ _ _ _ _ _ hc q => pow_int hc.1 hc.2 q
def rIsBD : R2 := fun x y H Q => ∃ a b, x = .bl a ∧ y = .bl b ∧ Q (.bl (decide (a = b))) H
def rIsNotBD : R2 := fun x y H Q => ∃ a b, x = .bl a ∧ y = .bl b ∧ Q (.bl (!decide (a = b))) H
def rIsND : R2 := fun x y H Q => y = .non ∧ Q (.bl (decide (x = .non))) H
def rIsNotND : R2 := fun x y H Q => y = .non ∧ Q (.bl (!decide (x = .non))) H
theorem op_isND : OpR X (compareOp .Is) rIsND := op_isN
theorem op_isNotND : OpR X (compareOp .IsNot) rIsNotND := op_notN
end

section
variable {K : PySem.W.Frag}
theorem od_I {C : Int → Int → Prop} {g : Int → Int → V} {op : D → D → Option Rv} (h : ∀ dx dy rv, op dx dy = some rv → ∃ i j d, dx = .int i ∧ dy = .int j ∧ C i j ∧ rv = .im d ∧ ∀ B, Is K B (g i j) d) : OpD K (rI C g) op := by
  intro ks σ0 Fm B H σ ρ x y dx dy rv Q I hx hy e q
  obtain ⟨i, j, d, rfl, rfl, c, rfl, k⟩ := h dx dy rv e
  exact ⟨i, j, hx.intV, hy.intV, c, q B H _ (Same.refl B) I (k B)⟩
theorem od_I0 {g : Int → Int → V} {op : D → D → Option Rv} (h : ∀ dx dy rv, op dx dy = some rv → ∃ i j d, dx = .int i ∧ dy = .int j ∧ rv = .im d ∧ ∀ B, Is K B (g i j) d) : OpD K (rI0 g) op := by
  intro ks σ0 Fm B H σ ρ x y dx dy rv Q I hx hy e q
  obtain ⟨i, j, d, rfl, rfl, rfl, k⟩ := h dx dy rv e
  exact ⟨i, j, hx.intV, hy.intV, q B H _ (Same.refl B) I (k B)⟩
theorem od_add : OpD K rAddD opAdd := by
  intro ks σ0 Fm B H σ ρ x y dx dy rv Q I hx hy e q
  unfold opAdd at e
  split at e
  · rename_i i j
    cases e
    exact .inl ⟨i, j, hx.intV, hy.intV, q B H _ (Same.refl B) I (.int _)⟩
  · rename_i ds es
    by_cases hl : ds.length + es.length ≤ 100000
    · rw [if_pos hl] at e
      cases e
      obtain ⟨a, xs, rfl, ha, k⟩ := hx.lstV
      obtain ⟨b, ys, rfl, hb, k2⟩ := hy.lstV
      exact .inr (.inl ⟨a, b, xs, ys, rfl, rfl, I.ex _ _ ha, I.ex _ _ hb, by rw [k.len, k2.len]; exact sz_of hl, fun p hp => q B _ _ (Same.refl B) (I.made hp) (I.madeV hp (k.app k2))⟩)
    · rw [if_neg hl] at e
      cases e
  · rename_i s t
    by_cases hl : s.length + t.length ≤ 100000
    · rw [if_pos hl] at e
      cases e
      exact .inr (.inr ⟨s, t, hx.strV, hy.strV, sz_of hl, q B H _ (Same.refl B) I (.str _)⟩)
    · rw [if_neg hl] at e
      cases e
  · cases e
theorem od_sub : OpD K (rI0 fun i j => .int (i - j)) opSub := od_I0 fun dx dy rv e => by
  unfold opSub at e
  split at e
  · cases e
    exact ⟨_, _, _, rfl, rfl, rfl, fun B => .int _⟩
  · cases e
theorem od_mul : OpD K rMulD opMul := by
  intro ks σ0 Fm B H σ ρ x y dx dy rv Q I hx hy e q
  unfold opMul at e
  split at e
  · rename_i i j
    by_cases hl : i.natAbs.log2 + j.natAbs.log2 < 1000000
    · rw [if_pos hl] at e
      cases e
      exact .inl ⟨i, j, hx.intV, hy.intV, hl, q B H _ (Same.refl B) I (.int _)⟩
    · rw [if_neg hl] at e
      cases e
  · rename_i ds k
    by_cases hl : k < 2 ^ 60 ∧ -(2 ^ 60) < k ∧ ds.length * k.toNat ≤ 100000
    · rw [if_pos hl] at e
      cases e
      obtain ⟨a, xs, rfl, ha, kk⟩ := hx.lstV
      exact .inr ⟨a, k, xs, rfl, hy.intV, I.ex _ _ ha, by omega, by omega, by rw [kk.len]; exact sz_of hl.2.2, fun p hp => q B _ _ (Same.refl B) (I.made hp) (I.madeV hp (kk.rep _))⟩
    · rw [if_neg hl] at e
      cases e
  · cases e
theorem od_div : OpD K (rI CDivW fun i j => .int (i / j)) opDiv := od_I fun dx dy rv e => by
  unfold opDiv at e
  split at e
  · rename_i i j
    by_cases hl : 0 < j ∧ j.natAbs.log2 < 9000
    · rw [if_pos hl] at e
      cases e
      exact ⟨_, _, _, rfl, rfl, hl, rfl, fun B => .int _⟩
    · rw [if_neg hl] at e
      cases e
  · cases e
theorem od_mod : OpD K (rI (fun _ j => 0 < j) fun i j => .int (i % j)) opMod := od_I fun dx dy rv e => by
  unfold opMod at e
  split at e
  · rename_i i j
    by_cases hl : 0 < j
    · rw [if_pos hl] at e
      cases e
      exact ⟨_, _, _, rfl, rfl, hl, rfl, fun B => .int _⟩
    · rw [if_neg hl] at e
      cases e
  · cases e
theorem od_pow : OpD K (rI CPowW fun i j => .int (i ^ j.toNat)) opPow := od_I fun dx dy rv e => by
  unfold opPow at e
  split at e
  · rename_i i j
    by_cases hl : 0 ≤ j ∧ (Builtin.Int.intBits i : Int) * j ≤ 2 ^ 27
    · rw [if_pos hl] at e
      cases e
      exact ⟨_, _, _, rfl, rfl, hl, rfl, fun B => .int _⟩
    · rw [if_neg hl] at e
      cases e
  · cases e
theorem ud_neg : UnD K (rU fun i => .int (-i)) opNeg := by
  intro ks σ0 Fm B H σ ρ x dx rv Q I hx e q
  unfold opNeg at e
  split at e
  · cases e
    exact ⟨_, hx.intV, q B H _ (Same.refl B) I (.int _)⟩
  · cases e
theorem od_lt : OpD K (rI0 fun i j => .bl (decide (i < j))) cLt := od_I0 fun dx dy rv e => by
  unfold cLt at e
  split at e
  · cases e
    exact ⟨_, _, _, rfl, rfl, rfl, fun B => .bl _⟩
  · cases e
theorem od_le : OpD K (rI0 fun i j => .bl (decide (i ≤ j))) cLe := od_I0 fun dx dy rv e => by
  unfold cLe at e
  split at e
  · cases e
    exact ⟨_, _, _, rfl, rfl, rfl, fun B => .bl _⟩
  · cases e
theorem od_gt : OpD K (rI0 fun i j => .bl (decide (j < i))) cGt := od_I0 fun dx dy rv e => by
  unfold cGt at e
  split at e
  · cases e
    exact ⟨_, _, _, rfl, rfl, rfl, fun B => .bl _⟩
  · cases e
theorem od_ge : OpD K (rI0 fun i j => .bl (decide (j ≤ i))) cGe := od_I0 fun dx dy rv e => by
  unfold cGe at e
  split at e
  · cases e
    exact ⟨_, _, _, rfl, rfl, rfl, fun B => .bl _⟩
  · cases e
mutual
theorem Is.dp {B : Hp} : ∀ {v : V} {d : D} {p : PyData}, Is K B v d → d.py = some p → Dp K B v p
  | _, _, _, .non, e => by cases e; exact .non
  | _, _, _, .bl b, e => by cases e; exact .bl b
  | _, _, _, .int b, e => by cases e; exact .int b
  | _, _, _, .str b, e => by cases e; exact .str b
  | _, .lst ds, _, .lst h k, e => by
    cases q : pyA ds with
    | none =>
      rw [show D.py (.lst ds) = (pyA ds).map .list by rw [D.py], q] at e
      cases e
    | some ps =>
      rw [show D.py (.lst ds) = (pyA ds).map .list by rw [D.py], q] at e
      cases e
      exact .lst (.inl (.inl h)) (IsA.dp k q)
  | _, .tup ds, _, .tup h k, e => by
    cases q : pyA ds with
    | none =>
      rw [show D.py (.tup ds) = (pyA ds).map .tuple by rw [D.py], q] at e
      cases e
    | some ps =>
      rw [show D.py (.tup ds) = (pyA ds).map .tuple by rw [D.py], q] at e
      cases e
      exact .tup (.inl (.inl h)) (IsA.dp k q)
  | _, _, _, .dic h k, e => by rw [D.py] at e; cases e
  | _, _, _, .scr h, e => by rw [D.py] at e; cases e
  | _, _, _, .ref a, e => by rw [D.py] at e; cases e
  | _, _, _, .ty a, e => by rw [D.py] at e; cases e
  | _, _, _, .exn h _, e => by rw [D.py] at e; cases e
  | _, _, _, .exf h _ _, e => by rw [D.py] at e; cases e
theorem IsA.dp {B : Hp} : ∀ {vs : List V} {ds : List D} {ps : List PyData}, IsA K B vs ds → pyA ds = some ps → DpAll K B vs ps
  | _, _, _, .nil, e => by cases e; exact .nil
  | _, d :: ds, _, .cons h k, e => by
    rw [pyA] at e
    cases q : d.py with
    | none => rw [q] at e; cases e
    | some p =>
      rw [q] at e
      cases q2 : pyA ds with
      | none => rw [q2] at e; cases e
      | some ps =>
        rw [q2] at e
        cases e
        exact .cons (Is.dp h q) (IsA.dp k q2)
end
theorem eqD_of {dx dy : D} {b : Bool} (e : eqD dx dy = some b) : ∃ p q, dx.py = some p ∧ dy.py = some q ∧ SeqAt.shaped p = true ∧ SeqAt.shaped q = true ∧ b = PyData.eqv p q := by
  unfold eqD at e
  split at e
  · rename_i p q e1 e2
    by_cases hs : SeqAt.shaped p = true ∧ SeqAt.shaped q = true
    · rw [if_pos hs] at e
      cases e
      exact ⟨p, q, e1, e2, hs.1, hs.2, rfl⟩
    · rw [if_neg hs] at e
      cases e
  · cases e
theorem od_eq : OpD K (rEqD K) cEq := by
  intro ks σ0 Fm B H σ ρ x y dx dy rv Q I hx hy e q
  unfold cEq at e
  cases e1 : eqD dx dy with
  | none => rw [e1] at e; cases e
  | some b =>
    rw [e1] at e
    cases e
    obtain ⟨p, r, h1, h2, s1, s2, rfl⟩ := eqD_of e1
    exact ⟨p, r, (hx.mono I.ex).dp h1, (hy.mono I.ex).dp h2, s1, s2, q B H _ (Same.refl B) I (.bl _)⟩
theorem od_ne : OpD K (rNeD K) cNe := by
  intro ks σ0 Fm B H σ ρ x y dx dy rv Q I hx hy e q
  unfold cNe at e
  cases e1 : eqD dx dy with
  | none => rw [e1] at e; cases e
  | some b =>
    rw [e1] at e
    cases e
    obtain ⟨p, r, h1, h2, s1, s2, rfl⟩ := eqD_of e1
    exact ⟨p, r, (hx.mono I.ex).dp h1, (hy.mono I.ex).dp h2, s1, s2, q B H _ (Same.refl B) I (.bl _)⟩
theorem isNon_of {B : Hp} {v : V} {d : D} (h : Is K B v d) : decide (v = .non) = isNonD d := by
  cases h <;> rfl
theorem od_isN : OpD K rIsND cIsN := by
  intro ks σ0 Fm B H σ ρ x y dx dy rv Q I hx hy e q
  unfold cIsN at e
  split at e
  · cases e
    refine ⟨hy.nonV, ?_⟩
    rw [isNon_of hx]
    exact q B H _ (Same.refl B) I (.bl _)
  · cases e
theorem od_isNotN : OpD K rIsNotND cIsNotN := by
  intro ks σ0 Fm B H σ ρ x y dx dy rv Q I hx hy e q
  unfold cIsNotN at e
  split at e
  · cases e
    refine ⟨hy.nonV, ?_⟩
    rw [isNon_of hx]
    exact q B H _ (Same.refl B) I (.bl _)
  · cases e
theorem od_isB : OpD K rIsBD cIsB := by
  intro ks σ0 Fm B H σ ρ x y dx dy rv Q I hx hy e q
  unfold cIsB at e
  split at e
  · cases e
    exact ⟨_, _, hx.blV, hy.blV, q B H _ (Same.refl B) I (.bl _)⟩
  · cases e
theorem od_isNotB : OpD K rIsNotBD cIsNotB := by
  intro ks σ0 Fm B H σ ρ x y dx dy rv Q I hx hy e q
  unfold cIsNotB at e
  split at e
  · cases e
    exact ⟨_, _, hx.blV, hy.blV, q B H _ (Same.refl B) I (.bl _)⟩
  · cases e
theorem od_ix : OpD K (rIx K) ixD := by
  intro ks σ0 Fm B H σ ρ x y dx dy rv Q I hx hy e q
  unfold ixD at e
  split at e
  · rename_i ds k
    cases e1 : atI ds k with
    | none => rw [e1] at e; cases e
    | some d =>
      rw [e1] at e
      cases e
      obtain ⟨a, xs, rfl, ha, kk⟩ := hx.lstV
      obtain ⟨v, hv, iv⟩ := atI_is kk e1
      exact .inl ⟨a, xs, k, v, rfl, hy.intV, .inl (.inl (I.ex _ _ ha)), hv, q B H v (Same.refl B) I iv⟩
  · rename_i ds k
    cases e1 : atI ds k with
    | none => rw [e1] at e; cases e
    | some d =>
      rw [e1] at e
      cases e
      obtain ⟨a, xs, rfl, ha, kk⟩ := hx.tupV
      obtain ⟨v, hv, iv⟩ := atI_is kk e1
      exact .inr (.inl ⟨a, xs, k, v, rfl, hy.intV, .inl (.inl (I.ex _ _ ha)), hv, q B H v (Same.refl B) I iv⟩)
  · rename_i ns k
    cases e1 : atI ns k with
    | none => rw [e1] at e; cases e
    | some n =>
      rw [e1] at e
      cases e
      obtain ⟨a, rfl, ha⟩ := hx.scrV
      have hv : atI (ns.map V.int) k = some (.int n) := by
        unfold atI at e1 ⊢
        rw [List.length_map]
        cases q : ixN ns.length k with
        | none => rw [q] at e1; cases e1
        | some j =>
          rw [q] at e1
          show (ns.map V.int)[j]? = some (.int n)
          rw [List.getElem?_map, show ns[j]? = some n from e1]
          rfl
      exact .inl ⟨a, _, k, _, rfl, hy.intV, I.ex.seq ha, hv, q B H _ (Same.refl B) I (.int n)⟩
  · rename_i z k
    by_cases hl : z.length ≤ 100000
    · rw [if_pos hl] at e
      cases e1 : atI z.cps.toList k with
      | none => rw [e1] at e; cases e
      | some c =>
        rw [e1] at e
        cases e
        exact .inr (.inr ⟨z, k, c, hx.strV, hy.intV, sz_of hl, e1, q B H _ (Same.refl B) I (.str _)⟩)
    · rw [if_neg hl] at e
      cases e
  · cases e

/-! ### built-ins -/
def rLenD (K : PySem.W.Frag) : List V → Hp → VK → Prop := fun xs H Q => ∃ p ys, xs = [.ref p] ∧ (SqL K H p ys ∨ SqT K H p ys) ∧ Q (.int ys.length) H
def rListD (K : PySem.W.Frag) : List V → Hp → VK → Prop := fun xs H Q => ∃ p ys, xs = [.ref p] ∧ (SqL K H p ys ∨ SqT K H p ys) ∧ ∀ l, H l = none → Q (.ref l) (upd H l (.lst ys))
def rMax2D : List V → Hp → VK → Prop := fun xs H Q => ∃ i j, xs = [.int i, .int j] ∧ Q (.int (if j > i then j else i)) H
def rMin2D : List V → Hp → VK → Prop := fun xs H Q => ∃ i j, xs = [.int i, .int j] ∧ Q (.int (if j < i then j else i)) H
theorem cr_lenD {X : Cx} : CallR X (.builtin "len") (rLenD X.K) := call_len_seq
theorem cr_listD {X : Cx} : CallR X (.type "list") (rListD X.K) := call_list_of
theorem cr_max2D {X : Cx} (hc : X.calm = true) : CallR X (.builtin "max") rMax2D := call_max2 hc
theorem cr_min2D {X : Cx} (hc : X.calm = true) : CallR X (.builtin "min") rMin2D := call_min2 hc
theorem isA_1 {B : Hp} {xs : List V} {d : D} (h : IsA K B xs [d]) : ∃ v, xs = [v] ∧ Is K B v d := by
  cases h with
  | cons a b =>
    cases b
    exact ⟨_, rfl, a⟩
theorem isA_2 {B : Hp} {xs : List V} {d e : D} (h : IsA K B xs [d, e]) : ∃ v w, xs = [v, w] ∧ Is K B v d ∧ Is K B w e := by
  cases h with
  | cons a b =>
    obtain ⟨w, rfl, h⟩ := isA_1 b
    exact ⟨_, _, rfl, a, h⟩
theorem cd_len : CbD K (rLenD K) bLen := by
  intro ks σ0 Fm B H σ ρ xs ds rv Q I hx e q
  unfold bLen at e
  split at e
  · cases e
    obtain ⟨v, rfl, h⟩ := isA_1 hx
    obtain ⟨a, ys, rfl, ha, k⟩ := h.lstV
    refine ⟨a, ys, rfl, .inl (.inl (.inl (I.ex _ _ ha))), ?_⟩
    rw [k.len]
    exact q B H _ (Same.refl B) I (.int _)
  · cases e
    obtain ⟨v, rfl, h⟩ := isA_1 hx
    obtain ⟨a, ys, rfl, ha, k⟩ := h.tupV
    refine ⟨a, ys, rfl, .inr (.inl (.inl (I.ex _ _ ha))), ?_⟩
    rw [k.len]
    exact q B H _ (Same.refl B) I (.int _)
  · cases e
    obtain ⟨v, rfl, h⟩ := isA_1 hx
    obtain ⟨a, rfl, ha⟩ := h.scrV
    refine ⟨a, _, rfl, .inl (I.ex.seq ha), ?_⟩
    rw [List.length_map]
    exact q B H _ (Same.refl B) I (.int _)
  · cases e
theorem cd_list : CbD K (rListD K) bList := by
  intro ks σ0 Fm B H σ ρ xs ds rv Q I hx e q
  unfold bList at e
  split at e
  · cases e
    obtain ⟨v, rfl, h⟩ := isA_1 hx
    obtain ⟨a, ys, rfl, ha, k⟩ := h.lstV
    exact ⟨a, ys, rfl, .inl (.inl (.inl (I.ex _ _ ha))), fun p hp => q B _ _ (Same.refl B) (I.made hp) (I.madeV hp k)⟩
  · cases e
    obtain ⟨v, rfl, h⟩ := isA_1 hx
    obtain ⟨a, ys, rfl, ha, k⟩ := h.tupV
    exact ⟨a, ys, rfl, .inr (.inl (.inl (I.ex _ _ ha))), fun p hp => q B _ _ (Same.refl B) (I.made hp) (I.madeV hp k)⟩
  · cases e
theorem cd_max2 : CbD K rMax2D bMax2 := by
  intro ks σ0 Fm B H σ ρ xs ds rv Q I hx e q
  unfold bMax2 at e
  split at e
  · cases e
    obtain ⟨v, w, rfl, h1, h2⟩ := isA_2 hx
    exact ⟨_, _, by rw [h1.intV, h2.intV], q B H _ (Same.refl B) I (.int _)⟩
  · cases e
theorem cd_min2 : CbD K rMin2D bMin2 := by
  intro ks σ0 Fm B H σ ρ xs ds rv Q I hx e q
  unfold bMin2 at e
  split at e
  · cases e
    obtain ⟨v, w, rfl, h1, h2⟩ := isA_2 hx
    exact ⟨_, _, by rw [h1.intV, h2.intV], q B H _ (Same.refl B) I (.int _)⟩
  · cases e
/-! isinstance of built-in classes -/
def tyN : D → Option String
  | .non => some "NoneType"
  | .bl _ => some "bool"
  | .int _ => some "int"
  | .str _ => some "str"
  | .lst _ => some "list"
  | .tup _ => some "tuple"
  | .dic _ => some "dict"
  | .scr _ => some "list"
  | _ => none
def isiOne (t : String) : D → Option Bool
  | .ty n => kitB t n
  | _ => none
def isiAny (t : String) : List D → Option Bool
  | [] => some false
  | c :: cs => (isiOne t c).bind fun b => (isiAny t cs).map fun r => b || r
def isiD (d c : D) : Option Bool :=
  match c with
  | .ty n => (tyN d).bind fun t => kitB t n
  | .tup cs => (tyN d).bind fun t => isiAny t cs
  | _ => none
def bIsi : List D → Option Rv
  | [d, c] => (isiD d c).map fun b => .im (.bl b)
  | _ => none
def rIsiD (K : PySem.W.Frag) : List V → Hp → VK → Prop := fun xs H Q => rIsi K xs H Q ∨ rIsiT K xs H Q
theorem CallR.or {X : Cx} {f : Value} {r r' : List V → Hp → VK → Prop} (h : CallR X f r) (h' : CallR X f r') : CallR X f fun xs H Q => r xs H Q ∨ r' xs H Q := by
  intro pins s σ H xs us Q I rr q
  rcases q with q | q
  · exact h pins s σ H xs us Q I rr q
  · exact h' pins s σ H xs us Q I rr q
theorem cr_isiD {X : Cx} : CallR X (.builtin "isinstance") (rIsiD X.K) := CallR.or call_isi call_isiT
theorem tyX_of {B : Hp} {v : V} {d : D} {t : String} (h : Is K B v d) (e : tyN d = some t) : TyX K B v (.type t) := by
  cases h with
  | non => cases e; exact .base .non
  | bl b => cases e; exact .base (.bl b)
  | int b => cases e; exact .base (.int b)
  | str b => cases e; exact .base (.str b)
  | lst h _ => cases e; exact .base (.lst h)
  | tup h _ =>
    cases e
    exact .base (.tup h)
  | dic h _ => cases e; exact .base (.dK h)
  | scr h =>
    cases e
    rcases h with (h | ⟨o, h⟩) | ⟨o, its, n, h1, h2, _⟩
    · exact .base (.lst h)
    · exact .base (.frz h)
    · exact .kList h1 h2
  | ref a => cases e
  | ty n => cases e
  | any a => cases e
  | exn h k => cases e
  | exf h k i => cases e
theorem isi_any {B : Hp} {t : String} : ∀ {cs : List D} {xs : List V} {b : Bool}, IsA K B xs cs → isiAny t cs = some b → ∃ us, Paired ClsV xs us ∧ PySem.W.kitAny K (.type t) us = some b
  | [], _, b, .nil, e => by
    cases e
    exact ⟨[], .nil, kitAny_nil⟩
  | c :: cs, _, b, .cons h k, e => by
    rw [show isiAny t (c :: cs) = (isiOne t c).bind fun b => (isiAny t cs).map fun r => b || r from rfl] at e
    cases q : isiOne t c with
    | none => rw [q] at e; cases e
    | some b1 =>
      rw [q] at e
      cases q2 : isiAny t cs with
      | none => rw [q2] at e; cases e
      | some b2 =>
        rw [q2] at e
        cases e
        obtain ⟨us, h1, h2⟩ := isi_any k q2
        cases h with
        | ty n =>
          refine ⟨.type n :: us, .cons (.ty n) h1, kitAny_cons (kit_ty q) (fun z => ?_) (fun z => ?_)⟩
          · subst z
            show PySem.W.kitAny K (.type t) us = some (false || b2)
            rw [Bool.false_or]
            exact h2
          · subst z
            show (true || b2) = true
            rw [Bool.true_or]
        | _ => cases q
theorem cd_isi : CbD K (rIsiD K) bIsi := by
  intro ks σ0 Fm B H σ ρ xs ds rv Q I hx e q
  unfold bIsi at e
  split at e
  · rename_i d c
    obtain ⟨v, w, rfl, h1, h2⟩ := isA_2 hx
    cases e1 : isiD d c with
    | none => rw [e1] at e; cases e
    | some b =>
      rw [e1] at e
      cases e
      unfold isiD at e1
      split at e1
      · rename_i n
        cases e2 : tyN d with
        | none => rw [e2] at e1; cases e1
        | some t =>
          rw [e2] at e1
          cases h2 with
          | ty n => exact .inl ⟨v, .ty n, .type t, .type n, b, rfl, .ty n, tyX_of (h1.mono I.ex) e2, kit_ty e1, q B H _ (Same.refl B) I (.bl b)⟩
      · rename_i cs
        cases e2 : tyN d with
        | none => rw [e2] at e1; cases e1
        | some t =>
          rw [e2] at e1
          cases h2 with
          | tup hs hk =>
            rename_i tp ys
            obtain ⟨us, g1, g2⟩ := isi_any hk e1
            exact .inr ⟨v, tp, ys, .type t, us, b, rfl, I.ex _ _ hs, g1, tyX_of (h1.mono I.ex) e2, g2, q B H _ (Same.refl B) I (.bl b)⟩
      · cases e1
  · cases e
end

/-! the rules with the written part named -/
section
variable {X : Cx} {K : PySem.W.Frag}
theorem ix_seqK (e : X.K = K) : IxR X (rIx K) := by subst e; exact ix_seq
theorem sl_listK (e : X.K = K) : SlR X (rSlL K) := by subst e; exact sl_list
theorem op_eqK (e : X.K = K) (hu : X.A.units + 64 < cLine) : OpR X (compareOp .Eq) (rEqD K) := by subst e; exact op_eqD hu
theorem op_neK (e : X.K = K) (hu : X.A.units + 64 < cLine) : OpR X (compareOp .NotEq) (rNeD K) := by subst e; exact op_neD hu
theorem cr_lenK (e : X.K = K) : CallR X (.builtin "len") (rLenD K) := by subst e; exact cr_lenD
theorem cr_listK (e : X.K = K) : CallR X (.type "list") (rListD K) := by subst e; exact cr_listD
theorem cr_isiK (e : X.K = K) : CallR X (.builtin "isinstance") (rIsiD K) := by subst e; exact cr_isiD
theorem pg_tupK {es : List Expr} {k : Nat} {t : TGs} {n : Nat} {pos : Pos} (e : X.K = K) (hc : X.calm = true) (h : PGs X es t) (hn : (assignEach es X.env).length = n := by rfl) (hst : (assignEach es X.env).findIdx? (·.1) = none := by rfl) : PG X (.Tuple es k pos) (gTup K n t) := by
  subst e
  exact pg_tup hc h hn hst
theorem pi_listK {tg l : Expr} {tl : TE} (e : X.K = K) (hl : PE X l tl) : PI X tg l (iList K tl) := by subst e; exact pi_list hl
end
end DL

/-! DL, part d: what is walked, targets, statements, loops. -/
namespace DL
open PySem PySem.Spec PyProof.Rows L2

/-! ### statements -/
inductive Out where
  | nx (ρ : Env) | ret (rv : Rv) (ρ : Env) | brk (ρ : Env) | ct (ρ : Env) | exc (C : Addr) (d : Option (Str × D)) (ρ : Env) | bad
def R.toO {α : Type} (r : R α) (k : α → Env → Out) : Out :=
  match r with
  | .ok a ρ => k a ρ
  | .exc C d ρ => .exc C d ρ
  | .bad => .bad
def Out.seq (o : Out) (k : Env → Out) : Out :=
  match o with
  | .nx ρ => k ρ
  | o => o
def PtS (K : PySem.W.Frag) (ks : List Nat) (σ0 : L2.St) (Fm : Hp) (W : WX) (B : Hp) (E : Ends) : Out → Prop
  | .nx ρ' => ∀ B' H' σ', Same B B' → IV K ks σ0 Fm B' H' σ' ρ' → E.nx σ' H'
  | .ret rv ρ' => ∀ B' H' σ' v, Same B B' → IV K ks σ0 Fm B' H' σ' ρ' → vE K Fm σ' B' H' ρ' v rv → E.rt v H'
  | .brk ρ' => ∀ B' H' σ', Same B B' → IV K ks σ0 Fm B' H' σ' ρ' → E.bk σ' H'
  | .ct ρ' => ∀ B' H' σ', Same B B' → IV K ks σ0 Fm B' H' σ' ρ' → E.ct σ' H'
  | .exc C d ρ' => ∀ B' H' σ' dx, Same B B' → IV K ks σ0 Fm B' H' σ' ρ' → XAt K B' dx d → W (.ref C) dx σ' H'
  | .bad => False
def DS (K : PySem.W.Frag) (W : WX) (ks : List Nat) (t : TS) (g : Env → Out) : Prop := ∀ σ0 Fm B H σ ρ E, IV K ks σ0 Fm B H σ ρ → PtS K ks σ0 Fm W B E (g ρ) → t E σ H

def sNext : Env → Out := fun ρ => .nx ρ
def sBrk : Env → Out := fun ρ => .brk ρ
def sCont : Env → Out := fun ρ => .ct ρ
def sNever : Env → Out := fun _ => .bad
def sSeq (g k : Env → Out) : Env → Out := fun ρ => (g ρ).seq k
/-- x = e; the value stays as it is from now on -/
def sSet (i : Nat) (f : Env → R Rv) : Env → Out := fun ρ => (f ρ).toO fun rv ρ => .nx (ρ.set i (.im rv.d))
/-- x = e; a list of one's own -/
def sSetO (i : Nat) (f : Env → R Rv) : Env → Out := fun ρ => (f ρ).toO fun rv ρ => .nx (ρ.set i rv.sl)
def sDrop (f : Env → R Rv) : Env → Out := fun ρ => (f ρ).toO fun _ ρ => .nx ρ
def sRet (f : Env → R Rv) : Env → Out := fun ρ => (f ρ).toO fun rv ρ => .ret rv ρ
def sRetN : Env → Out := fun ρ => .ret (.im .non) ρ
def sIf (t : Env → R Bool) (g k : Env → Out) : Env → Out := fun ρ => (t ρ).toO fun c ρ => cond c (g ρ) (k ρ)
def sApp (i : Nat) (f : Env → R Rv) : Env → Out := fun ρ =>
  match ρ[i]? with
  | some (.own _) => (f ρ).toO fun rv ρ => match ρ[i]? with
    | some (.own ds) => if ds.length < 100000 then .nx (ρ.set i (.own (ds ++ [rv.d]))) else .bad
    | _ => .bad
  | _ => .bad
def sSetIx (i : Nat) (fk f : Env → R Rv) : Env → Out := fun ρ => (f ρ).toO fun rv ρ =>
  match ρ[i]? with
  | some (.own _) => (fk ρ).toO fun kv ρ => match ρ[i]?, kv.d with
    | some (.own ds), .int k => match ixN ds.length k with
      | some j => .nx (ρ.set i (.own (ds.set j rv.d)))
      | none => .bad
    | _, _ => .bad
  | _ => .bad
def sAug (i : Nat) (op : D → D → Option Rv) (f : Env → R Rv) : Env → Out := fun ρ => (eVar i ρ).toO fun x ρ => (f ρ).toO fun y ρ => (lift (op x.d y.d) ρ).toO fun z ρ => .nx (ρ.set i (.im z.d))
/-- a, b = e, f -/
def sPar (i j : Nat) (f : Env → R (List Av)) : Env → Out := fun ρ => (f ρ).toO fun as ρ => (lift (ims as) ρ).toO fun ds ρ =>
  match ds with
  | [x, y] => .nx ((ρ.set i (.im x)).set j (.im y))
  | _ => .bad
def dFor (step : D → Env → Out) : List D → Env → Out
  | [], ρ => .nx ρ
  | d :: ds, ρ =>
    match step d ρ with
    | .nx ρ' => dFor step ds ρ'
    | .ct ρ' => dFor step ds ρ'
    | .brk ρ' => .nx ρ'
    | o => o
abbrev Tg := D → Env → Option Env
def tgName (j : Nat) : Tg := fun d ρ => some (ρ.set j (.im d))
def tgAll : List Tg → List D → Env → Option Env
  | [], [], ρ => some ρ
  | t :: ts, d :: ds, ρ => (t d ρ).bind fun ρ => tgAll ts ds ρ
  | _, _, _ => none
def tgTup (ts : List Tg) : Tg := fun d ρ =>
  match d with
  | .tup ds => tgAll ts ds ρ
  | _ => none
def stepOf (tg : Tg) (g : Env → Out) : D → Env → Out := fun d ρ =>
  match tg d ρ with
  | some ρ' => g ρ'
  | none => .bad
def sFor (fi : Env → R (List D)) (tg : Tg) (g : Env → Out) : Env → Out := fun ρ => (fi ρ).toO fun ds ρ => dFor (stepOf tg g) ds ρ
/-- target = e -/
def sAsg (tg : Tg) (f : Env → R Rv) : Env → Out := fun ρ => (f ρ).toO fun rv ρ =>
  match tg rv.d ρ with
  | some ρ' => .nx ρ'
  | none => .bad

section
variable {K : PySem.W.Frag} {W : WX} {ks : List Nat} {te ta tb : TE} {f fa fb : Env → R Rv} {t u : TS} {g k : Env → Out}
theorem PtS.mono {σ0 : L2.St} {Fm B B1 : Hp} {E : Ends} {o : Out} (h : PtS K ks σ0 Fm W B E o) (e : Same B B1) : PtS K ks σ0 Fm W B1 E o := by
  cases o with
  | nx ρ' => exact fun B' H' σ' s i => h B' H' σ' (e.trans s) i
  | ret rv ρ' => exact fun B' H' σ' v s i x => h B' H' σ' v (e.trans s) i x
  | brk ρ' => exact fun B' H' σ' s i => h B' H' σ' (e.trans s) i
  | ct ρ' => exact fun B' H' σ' s i => h B' H' σ' (e.trans s) i
  | exc C d ρ' => exact fun B' H' σ' dx s i x => h B' H' σ' dx (e.trans s) i x
  | bad => exact h
/-- from an expression to what follows it -/
theorem PtS.step {α β : Type} {vis : Hp → Hp → Env → β → α → Prop} {σ0 σ : L2.St} {Fm B : Hp} {E : Ends} {Q1 : β → Hp → Prop} {r : R α} {kk : α → Env → Out} (h : PtS K ks σ0 Fm W B E (r.toO kk))
    (go : ∀ a ρ1 B1 H1 b, Same B B1 → IV K ks σ0 Fm B1 H1 σ ρ1 → vis B1 H1 ρ1 b a → PtS K ks σ0 Fm W B1 E (kk a ρ1) → Q1 b H1) : PtG K ks σ0 Fm W vis B σ Q1 r := by
  cases r with
  | ok a ρ1 => exact fun B1 H1 b s i v => go a ρ1 B1 H1 b s i v (PtS.mono h s)
  | exc C d ρ' => exact fun B' H' dx s i x => h B' H' σ dx s i x
  | bad => exact h
theorem ds_next : DS K W ks tNext sNext := fun σ0 Fm B H σ ρ E I p => p B H σ (Same.refl B) I
theorem ds_brk : DS K W ks tBreak sBrk := fun σ0 Fm B H σ ρ E I p => p B H σ (Same.refl B) I
theorem ds_cont : DS K W ks tCont sCont := fun σ0 Fm B H σ ρ E I p => p B H σ (Same.refl B) I
theorem ds_never : DS K W ks tNever sNever := fun σ0 Fm B H σ ρ E I p => p
theorem ds_seq (h1 : DS K W ks t g) (h2 : DS K W ks u k) : DS K W ks (tSeq t u) (sSeq g k) := fun σ0 Fm B H σ ρ E I p => by
  refine h1 σ0 Fm B H σ ρ _ I ?_
  unfold sSeq at p
  cases q : g ρ with
  | nx ρ' =>
    rw [q] at p
    exact fun B' H' σ' s i => h2 σ0 Fm B' H' σ' ρ' E i (PtS.mono p s)
  | ret rv ρ' => rw [q] at p; exact p
  | brk ρ' => rw [q] at p; exact p
  | ct ρ' => rw [q] at p; exact p
  | exc C d ρ' => rw [q] at p; exact p
  | bad => rw [q] at p; exact p.elim
theorem ds_set {i : Nat} (hi : i ∉ ks) (h : DE K W te f) : DS K W ks (tAsg te (gName i)) (sSet i f) := fun σ0 Fm B H σ ρ E I p =>
  h ks σ0 Fm B H σ ρ _ I (PtS.step p fun rv ρ1 B1 H1 v s I1 v1 p1 => by
    obtain ⟨B2, s2, I2, i2⟩ := freeze I1 v1
    exact p1 B2 H1 _ s2 (I2.setIm hi i2))
theorem ds_setO {i : Nat} (hi : i ∉ ks) (h : DE K W te f) : DS K W ks (tAsg te (gName i)) (sSetO i f) := fun σ0 Fm B H σ ρ E I p =>
  h ks σ0 Fm B H σ ρ _ I (PtS.step p fun rv ρ1 B1 H1 v s I1 v1 p1 => p1 B1 H1 _ (Same.refl B1) (I1.setSl hi v1))
theorem ds_drop (h : DE K W te f) : DS K W ks (tDrop te) (sDrop f) := fun σ0 Fm B H σ ρ E I p =>
  h ks σ0 Fm B H σ ρ _ I (PtS.step p fun rv ρ1 B1 H1 v s I1 v1 p1 => p1 B1 H1 σ (Same.refl B1) I1)
theorem ds_ret (h : DE K W te f) : DS K W ks (tRet te) (sRet f) := fun σ0 Fm B H σ ρ E I p =>
  h ks σ0 Fm B H σ ρ _ I (PtS.step p fun rv ρ1 B1 H1 v s I1 v1 p1 => p1 B1 H1 σ v (Same.refl B1) I1 v1)
theorem ds_retN : DS K W ks tRetN sRetN := fun σ0 Fm B H σ ρ E I p => p B H σ .non (Same.refl B) I (Is.non)
theorem ds_if {tc : TT} {fc : Env → R Bool} (hc : DT K W tc fc) (h1 : DS K W ks t g) (h2 : DS K W ks u k) : DS K W ks (tIfS tc t u) (sIf fc g k) := fun σ0 Fm B H σ ρ E I p =>
  hc ks σ0 Fm B H σ ρ _ I (PtS.step p fun c ρ1 B1 H1 b s I1 v1 p1 => by
    cases (show b = c from v1)
    cases c with
    | true => exact h1 σ0 Fm B1 H1 σ ρ1 E I1 p1
    | false => exact h2 σ0 Fm B1 H1 σ ρ1 E I1 p1)
/-- an object of one's own changes -/
theorem IV.wr {σ0 : L2.St} {Fm B H : Hp} {σ : L2.St} {ρ : Env} (I : IV K ks σ0 Fm B H σ ρ) {i : Nat} {a : Addr} {ds es : List D} {ys : List V} (e : ρ[i]? = some (.own ds)) (h1 : σ[i]? = some (some (.ref a))) (k : IsA K B ys es) :
    IV K ks σ0 Fm B (upd H a (.lst ys)) σ (ρ.set i (.own es)) := by
  obtain ⟨b, xs, g1, g2, g3, g4, g5⟩ := I.own i ds e
  rw [h1] at g1
  cases g1
  have hl : i < ρ.length := (List.getElem?_eq_some_iff.mp e).1
  have sub : ∀ {j : Nat} {x : Sl}, i ≠ j → (ρ.set i (.own es))[j]? = some x → ρ[j]? = some x := fun {j x} hx h => by
    rw [List.getElem?_set_ne hx] at h
    exact h
  refine ⟨fun c o q => ?_, fun c o q => ?_, I.fb, by rw [List.length_set]; exact I.len, fun j d q => ?_, fun j zs q => ?_, fun j m ds' es' c hjm q1 q2 q3 q4 => ?_, I.pin, ?_⟩
  · have hne : c ≠ a := ne_of_none q g3
    rw [upd_ne hne]
    exact I.ex c o q
  · have hne : c ≠ a := ne_of_none q g4
    rw [upd_ne hne]
    exact I.fr c o q
  · by_cases hij : i = j
    · subst hij
      rw [List.getElem?_set_self hl] at q
      cases q
    · exact I.im j d (sub hij q)
  · by_cases hij : i = j
    · subst hij
      rw [List.getElem?_set_self hl] at q
      cases q
      exact ⟨a, ys, h1, upd_same, g3, g4, k⟩
    · obtain ⟨c, zs', m1, m2, m3, m4, m5⟩ := I.own j zs (sub hij q)
      have hne : c ≠ a := fun z => I.dj i j ds zs a hij e (sub hij q) h1 (by rw [m1, z])
      exact ⟨c, zs', m1, by rw [upd_ne hne]; exact m2, m3, m4, m5⟩
  · have own_of : ∀ {m : Nat} {zs : List D}, (ρ.set i (.own es))[m]? = some (.own zs) → ∃ zs', ρ[m]? = some (.own zs') := fun {m zs} q => by
      by_cases him : i = m
      · subst him
        exact ⟨ds, e⟩
      · exact ⟨zs, sub him q⟩
    obtain ⟨w1, r1⟩ := own_of q1
    obtain ⟨w2, r2⟩ := own_of q2
    exact I.dj j m w1 w2 c hjm r1 r2 q3 q4
  · have bk_of : ∀ (m : Nat) t, (ρ.set i (.own es))[m]? = some (.bk t) → ρ[m]? = some (.bk t) := fun m t q => by
      rcases set_sub q with ⟨_, z, _⟩ | ⟨_, q⟩
      · cases z
      · exact q
    refine I.bs.to bk_of (fun m t q => rfl) (Same.refl B) fun m t w q e1 e2 f hl' hbn hfn ho => ⟨upd_ne fun z => I.bs.bo m i t ds w a (bk_of m t e1) e e2 h1 (by rw [← z]; exact f), hbn, hfn, fun k zs q1 q2 => ?_⟩
    by_cases hik : i = k
    · subst hik
      exact ho i ds e q2
    · exact ho k zs (sub hik q1) q2
theorem ds_app {i : Nat} (h : DE K W te f) : DS K W ks (tDrop (tBM K "list" rAppend (tVar i) (tCons te tNil))) (sApp i f) := fun σ0 Fm B H σ ρ E I p => by
  unfold sApp at p
  cases e : ρ[i]? with
  | none => rw [e] at p; exact p.elim
  | some x =>
    rw [e] at p
    cases x with
    | no => exact p.elim
    | bk t => exact p.elim
    | im d => exact p.elim
    | own ds =>
      obtain ⟨a, xs, h1, h2, _⟩ := I.own i ds e
      refine ⟨.ref a, h1, .inl ⟨rfl, xs, .inl (.inl h2)⟩, h ks σ0 Fm B H σ ρ _ I (PtS.step p fun rv ρ1 B1 H1 v s I1 v1 p1 => ?_)⟩
      obtain ⟨B2, s2, I2, i2⟩ := freeze I1 v1
      cases e1 : ρ1[i]? with
      | none => rw [e1] at p1; exact p1.elim
      | some x1 =>
        rw [e1] at p1
        cases x1 with
        | no => exact p1.elim
        | bk t => exact p1.elim
        | im d => exact p1.elim
        | own es =>
          have p2 : PtS K ks σ0 Fm W B1 E (if es.length < 100000 then .nx (ρ1.set i (.own (es ++ [rv.d]))) else .bad) := p1
          obtain ⟨b, ys, g1, g2, g3, g4, g5⟩ := I2.own i es e1
          rw [h1] at g1
          cases g1
          by_cases hl : es.length < 100000
          · rw [if_pos hl] at p2
            refine ⟨a, ys, v, rfl, rfl, g2, by rw [g5.len]; exact sz_lt hl, ?_⟩
            exact p2 B2 _ σ s2 (I2.wr e1 h1 (g5.app (.cons i2 .nil)))
          · rw [if_neg hl] at p2
            exact p2.elim
theorem ds_setIx {i : Nat} (hk : DE K W ta fa) (h : DE K W te f) : DS K W ks (tAsg te (gSub (tVar i) ta rSetL)) (sSetIx i fa f) := fun σ0 Fm B H σ ρ E I p =>
  h ks σ0 Fm B H σ ρ _ I (PtS.step p fun rv ρ1 B1 H1 v s I1 v1 p1 => by
    obtain ⟨B2, s2, I2, i2⟩ := freeze I1 v1
    cases e : ρ1[i]? with
    | none => rw [e] at p1; exact p1.elim
    | some x =>
      rw [e] at p1
      cases x with
      | no => exact p1.elim
      | bk t => exact p1.elim
      | im d => exact p1.elim
      | own ds =>
        obtain ⟨a, xs, h1, h2, _⟩ := I2.own i ds e
        refine ⟨.ref a, h1, hk ks σ0 Fm B2 H1 σ ρ1 _ I2 (PtS.step (PtS.mono p1 s2) fun kv ρ3 B3 H3 w s3 I3 v3 p3 => ?_)⟩
        cases e3 : ρ3[i]? with
        | none => rw [e3] at p3; exact p3.elim
        | some x3 =>
          rw [e3] at p3
          cases x3 with
          | no => exact p3.elim
          | bk t => exact p3.elim
          | im d => exact p3.elim
          | own es =>
            obtain ⟨b, ys, g1, g2, g3, g4, g5⟩ := I3.own i es e3
            rw [h1] at g1
            cases g1
            cases e5 : kv.d with
            | int z =>
              rw [e5] at p3
              dsimp only at p3
              cases e6 : ixN es.length z with
              | none => rw [e6] at p3; exact p3.elim
              | some j =>
                rw [e6] at p3
                have ew : w = .int z := int_of v3 (by rw [e5]; rfl)
                refine ⟨a, ys, z, j, rfl, ew, g2, by rw [g5.len]; exact e6, ?_⟩
                exact p3 B3 _ σ (Same.refl B3) (I3.wr e3 h1 (g5.set j (i2.mono s3)))
            | _ => rw [e5] at p3; exact p3.elim)
theorem ds_par {i j : Nat} {tr : TA} {fr : Env → R (List Av)} (hi : i ∉ ks) (hj : j ∉ ks) (h : DA K W tr fr) : DS K W ks (tPar i j tr) (sPar i j fr) := fun σ0 Fm B H σ ρ E I p =>
  h ks σ0 Fm B H σ ρ _ I (PtS.step p fun as ρ1 B1 H1 vs s I1 v1 p1 => by
    cases e : ims as with
    | none => rw [e] at p1; exact p1.elim
    | some ds =>
      rw [e] at p1
      have kk := ims_is v1 e
      match ds, kk, p1 with
      | [x, y], kk, p1 =>
        obtain ⟨v, w, rfl, h1, h2⟩ := isA_2 kk
        exact ⟨v, w, rfl, p1 B1 H1 _ (Same.refl B1) ((I1.setIm hi h1).setIm hj h2)⟩)

/-! ### targets -/
theorem wipe_get {σ : L2.St} : ∀ {vs : List Nat} (i : Nat), (wipe σ vs)[i]? = if i ∈ vs then (if i < σ.length then some none else none) else σ[i]?
  | [], i => by
    rw [if_neg (by simp)]
    rfl
  | v :: vs, i => by
    show ((wipe σ vs).set v none)[i]? = _
    by_cases h : v = i
    · subst h
      rw [if_pos (by simp)]
      by_cases hl : v < σ.length
      · rw [if_pos hl, List.getElem?_set_self (by rw [wipe_length]; exact hl)]
      · rw [if_neg hl, List.getElem?_eq_none (by rw [List.length_set, wipe_length]; omega)]
    · rw [List.getElem?_set_ne h, wipe_get (vs := vs) i]
      have e : (i ∈ v :: vs) = (i ∈ vs) := by
        rw [List.mem_cons]
        exact propext ⟨fun z => z.elim (fun q => absurd q.symm h) id, .inr⟩
      simp only [e]
theorem wipe_set {σ : L2.St} {vs : List Nat} {j : Nat} {x : Option V} (h : j ∈ vs) : wipe (σ.set j x) vs = wipe σ vs := by
  refine List.ext_getElem? fun i => ?_
  rw [wipe_get, wipe_get, List.length_set]
  by_cases hi : i ∈ vs
  · rw [if_pos hi, if_pos hi]
  · rw [if_neg hi, if_neg hi, List.getElem?_set_ne (fun z => hi (by rw [← z]; exact h))]
/-- js: the slots of the target -/
def DTg (K : PySem.W.Frag) (ks js : List Nat) (gt : TG) (tg : Tg) : Prop := ∀ σ0 Fm B H σ ρ v d ρ' (Q : L2.St → Hp → Prop), IV K ks σ0 Fm B H σ ρ → Is K B v d → tg d ρ = some ρ' →
  (∀ σ', IV K ks σ0 Fm B H σ' ρ' → (∀ vs : List Nat, (∀ j ∈ js, j ∈ vs) → wipe σ' vs = wipe σ vs) → Q σ' H) → gt v σ H Q
def DTgs (K : PySem.W.Frag) (ks js : List Nat) (gt : TGs) (ts : List Tg) : Prop := ∀ σ0 Fm B H σ ρ vs ds ρ' (Q : L2.St → Hp → Prop), IV K ks σ0 Fm B H σ ρ → IsA K B vs ds → tgAll ts ds ρ = some ρ' →
  (∀ σ', IV K ks σ0 Fm B H σ' ρ' → (∀ vs : List Nat, (∀ j ∈ js, j ∈ vs) → wipe σ' vs = wipe σ vs) → Q σ' H) → gt vs σ H Q
theorem dg_name {j : Nat} (hj : j ∉ ks) : DTg K ks [j] (gName j) (tgName j) := by
  intro σ0 Fm B H σ ρ v d ρ' Q I h e q
  cases e
  exact q _ (I.setIm hj h) fun vs hv => wipe_set (hv j (by simp))
theorem dgs_nil : DTgs K ks [] gNil [] := by
  intro σ0 Fm B H σ ρ vs ds ρ' Q I h e q
  cases h with
  | nil =>
    cases e
    exact ⟨rfl, q σ I fun _ _ => rfl⟩
  | cons _ _ => cases e
theorem dgs_cons {js js' : List Nat} {gt : TG} {gr : TGs} {tg : Tg} {ts : List Tg} (h1 : DTg K ks js gt tg) (h2 : DTgs K ks js' gr ts) : DTgs K ks (js ++ js') (gCons gt gr) (tg :: ts) := by
  intro σ0 Fm B H σ ρ vs ds ρ' Q I h e q
  cases h with
  | nil => cases e
  | @cons v vs d ds hv hr =>
    rw [show tgAll (tg :: ts) (d :: ds) ρ = (tg d ρ).bind fun ρ => tgAll ts ds ρ from rfl] at e
    cases e1 : tg d ρ with
    | none => rw [e1] at e; cases e
    | some ρ1 =>
      rw [e1] at e
      refine ⟨v, vs, rfl, h1 σ0 Fm B H σ ρ v d ρ1 _ I hv e1 fun σ1 I1 w1 => ?_⟩
      refine h2 σ0 Fm B H σ1 ρ1 vs ds ρ' Q I1 hr e fun σ2 I2 w2 => q σ2 I2 fun zs hz => ?_
      rw [w2 zs fun j hj => hz j (List.mem_append_right _ hj), w1 zs fun j hj => hz j (List.mem_append_left _ hj)]
theorem tgAll_len : ∀ {ts : List Tg} {ds : List D} {ρ ρ' : Env}, tgAll ts ds ρ = some ρ' → ds.length = ts.length
  | [], [], _, _, _ => rfl
  | t :: ts, d :: ds, ρ, ρ', e => by
    rw [show tgAll (t :: ts) (d :: ds) ρ = (t d ρ).bind fun ρ => tgAll ts ds ρ from rfl] at e
    cases e1 : t d ρ with
    | none => rw [e1] at e; cases e
    | some ρ1 =>
      rw [e1] at e
      rw [List.length_cons, List.length_cons, tgAll_len e]
  | [], _ :: _, _, _, e => by cases e
  | _ :: _, [], _, _, e => by cases e
theorem dg_tup {js : List Nat} {n : Nat} {gr : TGs} {ts : List Tg} (hn : ts.length = n) (h : DTgs K ks js gr ts) : DTg K ks js (gTup K n gr) (tgTup ts) := by
  intro σ0 Fm B H σ ρ v d ρ' Q I hv e q
  unfold tgTup at e
  split at e
  · obtain ⟨a, xs, rfl, ha, kk⟩ := hv.tupV
    refine ⟨a, xs, rfl, .inl (.inl (I.ex _ _ ha)), ?_, h σ0 Fm B H σ ρ xs _ ρ' Q I kk e q⟩
    rw [kk.len, tgAll_len e, hn]
  · cases e
theorem ds_asg {js : List Nat} {gt : TG} {tg : Tg} (hg : DTg K ks js gt tg) (h : DE K W te f) : DS K W ks (tAsg te gt) (sAsg tg f) := fun σ0 Fm B H σ ρ E I p =>
  h ks σ0 Fm B H σ ρ _ I (PtS.step p fun rv ρ1 B1 H1 v s I1 v1 p1 => by
    obtain ⟨B2, s2, I2, i2⟩ := freeze I1 v1
    cases e : tg rv.d ρ1 with
    | none => rw [e] at p1; exact p1.elim
    | some ρ2 =>
      rw [e] at p1
      exact hg σ0 Fm B2 H1 σ ρ1 v rv.d ρ2 _ I2 i2 e fun σ' I' _ => p1 B2 H1 σ' s2 I')

/-! ### what is walked -/
def Wk (K : PySem.W.Frag) (J : It) (items : List D) (B0 : Hp) : Prop := ∀ ks σ0 Fm B H σ ρ (i : Nat), Same B0 B → IV K ks σ0 Fm B H σ ρ →
  (i < items.length → J.go i H ∧ ∀ x H', J.yld i H x H' → ∃ B' d, items[i]? = some d ∧ Same B B' ∧ Same H H' ∧ IV K ks σ0 Fm B' H' σ ρ ∧ Is K B' x d) ∧ (items.length ≤ i → J.stop i H)
def DI (K : PySem.W.Frag) (W : WX) (wi : TI) (f : Env → R (List D)) : Prop := ∀ ks σ0 Fm B H σ ρ Q, IV K ks σ0 Fm B H σ ρ → PtG K ks σ0 Fm W (fun B' _ _ J items => Wk K J items B') B σ Q (f ρ) → wi σ H Q
theorem Wk.mono {J : It} {items : List D} {B0 B1 : Hp} (h : Wk K J items B0) (s : Same B0 B1) : Wk K J items B1 := fun ks σ0 Fm B H σ ρ i s1 I => h ks σ0 Fm B H σ ρ i (s.trans s1) I
theorem wk_list {a : Addr} {xs : List V} {ds : List D} {B0 : Hp} (h : SqL K B0 a xs) (kk : IsA K B0 xs ds) : Wk K (Itl K a) ds B0 := by
  intro ks σ0 Fm B H σ ρ i s I
  have hq : SqL K H a xs := I.ex.seq (s.seq h)
  refine ⟨fun hi => ?_, fun hi => ⟨xs, hq, by rw [kk.len]; exact hi⟩⟩
  have hi2 : i < xs.length := by rw [kk.len]; exact hi
  refine ⟨⟨xs, xs[i], hq, List.getElem?_eq_getElem hi2⟩, fun x H' y => ?_⟩
  obtain ⟨rfl, y⟩ := y
  obtain ⟨d, hd, iv⟩ := kk.getV (y xs hq)
  exact ⟨B, d, hd, Same.refl B, Same.refl _, I, iv.mono s⟩
theorem wk_tup {a : Addr} {xs : List V} {ds : List D} {B0 : Hp} (h : SqT K B0 a xs) (kk : IsA K B0 xs ds) : Wk K (Itt K a) ds B0 := by
  intro ks σ0 Fm B H σ ρ i s I
  have hq : SqT K H a xs := same_t I.ex (same_t s h)
  refine ⟨fun hi => ?_, fun hi => ⟨xs, hq, by rw [kk.len]; exact hi⟩⟩
  have hi2 : i < xs.length := by rw [kk.len]; exact hi
  refine ⟨⟨xs, xs[i], hq, List.getElem?_eq_getElem hi2⟩, fun x H' y => ?_⟩
  obtain ⟨rfl, y⟩ := y
  obtain ⟨d, hd, iv⟩ := kk.getV (y xs hq)
  exact ⟨B, d, hd, Same.refl B, Same.refl _, I, iv.mono s⟩
def rngD (lo : Int) (n : Nat) : List D := (List.range n).map fun (k : Nat) => .int (lo + (k : Int))
theorem rngD_len (lo : Int) (n : Nat) : (rngD lo n).length = n := by
  unfold rngD
  rw [List.length_map, List.length_range]
theorem rngD_get {lo : Int} {n i : Nat} (h : i < n) : (rngD lo n)[i]? = some (.int (lo + (i : Int))) := by
  unfold rngD
  rw [List.getElem?_map, List.getElem?_range h]
  rfl
theorem wk_rng {lo : Int} {n : Nat} {B0 : Hp} : Wk K (Itr lo n) (rngD lo n) B0 := by
  intro ks σ0 Fm B H σ ρ i s I
  rw [rngD_len]
  refine ⟨fun hi => ⟨hi, fun x H' y => ?_⟩, fun hi => hi⟩
  obtain ⟨rfl, rfl⟩ := y
  exact ⟨B, _, rngD_get hi, Same.refl B, Same.refl _, I, .int _⟩
def zipD : List D → List D → List D
  | x :: xs, y :: ys => .tup [x, y] :: zipD xs ys
  | _, _ => []
theorem zipD_get : ∀ {xs ys : List D} {i : Nat} {x y : D}, xs[i]? = some x → ys[i]? = some y → (zipD xs ys)[i]? = some (.tup [x, y])
  | _ :: _, _ :: _, 0, _, _, h1, h2 => by
    cases h1
    cases h2
    rfl
  | _ :: xs, _ :: ys, i + 1, x, y, h1, h2 => zipD_get (xs := xs) (ys := ys) (i := i) h1 h2
  | [], _, _, _, _, h1, _ => by simp at h1
  | _ :: _, [], _, _, _, _, h2 => by simp at h2
theorem zipD_len : ∀ {xs ys : List D}, (zipD xs ys).length = min xs.length ys.length
  | [], _ => by simp [zipD]
  | _ :: _, [] => by simp [zipD]
  | _ :: xs, _ :: ys => by
    rw [show zipD (_ :: xs) (_ :: ys) = _ :: zipD xs ys from rfl, List.length_cons, List.length_cons, List.length_cons, zipD_len (xs := xs)]
    omega
theorem wk_zip {a b : Addr} {xs ys : List V} {ds es : List D} {B0 : Hp} (h : SqL K B0 a xs) (h' : SqL K B0 b ys) (kk : IsA K B0 xs ds) (kk' : IsA K B0 ys es) : Wk K (Itz K a b) (zipD ds es) B0 := by
  intro ks σ0 Fm B H σ ρ i s I
  have hq : SqL K H a xs := I.ex.seq (s.seq h)
  have hq' : SqL K H b ys := I.ex.seq (s.seq h')
  rw [zipD_len]
  refine ⟨fun hi => ?_, fun hi => ⟨xs, ys, hq, hq', by rw [kk.len, kk'.len]; omega⟩⟩
  have hi2 : i < xs.length := by rw [kk.len]; omega
  have hi3 : i < ys.length := by rw [kk'.len]; omega
  refine ⟨⟨xs, ys, xs[i], ys[i], hq, hq', List.getElem?_eq_getElem hi2, List.getElem?_eq_getElem hi3⟩, fun v H' y => ?_⟩
  obtain ⟨T, x, z, rfl, hT, rfl, f1, f2⟩ := y
  obtain ⟨d, hd, iv⟩ := kk.getV (f1 xs hq)
  obtain ⟨e, he, iv'⟩ := kk'.getV (f2 ys hq')
  have s2 := same_upd (o := .tup [x, z]) (I.ex.free hT)
  exact ⟨_, _, zipD_get hd he, s2, same_upd hT, I.laid hT, .tup upd_same (.cons ((iv.mono s).mono s2) (.cons ((iv'.mono s).mono s2) .nil))⟩
def iListD (f : Env → R Rv) : Env → R (List D) := fun ρ => (f ρ).bind fun x ρ =>
  match x.d with
  | .lst ds => .ok ds ρ
  | .scr ns => .ok (ns.map D.int) ρ
  | _ => .bad
def iTupD (f : Env → R Rv) : Env → R (List D) := fun ρ => (f ρ).bind fun x ρ =>
  match x.d with
  | .tup ds => .ok ds ρ
  | _ => .bad
def iRng1D (f : Env → R (List Av)) : Env → R (List D) := fun ρ => (f ρ).bind fun as ρ =>
  match as with
  | [.im (.int j)] => if -(2 ^ 60) < j ∧ j < 2 ^ 60 then .ok (rngD 0 j.toNat) ρ else .bad
  | _ => .bad
def iRng2D (f : Env → R (List Av)) : Env → R (List D) := fun ρ => (f ρ).bind fun as ρ =>
  match as with
  | [.im (.int i), .im (.int j)] => if (-(2 ^ 60) < i ∧ i < 2 ^ 60) ∧ -(2 ^ 60) < j ∧ j < 2 ^ 60 then .ok (rngD i (j - i).toNat) ρ else .bad
  | _ => .bad
def iZipD (f : Env → R (List Av)) : Env → R (List D) := fun ρ => (f ρ).bind fun as ρ =>
  match as with
  | [.im (.lst ds), .im (.lst es)] => .ok (zipD ds es) ρ
  | _ => .bad
variable {tr : TA} {fr : Env → R (List Av)}
theorem di_list (h : DE K W te f) : DI K W (iList K te) (iListD f) := fun ks σ0 Fm B H σ ρ Q I p =>
  h ks σ0 Fm B H σ ρ _ I (PtG.step p fun rv ρ1 B1 H1 v s I1 v1 p1 => by
    obtain ⟨B2, s2, I2, i2⟩ := freeze I1 v1
    cases e : rv.d with
    | lst ds =>
      rw [e] at p1 i2
      obtain ⟨a, xs, rfl, ha, kk⟩ := i2.lstV
      exact ⟨a, rfl, ⟨xs, .inl (.inl (I2.ex _ _ ha))⟩, p1 B2 H1 _ s2 I2 (wk_list (.inl (.inl ha)) kk)⟩
    | scr ns =>
      rw [e] at p1 i2
      obtain ⟨a, rfl, ha⟩ := i2.scrV
      exact ⟨a, rfl, ⟨_, I2.ex.seq ha⟩, p1 B2 H1 _ s2 I2 (wk_list ha (isA_ints ns))⟩
    | _ => rw [e] at p1; exact p1.elim)
theorem di_tup (h : DE K W te f) : DI K W (iTup K te) (iTupD f) := fun ks σ0 Fm B H σ ρ Q I p =>
  h ks σ0 Fm B H σ ρ _ I (PtG.step p fun rv ρ1 B1 H1 v s I1 v1 p1 => by
    obtain ⟨B2, s2, I2, i2⟩ := freeze I1 v1
    cases e : rv.d with
    | tup ds =>
      rw [e] at p1 i2
      obtain ⟨a, xs, rfl, ha, kk⟩ := i2.tupV
      exact ⟨a, rfl, ⟨xs, .inl (.inl (I2.ex _ _ ha))⟩, p1 B2 H1 _ s2 I2 (wk_tup (.inl (.inl ha)) kk)⟩
    | _ => rw [e] at p1; exact p1.elim)
theorem arg1 {σ : L2.St} {B H : Hp} {ρ : Env} {vs : List V} {d : D} (h : ArgIs K σ B H ρ vs [.im d]) : ∃ v, vs = [v] ∧ Is K B v d := by
  cases h with
  | cons a b =>
    cases b
    exact ⟨_, rfl, a⟩
theorem arg2 {σ : L2.St} {B H : Hp} {ρ : Env} {vs : List V} {d e : D} (h : ArgIs K σ B H ρ vs [.im d, .im e]) : ∃ v w, vs = [v, w] ∧ Is K B v d ∧ Is K B w e := by
  cases h with
  | cons a b =>
    obtain ⟨w, rfl, h⟩ := arg1 (σ := σ) (B := B) (H := H) (ρ := ρ) b
    exact ⟨_, _, rfl, a, h⟩
theorem di_rng1 (h : DA K W tr fr) : DI K W (iRng1 tr) (iRng1D fr) := fun ks σ0 Fm B H σ ρ Q I p =>
  h ks σ0 Fm B H σ ρ _ I (PtG.step p fun as ρ1 B1 H1 vs s I1 v1 p1 => by
    split at p1
    · rename_i j
      obtain ⟨v, rfl, hv⟩ := arg1 v1
      by_cases hl : -(2 ^ 60) < j ∧ j < 2 ^ 60
      · rw [if_pos hl] at p1
        exact ⟨j, by rw [hv.intV], by omega, by omega, p1 B1 H1 _ (Same.refl B1) I1 wk_rng⟩
      · rw [if_neg hl] at p1
        exact p1.elim
    · exact p1.elim)
theorem di_rng2 (h : DA K W tr fr) : DI K W (iRng2 tr) (iRng2D fr) := fun ks σ0 Fm B H σ ρ Q I p =>
  h ks σ0 Fm B H σ ρ _ I (PtG.step p fun as ρ1 B1 H1 vs s I1 v1 p1 => by
    split at p1
    · rename_i i j
      obtain ⟨v, w, rfl, hv, hw⟩ := arg2 v1
      by_cases hl : (-(2 ^ 60) < i ∧ i < 2 ^ 60) ∧ -(2 ^ 60) < j ∧ j < 2 ^ 60
      · rw [if_pos hl] at p1
        exact ⟨i, j, by rw [hv.intV, hw.intV], by omega, p1 B1 H1 _ (Same.refl B1) I1 wk_rng⟩
      · rw [if_neg hl] at p1
        exact p1.elim
    · exact p1.elim)
theorem di_zip (h : DA K W tr fr) : DI K W (iZip K tr) (iZipD fr) := fun ks σ0 Fm B H σ ρ Q I p =>
  h ks σ0 Fm B H σ ρ _ I (PtG.step p fun as ρ1 B1 H1 vs s I1 v1 p1 => by
    split at p1
    · obtain ⟨v, w, rfl, hv, hw⟩ := arg2 v1
      obtain ⟨a, xs, rfl, ha, kk⟩ := hv.lstV
      obtain ⟨b, ys, rfl, hb, kk'⟩ := hw.lstV
      exact ⟨a, b, xs, ys, rfl, .inl (.inl (I1.ex _ _ ha)), .inl (.inl (I1.ex _ _ hb)), p1 B1 H1 _ (Same.refl B1) I1 (wk_zip (.inl (.inl ha)) (.inl (.inl hb)) kk kk')⟩
    · exact p1.elim)

/-! ### for -/
theorem ds_for {wi : TI} {fi : Env → R (List D)} {js : List Nat} {gt : TG} {tg : Tg} (hi : DI K W wi fi) (hg : DTg K ks js gt tg) (hb : DS K W ks t g) : DS K W ks (tFor wi gt t) (sFor fi tg g) := fun σ0 Fm B H σ ρ E I p =>
  hi ks σ0 Fm B H σ ρ _ I (PtS.step p fun items ρ1 B1 H1 J s I1 v1 p1 => by
    refine ⟨fun i m σ' H' => m = items.length - i ∧ i ≤ items.length ∧ ∃ B' ρ', Same B1 B' ∧ IV K ks σ0 Fm B' H' σ' ρ' ∧ PtS K ks σ0 Fm W B1 E (dFor (stepOf tg g) (items.drop i) ρ'),
      ⟨items.length, by simp, Nat.zero_le _, B1, ρ1, Same.refl B1, I1, p1⟩, ?_⟩
    rintro i m σ' H' ⟨rfl, hi', B', ρ', s', I', p'⟩
    obtain ⟨hgo, hstop⟩ := v1 ks σ0 Fm B' H' σ' ρ' i s' I'
    by_cases hlt : i < items.length
    · obtain ⟨go, yl⟩ := hgo hlt
      refine .inr ⟨go, fun σ2 H2 => ∃ B2 ρ2, Same B1 B2 ∧ IV K ks σ0 Fm B2 H2 σ2 ρ2 ∧ PtS K ks σ0 Fm W B1 E (dFor (stepOf tg g) (items.drop (i + 1)) ρ2),
        fun σ2 H2 ⟨B2, ρ2, a, b, c⟩ => ⟨items.length - (i + 1), by omega, rfl, hlt, B2, ρ2, a, b, c⟩, fun x H2 y => ?_⟩
      obtain ⟨B2, d, hd, s2, _, I2, i2⟩ := yl x H2 y
      have ed : items.drop i = d :: items.drop (i + 1) := by
        rw [List.drop_eq_getElem_cons hlt]
        rw [List.getElem?_eq_getElem hlt] at hd
        rw [Option.some.inj hd]
      rw [ed] at p'
      have p2 : PtS K ks σ0 Fm W B1 E (match stepOf tg g d ρ' with
        | .nx ρ' => dFor (stepOf tg g) (items.drop (i + 1)) ρ'
        | .ct ρ' => dFor (stepOf tg g) (items.drop (i + 1)) ρ'
        | .brk ρ' => .nx ρ'
        | o => o) := p'
      cases e : tg d ρ' with
      | none =>
        rw [show stepOf tg g d ρ' = .bad by unfold stepOf; rw [e]] at p2
        exact p2.elim
      | some ρ3 =>
        rw [show stepOf tg g d ρ' = g ρ3 by unfold stepOf; rw [e]] at p2
        refine hg σ0 Fm B2 H2 σ' ρ' x d ρ3 _ I2 i2 e fun σ3 I3 _ => ?_
        refine hb σ0 Fm B2 H2 σ3 ρ3 _ I3 ?_
        have s3 : Same B1 B2 := s'.trans s2
        cases eg : g ρ3 with
        | nx ρ4 =>
          rw [eg] at p2
          exact fun B4 H4 σ4 s4 I4 => ⟨B4, ρ4, s3.trans s4, I4, p2⟩
        | ct ρ4 =>
          rw [eg] at p2
          exact fun B4 H4 σ4 s4 I4 => ⟨B4, ρ4, s3.trans s4, I4, p2⟩
        | brk ρ4 =>
          rw [eg] at p2
          exact fun B4 H4 σ4 s4 I4 => p2 B4 H4 σ4 (s3.trans s4) I4
        | ret rv ρ4 =>
          rw [eg] at p2
          exact fun B4 H4 σ4 v s4 I4 x4 => p2 B4 H4 σ4 v (s3.trans s4) I4 x4
        | exc C dd ρ4 =>
          rw [eg] at p2
          exact fun B4 H4 σ4 dx s4 I4 x4 => p2 B4 H4 σ4 dx (s3.trans s4) I4 x4
        | bad =>
          rw [eg] at p2
          exact p2.elim
    · have e : i = items.length := by omega
      subst e
      rw [List.drop_length] at p'
      exact .inl ⟨hstop (Nat.le_refl _), p' B' H' σ' s' I'⟩)
end
end DL

/-! DL, part e: comprehensions, calls, defs. -/
namespace DL
open PySem PySem.Spec PyProof.Rows L2

/-! ### comprehensions -/
def isOwn : Option Sl → Bool
  | some (.own _) => true
  | some (.bk _) => true
  | _ => false
def okW (vs : List Nat) (ρ : Env) : Bool := vs.all fun i => !isOwn ρ[i]?
def wipeE (ρ : Env) : List Nat → Env
  | [] => ρ
  | v :: vs => (wipeE ρ vs).set v .no
def restore (ρ : Env) : List Nat → Env → Env
  | [], ρ' => ρ'
  | v :: vs, ρ' => (restore ρ vs ρ').set v (ρ.getD v .no)
def dComp (vs : List Nat) (tg : Tg) (ft : Env → R Bool) (fe : Env → R Rv) : List D → List D → Env → R (List D)
  | acc, [], ρ => .ok acc ρ
  | acc, d :: ds, ρ =>
    match tg d (wipeE ρ vs) with
    | none => .bad
    | some ρ2 => ((ft ρ2).nx).bind fun b ρ3 => if b = true then ((fe ρ3).nx).bind fun rv ρ4 => if acc.length < 100000 then dComp vs tg ft fe (acc ++ [rv.d]) ds (restore ρ vs ρ4) else .bad
      else dComp vs tg ft fe acc ds (restore ρ vs ρ3)
def eComp (vs : List Nat) (fi : Env → R (List D)) (tg : Tg) (ft : Env → R Bool) (fe : Env → R Rv) : Env → R Rv := fun ρ => (fi ρ).bind fun items ρ => cond (okW vs ρ) ((dComp vs tg ft fe [] items ρ).bind fun acc ρ => .ok (.own acc) ρ) .bad
def tYesD : Env → R Bool := fun ρ => .ok true ρ
abbrev W0 : WX := fun _ _ _ _ => False
section
variable {K : PySem.W.Frag} {W : WX} {ks : List Nat} {σ0 : L2.St} {Fm B H : Hp} {σ : L2.St} {ρ : Env}
theorem okW_get {vs : List Nat} (h : okW vs ρ = true) {i : Nat} (hi : i ∈ vs) {ds : List D} (e : ρ[i]? = some (.own ds)) : False := by
  have h1 := List.all_eq_true.mp h i hi
  rw [e] at h1
  exact Bool.noConfusion (show false = true from h1)
theorem okW_getB {vs : List Nat} (h : okW vs ρ = true) {i : Nat} (hi : i ∈ vs) {t : Bd} (e : ρ[i]? = some (.bk t)) : False := by
  have h1 := List.all_eq_true.mp h i hi
  rw [e] at h1
  exact Bool.noConfusion (show false = true from h1)
theorem wipeE_len : ∀ {vs : List Nat}, (wipeE ρ vs).length = ρ.length
  | [] => rfl
  | v :: vs => by
    show ((wipeE ρ vs).set v .no).length = _
    rw [List.length_set, wipeE_len]
theorem wipeE_get : ∀ {vs : List Nat} (i : Nat), (wipeE ρ vs)[i]? = if i ∈ vs then (if i < ρ.length then some .no else none) else ρ[i]?
  | [], i => by
    rw [if_neg (by simp)]
    rfl
  | v :: vs, i => by
    show ((wipeE ρ vs).set v .no)[i]? = _
    by_cases h : v = i
    · subst h
      rw [if_pos (by simp)]
      by_cases hl : v < ρ.length
      · rw [if_pos hl, List.getElem?_set_self (by rw [wipeE_len]; exact hl)]
      · rw [if_neg hl, List.getElem?_eq_none (by rw [List.length_set, wipeE_len]; omega)]
    · rw [List.getElem?_set_ne h, wipeE_get (vs := vs) i]
      have e : (i ∈ v :: vs) = (i ∈ vs) := by
        rw [List.mem_cons]
        exact propext ⟨fun z => z.elim (fun q => absurd q.symm h) id, .inr⟩
      simp only [e]
theorem restore_len {ρ' : Env} : ∀ {vs : List Nat}, (restore ρ vs ρ').length = ρ'.length
  | [] => rfl
  | v :: vs => by
    show ((restore ρ vs ρ').set v _).length = _
    rw [List.length_set, restore_len]
theorem restore_get {ρ' : Env} : ∀ {vs : List Nat} (i : Nat), (restore ρ vs ρ')[i]? = if i ∈ vs then (if i < ρ'.length then some (ρ.getD i .no) else none) else ρ'[i]?
  | [], i => by
    rw [if_neg (by simp)]
    rfl
  | v :: vs, i => by
    show ((restore ρ vs ρ').set v (ρ.getD v .no))[i]? = _
    by_cases h : v = i
    · subst h
      rw [if_pos (by simp)]
      by_cases hl : v < ρ'.length
      · rw [if_pos hl, List.getElem?_set_self (by rw [restore_len]; exact hl)]
      · rw [if_neg hl, List.getElem?_eq_none (by rw [List.length_set, restore_len]; omega)]
    · rw [List.getElem?_set_ne h, restore_get (vs := vs) i]
      have e : (i ∈ v :: vs) = (i ∈ vs) := by
        rw [List.mem_cons]
        exact propext ⟨fun z => z.elim (fun q => absurd q.symm h) id, .inr⟩
      simp only [e]
theorem getD_of {i : Nat} {x : Sl} (h : ρ.getD i .no = x) (hl : i < ρ.length) : ρ[i]? = some x := by
  rw [List.getD_eq_getElem?_getD] at h
  rw [List.getElem?_eq_getElem hl] at h ⊢
  exact congrArg some h
theorem okW_restore {vs : List Nat} {ρ' : Env} (h : okW vs ρ = true) : okW vs (restore ρ vs ρ') = true := by
  refine List.all_eq_true.mpr fun i hi => ?_
  rw [restore_get, if_pos hi]
  by_cases hl : i < ρ'.length
  · rw [if_pos hl]
    have h1 := List.all_eq_true.mp h i hi
    rw [List.getD_eq_getElem?_getD]
    cases e : ρ[i]? with
    | none => rfl
    | some x =>
      rw [e] at h1
      exact h1
  · rw [if_neg hl]
    rfl
theorem IV.wiped (I : IV K ks σ0 Fm B H σ ρ) (vs : List Nat) : IV K [] σ0 Fm B H (wipe σ vs) (wipeE ρ vs) := by
  have sub : ∀ {i : Nat} {x : Sl}, x ≠ .no → (wipeE ρ vs)[i]? = some x → i ∉ vs ∧ ρ[i]? = some x := fun {i x} hx h => by
    rw [wipeE_get] at h
    by_cases hi : i ∈ vs
    · rw [if_pos hi] at h
      by_cases hl : i < ρ.length
      · rw [if_pos hl] at h
        exact absurd (Option.some.inj h).symm hx
      · rw [if_neg hl] at h
        cases h
    · rw [if_neg hi] at h
      exact ⟨hi, h⟩
  refine ⟨I.ex, I.fr, I.fb, by rw [wipe_length, wipeE_len]; exact I.len, fun i d h => ?_, fun i ds h => ?_, fun i j ds es a hij h1 h2 h3 h4 => ?_, (fun j hj => by cases hj), I.bs.to (fun i t h => (sub (by intro z; cases z) h).2) (fun i t h => by rw [wipe_get, if_neg (sub (by intro z; cases z) h).1]) (Same.refl B) fun i t v p e e2 f hl hbn hfn ho => ⟨rfl, hbn, hfn, fun j ds q r => by
    obtain ⟨hj, q⟩ := sub (by intro z; cases z) q
    rw [wipe_get, if_neg hj] at r
    exact ho j ds q r⟩⟩
  · obtain ⟨hi, h⟩ := sub (by intro z; cases z) h
    rw [wipe_get, if_neg hi]
    exact I.im i d h
  · obtain ⟨hi, h⟩ := sub (by intro z; cases z) h
    rw [wipe_get, if_neg hi]
    exact I.own i ds h
  · obtain ⟨hi, h1⟩ := sub (by intro z; cases z) h1
    obtain ⟨hj, h2⟩ := sub (by intro z; cases z) h2
    rw [wipe_get, if_neg hi] at h3
    rw [wipe_get, if_neg hj] at h4
    exact I.dj i j ds es a hij h1 h2 h3 h4
theorem IV.restored {vs : List Nat} {B4 H4 : Hp} {σ2 : L2.St} {ρ4 : Env} (I : IV K ks σ0 Fm B H σ ρ) (hw : okW vs ρ = true) (s : Same B B4) (I4 : IV K [] σ0 Fm B4 H4 σ2 ρ4) (e : wipe σ2 vs = wipe σ vs) : IV K ks σ0 Fm B4 H4 σ (restore ρ vs ρ4) := by
  have el : σ2.length = σ.length := by
    have := congrArg List.length e
    rwa [wipe_length, wipe_length] at this
  have elr : ρ4.length = ρ.length := by rw [← I4.len, el, I.len]
  have same : ∀ {i : Nat}, i ∉ vs → σ2[i]? = σ[i]? := fun {i} hi => by
    have := congrArg (fun l => l[i]?) e
    simp only [wipe_get, if_neg hi] at this
    exact this
  have own_out : ∀ {i : Nat} {ds : List D}, (restore ρ vs ρ4)[i]? = some (.own ds) → i ∉ vs ∧ ρ4[i]? = some (.own ds) := fun {i ds} h => by
    rw [restore_get] at h
    by_cases hi : i ∈ vs
    · rw [if_pos hi] at h
      by_cases hl : i < ρ4.length
      · rw [if_pos hl] at h
        exact (okW_get hw hi (getD_of (Option.some.inj h) (by omega))).elim
      · rw [if_neg hl] at h
        cases h
    · rw [if_neg hi] at h
      exact ⟨hi, h⟩
  have bk_out : ∀ {i : Nat} {ds : Bd}, (restore ρ vs ρ4)[i]? = some (.bk ds) → i ∉ vs ∧ ρ4[i]? = some (.bk ds) := fun {i ds} h => by
    rw [restore_get] at h
    by_cases hi : i ∈ vs
    · rw [if_pos hi] at h
      by_cases hl : i < ρ4.length
      · rw [if_pos hl] at h
        exact (okW_getB hw hi (getD_of (Option.some.inj h) (by omega))).elim
      · rw [if_neg hl] at h
        cases h
    · rw [if_neg hi] at h
      exact ⟨hi, h⟩
  refine ⟨I4.ex, I4.fr, I4.fb, by rw [restore_len, elr, I.len], fun i d h => ?_, fun i ds h => ?_, fun i j ds es a hij h1 h2 h3 h4 => ?_, I.pin, I4.bs.to (fun i t h => (bk_out h).2) (fun i t h => (same (bk_out h).1).symm) (Same.refl B4) fun i t v p e e2 f hl hbn hfn ho => ⟨rfl, hbn, hfn, fun j ds q r => by
    obtain ⟨hj, q⟩ := own_out q
    rw [← same hj] at r
    exact ho j ds q r⟩⟩
  · rw [restore_get] at h
    by_cases hi : i ∈ vs
    · rw [if_pos hi] at h
      by_cases hl : i < ρ4.length
      · rw [if_pos hl] at h
        obtain ⟨v, h1, h2⟩ := I.im i d (getD_of (Option.some.inj h) (by omega))
        exact ⟨v, h1, h2.mono s⟩
      · rw [if_neg hl] at h
        cases h
    · rw [if_neg hi] at h
      rw [← same hi]
      exact I4.im i d h
  · obtain ⟨hi, h⟩ := own_out h
    rw [← same hi]
    exact I4.own i ds h
  · obtain ⟨hi, h1⟩ := own_out h1
    obtain ⟨hj, h2⟩ := own_out h2
    rw [← same hi] at h3
    rw [← same hj] at h4
    exact I4.dj i j ds es a hij h1 h2 h3 h4
/-- an object that nothing knows may be held fast, and let go -/
theorem IV.lock {p : Addr} {o : HO} (I : IV K ks σ0 Fm B H σ ρ) (h : H p = some o) (hB : B p = none) (hF : Fm p = none) (hn : Apart H σ ρ p) : IV K ks σ0 (upd Fm p o) B H σ ρ := by
  refine ⟨I.ex, fun b u e => ?_, fun b u e => ?_, I.len, I.im, fun i ds e => ?_, I.dj, I.pin, I.bs.to (fun i t e => e) (fun i t e => rfl) (Same.refl B) fun i t w q e e2 f hl hbn hfn ho => ⟨rfl, hbn, by rw [upd_ne fun z => hn.b i t w e e2 (by rw [← z]; exact f)]; exact hfn, ho⟩⟩
  · by_cases hb : b = p
    · subst hb
      rw [upd_same] at e
      rw [h, e]
    · rw [upd_ne hb] at e
      exact I.fr b u e
  · by_cases hb : b = p
    · subst hb
      exact hB
    · rw [upd_ne hb] at e
      exact I.fb b u e
  · obtain ⟨a, xs, h1, h2, h3, h4, h5⟩ := I.own i ds e
    have hne : a ≠ p := fun z => hn.o i ds e (by rw [h1, z])
    exact ⟨a, xs, h1, h2, h3, by rw [upd_ne hne]; exact h4, h5⟩
theorem IV.unlock {p : Addr} {o : HO} (I : IV K ks σ0 (upd Fm p o) B H σ ρ) (hF : Fm p = none) : IV K ks σ0 Fm B H σ ρ ∧ H p = some o ∧ B p = none ∧ Apart H σ ρ p := by
  have ne_p : ∀ {q : Addr}, (upd Fm p o) q = none → q ≠ p := fun {q} h z => by
    rw [z, upd_same] at h
    cases h
  refine ⟨⟨I.ex, fun b u e => I.fr b u ?_, fun b u e => I.fb b u ?_, I.len, I.im, fun i ds e => ?_, I.dj, I.pin, I.bs.to (fun i t e => e) (fun i t e => rfl) (Same.refl B) fun i t w q e e2 f hl hbn hfn ho => ⟨rfl, hbn, by rw [upd_ne (ne_p hfn)] at hfn; exact hfn, ho⟩⟩, I.fr p o upd_same, I.fb p o upd_same, fun i es e z => ?_, fun i t w e e2 f => ?_⟩
  · rw [upd_ne (ne_of_none e hF)]
    exact e
  · rw [upd_ne (ne_of_none e hF)]
    exact e
  · obtain ⟨a, xs, h1, h2, h3, h4, h5⟩ := I.own i ds e
    have hne : a ≠ p := fun z => by
      subst z
      rw [upd_same] at h4
      cases h4
    rw [upd_ne hne] at h4
    exact ⟨a, xs, h1, h2, h3, h4, h5⟩
  · obtain ⟨a, xs, h1, h2, h3, h4, h5⟩ := I.own i es e
    rw [z] at h1
    cases h1
    rw [upd_same] at h4
    cases h4
  · obtain ⟨v, k1, _, k3⟩ := I.bs.bk i t e
    rw [e2] at k1
    cases k1
    exact ne_p (k3 p f).2 rfl
theorem IV.updFree {p : Addr} {o : HO} (I : IV K ks σ0 Fm B H σ ρ) (hB : B p = none) (hF : Fm p = none) (hn : Apart H σ ρ p) : IV K ks σ0 Fm B (upd H p o) σ ρ := by
  refine ⟨fun b u e => ?_, fun b u e => ?_, I.fb, I.len, I.im, fun i ds e => ?_, I.dj, I.pin, I.bs.to (fun i t e => e) (fun i t e => rfl) (Same.refl B) fun i t w q e e2 f hl hbn hfn ho => ⟨upd_ne fun z => hn.b i t w e e2 (by rw [← z]; exact f), hbn, hfn, ho⟩⟩
  · rw [upd_ne (ne_of_none e hB)]
    exact I.ex b u e
  · rw [upd_ne (ne_of_none e hF)]
    exact I.fr b u e
  · obtain ⟨a, xs, h1, h2, h3, h4, h5⟩ := I.own i ds e
    have hne : a ≠ p := fun z => hn.o i ds e (by rw [h1, z])
    exact ⟨a, xs, h1, by rw [upd_ne hne]; exact h2, h3, h4, h5⟩
theorem nx_step {α β γ δ : Type} {vis : Hp → Hp → Env → β → α → Prop} {vis2 : Hp → Hp → Env → δ → γ → Prop} {ks2 : List Nat} {Fm2 B2 : Hp} {σ2 : L2.St} {Q : δ → Hp → Prop} {Q1 : β → Hp → Prop} {r : R α} {k : α → Env → R γ}
    (h : PtG K ks σ0 Fm W vis2 B σ Q ((r.nx).bind k))
    (go : ∀ a ρ1 B1 H1 b, Same B2 B1 → IV K ks2 σ0 Fm2 B1 H1 σ2 ρ1 → vis B1 H1 ρ1 b a → PtG K ks σ0 Fm W vis2 B σ Q (k a ρ1) → Q1 b H1) : PtG K ks2 σ0 Fm2 W0 vis B2 σ2 Q1 r := by
  cases r with
  | ok a ρ1 => exact fun B1 H1 b s i v => go a ρ1 B1 H1 b s i v h
  | exc C d ρ' => exact h.elim
  | bad => exact h.elim
theorem PtG.ends {α β γ : Type} {vis : Hp → Hp → Env → β → γ → Prop} {Q : β → Hp → Prop} {r : R α} {k : α → Env → R γ} (h : PtG K ks σ0 Fm W vis B σ Q (r.bind k)) (e : r = .bad) : False := by
  rw [e] at h
  exact h
theorem de_comp {wi : TI} {fi : Env → R (List D)} {js vs : List Nat} {gt : TG} {tg : Tg} {tt : TT} {ft : Env → R Bool} {te : TE} {fe : Env → R Rv} (hi : DI K W wi fi) (hg : DTg K [] js gt tg) (hj : ∀ j ∈ js, j ∈ vs) (ht : DT K W0 tt ft) (he : DE K W0 te fe) :
    DE K W (tLc wi gt tt te vs) (eComp vs fi tg ft fe) := fun ks σ0 Fm B H σ ρ Q I p =>
  hi ks σ0 Fm B H σ ρ _ I (PtG.step p fun items ρ1 B1 H1 J s I1 v1 p1 => by
    have p1 : PtG K ks σ0 Fm W (vE K Fm σ) B1 σ Q (cond (okW vs ρ1) ((dComp vs tg ft fe [] items ρ1).bind fun acc ρ => .ok (.own acc) ρ) .bad) := p1
    cases hw : okW vs ρ1 with
    | false =>
      rw [hw] at p1
      exact p1.elim
    | true =>
    rw [hw] at p1
    intro Dl hDl
    have hB1 : B1 Dl = none := I1.ex.free hDl
    have hF : Fm Dl = none := I1.fr.free hDl
    have hn1 : Apart (upd H1 Dl (.lst [])) σ ρ1 Dl := ⟨fun i es e z => (by
      obtain ⟨b, ys, g1, g2, _⟩ := I1.own i es e
      rw [z] at g1
      cases g1
      rw [hDl] at g2
      cases g2), fun i t w e e2 => I1.bs.fresh hDl e e2⟩
    refine ⟨fun i m H' => m = items.length - i ∧ i ≤ items.length ∧ ∃ B' ρ' accV acc, Same B1 B' ∧ IV K ks σ0 Fm B' H' σ ρ' ∧ okW vs ρ' = true ∧ H' Dl = some (.lst accV) ∧ B' Dl = none ∧
        Apart H' σ ρ' Dl ∧ IsA K B' accV acc ∧ PtG K ks σ0 Fm W (vE K Fm σ) B1 σ Q ((dComp vs tg ft fe acc (items.drop i) ρ').bind fun acc ρ => .ok (.own acc) ρ),
      ⟨items.length, by simp, Nat.zero_le _, B1, ρ1, [], [], Same.refl B1, I1.made hDl, hw, upd_same, hB1, hn1, .nil, p1⟩, ?_⟩
    rintro i m H' ⟨rfl, hi', B', ρ', accV, acc, s', I', hw', hD', hB', hn', hA', p'⟩
    have IL := I'.lock hD' hB' hF hn'
    obtain ⟨hgo, hstop⟩ := v1 ks σ0 _ B' H' σ ρ' i s' IL
    by_cases hlt : i < items.length
    · obtain ⟨go, yl⟩ := hgo hlt
      refine .inr ⟨go, fun H2 => ∃ B2 ρ2 accV acc, Same B1 B2 ∧ IV K ks σ0 Fm B2 H2 σ ρ2 ∧ okW vs ρ2 = true ∧ H2 Dl = some (.lst accV) ∧ B2 Dl = none ∧
        Apart H2 σ ρ2 Dl ∧ IsA K B2 accV acc ∧ PtG K ks σ0 Fm W (vE K Fm σ) B1 σ Q ((dComp vs tg ft fe acc (items.drop (i + 1)) ρ2).bind fun acc ρ => .ok (.own acc) ρ),
        fun H2 h2 => ⟨items.length - (i + 1), by omega, rfl, hlt, h2⟩, fun x H2 y => ?_⟩
      obtain ⟨B2, d, hd, s2, _, I2, i2⟩ := yl x H2 y
      have ed : items.drop i = d :: items.drop (i + 1) := by
        rw [List.drop_eq_getElem_cons hlt]
        rw [List.getElem?_eq_getElem hlt] at hd
        rw [Option.some.inj hd]
      rw [ed] at p'
      cases e : tg d (wipeE ρ' vs) with
      | none =>
        refine (PtG.ends p' ?_).elim
        rw [dComp, e]
      | some ρ3 =>
        have p2 : PtG K ks σ0 Fm W (vE K Fm σ) B1 σ Q ((((ft ρ3).nx).bind fun b ρ3 => if b = true then ((fe ρ3).nx).bind fun rv ρ4 => if acc.length < 100000 then dComp vs tg ft fe (acc ++ [rv.d]) (items.drop (i + 1)) (restore ρ' vs ρ4) else .bad
            else dComp vs tg ft fe acc (items.drop (i + 1)) (restore ρ' vs ρ3)).bind fun acc ρ => .ok (.own acc) ρ) := by
          rw [dComp, e] at p'
          exact p'
        refine hg σ0 _ B2 H2 (wipe σ vs) (wipeE ρ' vs) x d ρ3 _ (I2.wiped vs) i2 e fun σ3 I3 w3 => ?_
        have ew : wipe σ3 vs = wipe σ vs := by
          rw [w3 vs hj]
          refine List.ext_getElem? fun j => ?_
          rw [wipe_get, wipe_get, wipe_length]
          by_cases hjv : j ∈ vs
          · rw [if_pos hjv, if_pos hjv]
          · rw [if_neg hjv, if_neg hjv]
        refine ⟨ew, ?_⟩
        have as1 : ∀ {α : Type} {r : R α} {k1 : α → Env → R (List D)} {k2 : List D → Env → R Rv}, ((r.bind k1).bind k2) = r.bind fun a ρ => (k1 a ρ).bind k2 := fun {α r k1 k2} => by cases r <;> rfl
        rw [as1] at p2
        refine ht [] σ0 _ B2 H2 σ3 ρ3 _ I3 (nx_step p2 fun b ρ4 B4 H4 b' s4 I4 v4 p4 => ?_)
        cases (show b' = b from v4)
        cases b with
        | false =>
          show ∃ B2 ρ2 accV acc, _
          obtain ⟨I5, g1, g2, g3⟩ := (IV.restored I2 hw' s4 I4 ew).unlock hF
          exact ⟨B4, restore ρ' vs ρ4, accV, acc, (s'.trans s2).trans s4, I5, okW_restore hw', g1, g2, g3, hA'.mono (s2.trans s4), p4⟩
        | true =>
          have p5 : PtG K ks σ0 Fm W (vE K Fm σ) B1 σ Q ((((fe ρ4).nx).bind fun rv ρ4 => if acc.length < 100000 then dComp vs tg ft fe (acc ++ [rv.d]) (items.drop (i + 1)) (restore ρ' vs ρ4) else .bad).bind fun acc ρ => .ok (.own acc) ρ) := p4
          rw [as1] at p5
          show te σ3 H4 _
          refine he [] σ0 _ B4 H4 σ3 ρ4 _ I4 (nx_step p5 fun rv ρ6 B6 H6 v s6 I6 v6 p6 => ?_)
          obtain ⟨B7, s7, I7, i7⟩ := freeze I6 v6
          obtain ⟨I8, g1, g2, g3⟩ := (IV.restored I2 hw' ((s4.trans s6).trans s7) I7 ew).unlock hF
          by_cases hl : acc.length < 100000
          · rw [if_pos hl] at p6
            have sA : Same B' B7 := ((s2.trans s4).trans s6).trans s7
            exact ⟨accV, g1, by rw [hA'.len]; exact sz_lt hl, B7, restore ρ' vs ρ6, accV ++ [v], acc ++ [rv.d], s'.trans sA, I8.updFree g2 hF g3, okW_restore hw', upd_same, g2, g3.upd, (hA'.mono sA).app (.cons i7 .nil), p6⟩
          · rw [if_neg hl] at p6
            exact p6.elim
    · have e : i = items.length := by omega
      subst e
      rw [List.drop_length] at p'
      refine .inl ⟨hstop (Nat.le_refl _), ?_⟩
      exact p' B' H' (.ref Dl) s' I' ⟨Dl, accV, rfl, hD', hB', hF, hA', hn'⟩)
theorem dt_yes : DT K W tYes tYesD := fun ks σ0 Fm B H σ ρ Q I p => p B H true (Same.refl B) I rfl
end
end DL

/-! DL, part f: calls and defs. -/
namespace DL
open PySem PySem.Spec PyProof.Rows L2

/-- the arguments as a callee's first frame -/
def argsOf (ρ : Env) : List Av → Option Env
  | [] => some []
  | .im d :: r => (argsOf ρ r).map (Sl.im d :: ·)
  | .sl i :: r =>
    match ρ[i]? with
    | some (.own ds) => (argsOf ρ r).map (Sl.own ds :: ·)
    | some (.bk t) => (argsOf ρ r).map (Sl.bk t :: ·)
    | _ => none
def slots : List Av → List Nat
  | [] => []
  | .im _ :: r => slots r
  | .sl i :: r => i :: slots r
def putBack : List Av → Env → Env → Env
  | .sl i :: avs, a :: as, ρ => putBack avs as (ρ.set i a)
  | .im _ :: avs, _ :: as, ρ => putBack avs as ρ
  | _, _, ρ => ρ
def backTo1 (avs : List Av) (ρ : Env) (r : R Rv) : R Rv :=
  match r with
  | .ok rv as' => .ok rv (putBack avs as' ρ)
  | .exc C d as' => .exc C d (putBack avs as' ρ)
  | .bad => .bad
def doCall (n : Nat) (F : Env → R Rv) (avs : List Av) (ρ : Env) : R Rv :=
  if avs.length = n ∧ (slots avs).Nodup then
    match argsOf ρ avs with
    | some as => backTo1 avs ρ (F as)
    | none => .bad
  else .bad
def eCall (n : Nat) (F : Env → R Rv) (fa : Env → R (List Av)) : Env → R Rv := fun ρ => (fa ρ).bind fun avs ρ => doCall n F avs ρ
/-- a call from which nothing may leave -/
def eCall0 (n : Nat) (F : Env → R Rv) (fa : Env → R (List Av)) : Env → R Rv := fun ρ => (fa ρ).bind fun avs ρ => (doCall n F avs ρ).nx
/-- a promise: the data function -/
def spD (K : PySem.W.Frag) (n : Nat) (F : Env → R Rv) : Sp := fun vs H Q E => vs.length = n ∧ ∃ Fm B as, IV K [] [] Fm B H (vs.map some) as ∧ (∀ a ∈ as, a ≠ .no) ∧
  PtG K [] [] Fm (fun c d _ H' => E c d H') (vE K Fm (vs.map some)) B (vs.map some) Q (F as)

section
variable {K : PySem.W.Frag} {W : WX} {ks : List Nat} {σ0 : L2.St} {Fm B H : Hp} {σ : L2.St} {ρ : Env}
theorem pb_out : ∀ {avs : List Av} {as ρ : Env} {j : Nat}, j ∉ slots avs → (putBack avs as ρ)[j]? = ρ[j]?
  | [], _, _, _, _ => rfl
  | .im _ :: avs, [], _, _, _ => rfl
  | .sl _ :: avs, [], _, _, _ => rfl
  | .im d :: avs, a :: as, ρ, j, h => pb_out (avs := avs) (as := as) (ρ := ρ) h
  | .sl i :: avs, a :: as, ρ, j, h => by
    show (putBack avs as (ρ.set i a))[j]? = _
    have h1 : i ≠ j := fun z => h (by rw [z]; exact List.mem_cons_self)
    rw [pb_out (avs := avs) fun z => h (List.mem_cons_of_mem _ z), List.getElem?_set_ne h1]
theorem pb_in : ∀ {avs : List Av} {as ρ : Env} {p j : Nat} {a : Sl}, (slots avs).Nodup → avs[p]? = some (.sl j) → as[p]? = some a → j < ρ.length → (putBack avs as ρ)[j]? = some a
  | [], _, _, _, _, _, _, h, _, _ => by simp at h
  | _ :: _, [], _, _, _, _, _, _, h, _ => by simp at h
  | .im d :: avs, b :: as, ρ, 0, j, a, n, h, h2, hl => by simp at h
  | .im d :: avs, b :: as, ρ, p + 1, j, a, n, h, h2, hl => pb_in (avs := avs) (as := as) (ρ := ρ) (p := p) n (by simpa using h) (by simpa using h2) hl
  | .sl i :: avs, b :: as, ρ, 0, j, a, n, h, h2, hl => by
    have e1 : i = j := by
      simp at h
      exact h
    have e2 : b = a := by
      simp at h2
      exact h2
    subst e1 e2
    show (putBack avs as (ρ.set i b))[i]? = _
    rw [pb_out (List.nodup_cons.mp n).1, List.getElem?_set_self hl]
  | .sl i :: avs, b :: as, ρ, p + 1, j, a, n, h, h2, hl =>
    pb_in (avs := avs) (as := as) (ρ := ρ.set i b) (p := p) (List.nodup_cons.mp n).2 (by simpa using h) (by simpa using h2) (by rw [List.length_set]; exact hl)
theorem pb_len : ∀ {avs : List Av} {as ρ : Env}, (putBack avs as ρ).length = ρ.length
  | [], _, _ => rfl
  | .im _ :: avs, [], _ => rfl
  | .sl _ :: avs, [], _ => rfl
  | .im d :: avs, a :: as, ρ => pb_len (avs := avs)
  | .sl i :: avs, a :: as, ρ => by
    show (putBack avs as (ρ.set i a)).length = _
    rw [pb_len, List.length_set]
theorem slots_at : ∀ {avs : List Av} {j : Nat}, j ∈ slots avs → ∃ p : Nat, avs[p]? = some (Av.sl j)
  | [], _, h => by cases h
  | .im d :: avs, j, h => by
    obtain ⟨p, e⟩ := slots_at (avs := avs) h
    exact ⟨p + 1, by simpa using e⟩
  | .sl i :: avs, j, h => by
    rcases List.mem_cons.mp h with e | h
    · exact ⟨0, by rw [e]; rfl⟩
    · obtain ⟨p, e⟩ := slots_at (avs := avs) h
      exact ⟨p + 1, by simpa using e⟩
theorem at_slots : ∀ {avs : List Av} {p j : Nat}, avs[p]? = some (.sl j) → j ∈ slots avs
  | [], _, _, h => by simp at h
  | .im d :: avs, 0, j, h => by simp at h
  | .im d :: avs, p + 1, j, h => at_slots (avs := avs) (p := p) (by simpa using h)
  | .sl i :: avs, 0, j, h => by
    simp at h
    rw [h]
    exact List.mem_cons_self
  | .sl i :: avs, p + 1, j, h => List.mem_cons_of_mem _ (at_slots (avs := avs) (p := p) (by simpa using h))
theorem slots_inj : ∀ {avs : List Av} {p q j : Nat}, (slots avs).Nodup → avs[p]? = some (.sl j) → avs[q]? = some (.sl j) → p = q
  | [], _, _, _, _, h, _ => by simp at h
  | .im d :: avs, 0, _, _, _, h, _ => by simp at h
  | .im d :: avs, _ + 1, 0, _, _, _, h => by simp at h
  | .im d :: avs, p + 1, q + 1, j, n, h, h2 => congrArg (· + 1) (slots_inj (avs := avs) n (by simpa using h) (by simpa using h2))
  | .sl i :: avs, 0, 0, _, _, _, _ => rfl
  | .sl i :: avs, 0, q + 1, j, n, h, h2 => by
    simp at h
    subst h
    exact ((List.nodup_cons.mp n).1 (at_slots (avs := avs) (p := q) (by simpa using h2))).elim
  | .sl i :: avs, p + 1, 0, j, n, h, h2 => by
    simp at h2
    subst h2
    exact ((List.nodup_cons.mp n).1 (at_slots (avs := avs) (p := p) (by simpa using h))).elim
  | .sl i :: avs, p + 1, q + 1, j, n, h, h2 => congrArg (· + 1) (slots_inj (avs := avs) (List.nodup_cons.mp n).2 (by simpa using h) (by simpa using h2))
theorem args_im : ∀ {avs : List Av} {as : Env} {p : Nat} {d : D}, argsOf ρ avs = some as → as[p]? = some (.im d) → avs[p]? = some (.im d)
  | [], _, _, _, e, h => by
    cases e
    simp at h
  | .im c :: avs, as, p, d, e, h => by
    rw [show argsOf ρ (.im c :: avs) = (argsOf ρ avs).map (Sl.im c :: ·) from rfl] at e
    cases q : argsOf ρ avs with
    | none => rw [q] at e; cases e
    | some bs =>
      rw [q] at e
      cases e
      cases p with
      | zero =>
        simp at h
        rw [h]
        rfl
      | succ p => exact args_im (avs := avs) q (by simpa using h)
  | .sl i :: avs, as, p, d, e, h => by
    rw [argsOf] at e
    split at e
    · cases q : argsOf ρ avs with
      | none => rw [q] at e; cases e
      | some bs =>
        rw [q] at e
        cases e
        cases p with
        | zero => simp at h
        | succ p => exact args_im (avs := avs) q (by simpa using h)
    · cases q : argsOf ρ avs with
      | none => rw [q] at e; cases e
      | some bs =>
        rw [q] at e
        cases e
        cases p with
        | zero => simp at h
        | succ p => exact args_im (avs := avs) q (by simpa using h)
    · cases e
theorem args_own : ∀ {avs : List Av} {as : Env} {p : Nat} {ds : List D}, argsOf ρ avs = some as → as[p]? = some (.own ds) → ∃ i, avs[p]? = some (.sl i) ∧ ρ[i]? = some (.own ds)
  | [], _, _, _, e, h => by
    cases e
    simp at h
  | .im c :: avs, as, p, d, e, h => by
    rw [show argsOf ρ (.im c :: avs) = (argsOf ρ avs).map (Sl.im c :: ·) from rfl] at e
    cases q : argsOf ρ avs with
    | none => rw [q] at e; cases e
    | some bs =>
      rw [q] at e
      cases e
      cases p with
      | zero => simp at h
      | succ p => exact args_own (avs := avs) q (by simpa using h)
  | .sl i :: avs, as, p, d, e, h => by
    rw [argsOf] at e
    split at e
    · rename_i ds hds
      cases q : argsOf ρ avs with
      | none => rw [q] at e; cases e
      | some bs =>
        rw [q] at e
        cases e
        cases p with
        | zero =>
          simp at h
          subst h
          exact ⟨i, rfl, hds⟩
        | succ p => exact args_own (avs := avs) q (by simpa using h)
    · rename_i t ht
      cases q : argsOf ρ avs with
      | none => rw [q] at e; cases e
      | some bs =>
        rw [q] at e
        cases e
        cases p with
        | zero => simp at h
        | succ p => exact args_own (avs := avs) q (by simpa using h)
    · cases e
theorem args_bk : ∀ {avs : List Av} {as : Env} {p : Nat} {ds : Bd}, argsOf ρ avs = some as → as[p]? = some (.bk ds) → ∃ i, avs[p]? = some (.sl i) ∧ ρ[i]? = some (.bk ds)
  | [], _, _, _, e, h => by
    cases e
    simp at h
  | .im c :: avs, as, p, d, e, h => by
    rw [show argsOf ρ (.im c :: avs) = (argsOf ρ avs).map (Sl.im c :: ·) from rfl] at e
    cases q : argsOf ρ avs with
    | none => rw [q] at e; cases e
    | some bs =>
      rw [q] at e
      cases e
      cases p with
      | zero => simp at h
      | succ p => exact args_bk (avs := avs) q (by simpa using h)
  | .sl i :: avs, as, p, d, e, h => by
    rw [argsOf] at e
    split at e
    · rename_i t ht
      cases q : argsOf ρ avs with
      | none => rw [q] at e; cases e
      | some bs =>
        rw [q] at e
        cases e
        cases p with
        | zero => simp at h
        | succ p => exact args_bk (avs := avs) q (by simpa using h)
    · rename_i ds hds
      cases q : argsOf ρ avs with
      | none => rw [q] at e; cases e
      | some bs =>
        rw [q] at e
        cases e
        cases p with
        | zero =>
          simp at h
          subst h
          exact ⟨i, rfl, hds⟩
        | succ p => exact args_bk (avs := avs) q (by simpa using h)
    · cases e
theorem args_no : ∀ {avs : List Av} {as : Env}, argsOf ρ avs = some as → as.length = avs.length ∧ ∀ a ∈ as, a ≠ Sl.no
  | [], _, e => by
    cases e
    exact ⟨rfl, fun _ h => by cases h⟩
  | .im c :: avs, as, e => by
    rw [show argsOf ρ (.im c :: avs) = (argsOf ρ avs).map (Sl.im c :: ·) from rfl] at e
    cases q : argsOf ρ avs with
    | none => rw [q] at e; cases e
    | some bs =>
      rw [q] at e
      cases e
      obtain ⟨h1, h2⟩ := args_no q
      exact ⟨by rw [List.length_cons, List.length_cons, h1], fun a h => (List.mem_cons.mp h).elim (fun z => by rw [z]; intro w; cases w) (h2 a)⟩
  | .sl i :: avs, as, e => by
    rw [argsOf] at e
    split at e
    · cases q : argsOf ρ avs with
      | none => rw [q] at e; cases e
      | some bs =>
        rw [q] at e
        cases e
        obtain ⟨h1, h2⟩ := args_no q
        exact ⟨by rw [List.length_cons, List.length_cons, h1], fun a h => (List.mem_cons.mp h).elim (fun z => by rw [z]; intro w; cases w) (h2 a)⟩
    · cases q : argsOf ρ avs with
      | none => rw [q] at e; cases e
      | some bs =>
        rw [q] at e
        cases e
        obtain ⟨h1, h2⟩ := args_no q
        exact ⟨by rw [List.length_cons, List.length_cons, h1], fun a h => (List.mem_cons.mp h).elim (fun z => by rw [z]; intro w; cases w) (h2 a)⟩
    · cases e
theorem argIs_get : ∀ {avs : List Av} {vs : List V} {p : Nat}, ArgIs K σ B H ρ vs avs → (∀ d, avs[p]? = some (.im d) → ∃ v, vs[p]? = some v ∧ Is K B v d) ∧ (∀ i, avs[p]? = some (.sl i) → ∃ v, vs[p]? = some v ∧ σ[i]? = some (some v))
  | [], _, p, .nil => ⟨fun d h => by simp at h, fun d h => by simp at h⟩
  | a :: avs, v :: vs, 0, .cons h t => ⟨fun d e => by
      simp at e
      subst e
      exact ⟨v, rfl, h⟩, fun i e => by
      simp at e
      subst e
      exact ⟨v, rfl, h⟩⟩
  | a :: avs, v :: vs, p + 1, .cons h t => by
    obtain ⟨h1, h2⟩ := argIs_get (avs := avs) (vs := vs) (p := p) t
    exact ⟨fun d e => by simpa using h1 d (by simpa using e), fun d e => by simpa using h2 d (by simpa using e)⟩
/-- the caller's other objects, held fast -/
def HoldP (H : Hp) (σ : L2.St) (ρ : Env) (ss : List Nat) (a : Addr) : Prop :=
  (∃ (i : Nat) (es : List D), ρ[i]? = some (.own es) ∧ i ∉ ss ∧ σ[i]? = some (some (.ref a))) ∨ ∃ (i : Nat) (t : Bd) (w : V), ρ[i]? = some (.bk t) ∧ i ∉ ss ∧ σ[i]? = some (some w) ∧ t.Ft H w a
noncomputable def held (Fm H : Hp) (σ : L2.St) (ρ : Env) (ss : List Nat) : Hp := fun a =>
  open Classical in if HoldP H σ ρ ss a then H a else Fm a
theorem held_yes {ss : List Nat} {a : Addr} {i : Nat} {es : List D} (h1 : ρ[i]? = some (.own es)) (h2 : i ∉ ss) (h3 : σ[i]? = some (some (.ref a))) : held Fm H σ ρ ss a = H a := by
  unfold held
  rw [if_pos (.inl ⟨i, es, h1, h2, h3⟩)]
theorem held_yesB {ss : List Nat} {a : Addr} {i : Nat} {t : Bd} {w : V} (h1 : ρ[i]? = some (.bk t)) (h2 : i ∉ ss) (h3 : σ[i]? = some (some w)) (h4 : t.Ft H w a) : held Fm H σ ρ ss a = H a := by
  unfold held
  rw [if_pos (.inr ⟨i, t, w, h1, h2, h3, h4⟩)]
theorem held_no {ss : List Nat} {a : Addr} (h : ¬ HoldP H σ ρ ss a) : held Fm H σ ρ ss a = Fm a := by
  unfold held
  rw [if_neg h]
theorem held_fm (I : IV K ks σ0 Fm B H σ ρ) {ss : List Nat} {a : Addr} {o : HO} (h : Fm a = some o) : held Fm H σ ρ ss a = some o := by
  refine (held_no fun z => ?_).trans h
  rcases z with ⟨i, es, h1, _, h3⟩ | ⟨i, t, w, h1, _, h3, h4⟩
  · obtain ⟨b, ys, g1, _, _, g4, _⟩ := I.own i es h1
    rw [h3] at g1
    cases g1
    rw [h] at g4
    cases g4
  · obtain ⟨v, g1, _, g3⟩ := I.bs.bk i t h1
    rw [h3] at g1
    cases g1
    have := (g3 a h4).2
    rw [h] at this
    cases this
theorem iv_args (I : IV K ks σ0 Fm B H σ ρ) {vs : List V} {avs : List Av} {as : Env} (r : ArgIs K σ B H ρ vs avs) (e : argsOf ρ avs = some as) (nd : (slots avs).Nodup) :
    IV K [] [] (held Fm H σ ρ (slots avs)) B H (vs.map some) as := by
  have hl : vs.length = avs.length := Paired.length r
  obtain ⟨hl2, _⟩ := args_no e
  have bkA : ∀ {p : Nat} {t : Bd}, as[p]? = some (.bk t) → ∃ i v, avs[p]? = some (.sl i) ∧ ρ[i]? = some (.bk t) ∧ vs[p]? = some v ∧ σ[i]? = some (some v) := fun {p t} h => by
    obtain ⟨i, h1, h2⟩ := args_bk e h
    obtain ⟨v, h3, h4⟩ := (argIs_get (vs := vs) (p := p) r).2 i h1
    exact ⟨i, v, h1, h2, h3, h4⟩
  have ownA : ∀ {p : Nat} {ds : List D}, as[p]? = some (.own ds) → ∃ i v, avs[p]? = some (.sl i) ∧ ρ[i]? = some (.own ds) ∧ vs[p]? = some v ∧ σ[i]? = some (some v) := fun {p t} h => by
    obtain ⟨i, h1, h2⟩ := args_own e h
    obtain ⟨v, h3, h4⟩ := (argIs_get (vs := vs) (p := p) r).2 i h1
    exact ⟨i, v, h1, h2, h3, h4⟩
  have atV : ∀ {p : Nat} {v w : V}, vs[p]? = some v → (vs.map some)[p]? = some (some w) → v = w := fun {p v w} h1 h2 => by
    rw [List.getElem?_map, h1] at h2
    exact Option.some.inj (Option.some.inj h2)
  refine ⟨I.ex, fun a o h => ?_, fun a o h => ?_, by rw [List.length_map, hl, hl2], fun p d h => ?_, fun p ds h => ?_, fun p q ds es a hpq h1 h2 h3 h4 => ?_, (fun j h => by cases h), ?_⟩
  · by_cases c : HoldP H σ ρ (slots avs) a
    · rcases c with ⟨i, es, h1, h2, h3⟩ | ⟨i, t, w, h1, h2, h3, h4⟩
      · rw [held_yes h1 h2 h3] at h
        exact h
      · rw [held_yesB h1 h2 h3 h4] at h
        exact h
    · rw [held_no c] at h
      exact I.fr a o h
  · by_cases c : HoldP H σ ρ (slots avs) a
    · rcases c with ⟨i, es, h1, h2, h3⟩ | ⟨i, t, w, h1, h2, h3, h4⟩
      · obtain ⟨b, ys, g1, _, g3, _⟩ := I.own i es h1
        rw [h3] at g1
        cases g1
        exact g3
      · obtain ⟨v, g1, _, g3⟩ := I.bs.bk i t h1
        rw [h3] at g1
        cases g1
        exact (g3 a h4).1
    · rw [held_no c] at h
      exact I.fb a o h
  · obtain ⟨v, h1, h2⟩ := (argIs_get (vs := vs) (p := p) r).1 d (args_im e h)
    exact ⟨v, by rw [List.getElem?_map, h1]; rfl, h2⟩
  · obtain ⟨i, v, h1, h2, h3, h4⟩ := ownA h
    obtain ⟨a, xs, g1, g2, g3, g4, g5⟩ := I.own i ds h2
    rw [h4] at g1
    cases g1
    refine ⟨a, xs, by rw [List.getElem?_map, h3]; rfl, g2, g3, ?_, g5⟩
    refine (held_no fun z => ?_).trans g4
    rcases z with ⟨j, es, k1, k2, k3⟩ | ⟨j, t, w, k1, k2, k3, k4⟩
    · have hij : i ≠ j := fun z => k2 (by rw [← z]; exact at_slots h1)
      exact I.dj i j ds es a hij h2 k1 h4 k3
    · exact I.bs.bo j i t ds w a k1 h2 k3 h4 k4
  · obtain ⟨i, v, k1, k2, k3, k4⟩ := ownA h1
    obtain ⟨j, w, m1, m2, m3, m4⟩ := ownA h2
    cases atV k3 h3
    cases atV m3 h4
    have hij : i ≠ j := fun z => hpq (slots_inj nd k1 (by rw [z]; exact m1))
    exact I.dj i j ds es a hij k2 m2 k4 m4
  · refine ⟨fun p t h => ?_, fun p q t ds v a e1 e2 e3 e4 f => ?_, fun p q t u v w a hpq e1 e2 e3 e4 f1 f2 => ?_⟩
    · obtain ⟨i, v, h1, h2, h3, h4⟩ := bkA h
      obtain ⟨v', g1, g2, g3⟩ := I.bs.bk i t h2
      rw [h4] at g1
      cases g1
      refine ⟨v, by rw [List.getElem?_map, h3]; rfl, g2, fun a f => ⟨(g3 a f).1, (held_no fun z => ?_).trans (g3 a f).2⟩⟩
      rcases z with ⟨j, es, k1, k2, k3⟩ | ⟨j, u, w, k1, k2, k3, k4⟩
      · exact I.bs.bo i j t es v a h2 k1 h4 k3 f
      · have hij : i ≠ j := fun z => k2 (by rw [← z]; exact at_slots h1)
        exact I.bs.bb i j t u v w a hij h2 k1 h4 k3 f k4
    · obtain ⟨i, v', h1, h2, h3, h4⟩ := bkA e1
      obtain ⟨j, w', m1, m2, m3, m4⟩ := ownA e2
      cases atV h3 e3
      cases atV m3 e4
      exact I.bs.bo i j t ds v a h2 m2 h4 m4 f
    · obtain ⟨i, v', h1, h2, h3, h4⟩ := bkA e1
      obtain ⟨j, w', m1, m2, m3, m4⟩ := bkA e2
      cases atV h3 e3
      cases atV m3 e4
      have hij : i ≠ j := fun z => hpq (slots_inj nd h1 (by rw [z]; exact m1))
      exact I.bs.bb i j t u v w a hij h2 m2 h4 m4 f1 f2
theorem iv_back (I : IV K ks σ0 Fm B H σ ρ) {vs : List V} {avs : List Av} {as as' : Env} {B' H' : Hp} (r : ArgIs K σ B H ρ vs avs) (e : argsOf ρ avs = some as) (nd : (slots avs).Nodup) (s : Same B B')
    (I' : IV K [] [] (held Fm H σ ρ (slots avs)) B' H' (vs.map some) as') : IV K ks σ0 Fm B' H' σ (putBack avs as' ρ) ∧
      ∀ v rv, vE K (held Fm H σ ρ (slots avs)) (vs.map some) B' H' as' v rv → vE K Fm σ B' H' (putBack avs as' ρ) v rv := by
  have hl : vs.length = avs.length := Paired.length r
  have hla : as'.length = avs.length := by rw [← I'.len, List.length_map, hl]
  -- a passed slot, behind the call
  have inn : ∀ {i : Nat} {x : Sl}, i ∈ slots avs → (putBack avs as' ρ)[i]? = some x → ∃ (p : Nat) (v : V), avs[p]? = some (Av.sl i) ∧ as'[p]? = some x ∧ vs[p]? = some v ∧ σ[i]? = some (some v) := fun {i x} hi hx => by
    obtain ⟨p, hp⟩ := slots_at hi
    have hpl : p < as'.length := by
      rw [hla]
      exact (List.getElem?_eq_some_iff.mp hp).1
    have hil : i < ρ.length := by
      have := (List.getElem?_eq_some_iff.mp hx).1
      rwa [pb_len] at this
    have h1 := pb_in nd hp (List.getElem?_eq_getElem hpl) hil
    rw [h1] at hx
    obtain ⟨v, h3, h4⟩ := (argIs_get (vs := vs) (p := p) r).2 i hp
    exact ⟨p, v, hp, by rw [List.getElem?_eq_getElem hpl]; exact hx, h3, h4⟩
  -- one's own objects behind the call: where they stand
  have ownI : ∀ {i : Nat} {es : List D}, (putBack avs as' ρ)[i]? = some (.own es) → ∃ a xs, σ[i]? = some (some (.ref a)) ∧ H' a = some (.lst xs) ∧ B' a = none ∧ Fm a = none ∧ IsA K B' xs es ∧
      ((i ∉ slots avs ∧ ρ[i]? = some (.own es) ∧ held Fm H σ ρ (slots avs) a = some (.lst xs)) ∨ (i ∈ slots avs ∧ held Fm H σ ρ (slots avs) a = none ∧ ∃ p : Nat, avs[p]? = some (.sl i) ∧ as'[p]? = some (.own es) ∧ vs[p]? = some (.ref a))) := fun {i es} h => by
    by_cases hi : i ∈ slots avs
    · obtain ⟨p, v, h1, h2, h3, h4⟩ := inn hi h
      obtain ⟨a, xs, g1, g2, g3, g4, g5⟩ := I'.own p es h2
      rw [List.getElem?_map, h3] at g1
      cases g1
      have hf : Fm a = none := by
        cases q : Fm a with
        | none => rfl
        | some o =>
          rw [held_fm I q] at g4
          cases g4
      exact ⟨a, xs, h4, g2, g3, hf, g5, .inr ⟨hi, g4, p, h1, h2, h3⟩⟩
    · rw [pb_out hi] at h
      obtain ⟨a, xs, g1, g2, g3, g4, g5⟩ := I.own i es h
      have hh : held Fm H σ ρ (slots avs) a = some (.lst xs) := (held_yes h hi g1).trans g2
      exact ⟨a, xs, g1, I'.fr a _ hh, I'.fb a _ hh, g4, g5.mono s, .inl ⟨hi, h, hh⟩⟩
  have notF : ∀ {a : Addr}, held Fm H σ ρ (slots avs) a = none → Fm a = none := fun {a} h4 => by
    cases q : Fm a with
    | none => rfl
    | some o =>
      rw [held_fm I q] at h4
      cases h4
  have bkI : ∀ {i : Nat} {t : Bd}, (putBack avs as' ρ)[i]? = some (.bk t) → ∃ v, σ[i]? = some (some v) ∧ t.C K B' H' v ∧ (∀ q, t.Ft H' v q → B' q = none ∧ Fm q = none) ∧
      ((i ∉ slots avs ∧ ρ[i]? = some (.bk t) ∧ (∀ q, t.Ft H' v q → t.Ft H v q) ∧ ∀ q, t.Ft H' v q → held Fm H σ ρ (slots avs) q ≠ none) ∨ (i ∈ slots avs ∧ (∀ q, t.Ft H' v q → held Fm H σ ρ (slots avs) q = none) ∧ ∃ p : Nat, avs[p]? = some (.sl i) ∧ as'[p]? = some (.bk t) ∧ vs[p]? = some v)) := fun {i t} h => by
    by_cases hi : i ∈ slots avs
    · obtain ⟨p, v, h1, h2, h3, h4⟩ := inn hi h
      obtain ⟨v', g1, g2, g3⟩ := I'.bs.bk p t h2
      rw [List.getElem?_map, h3] at g1
      cases g1
      exact ⟨v, h4, g2, fun q f => ⟨(g3 q f).1, notF (g3 q f).2⟩, .inr ⟨hi, fun q f => (g3 q f).2, p, h1, h2, h3⟩⟩
    · rw [pb_out hi] at h
      obtain ⟨v, g1, g2, g3⟩ := I.bs.bk i t h
      have hq : ∀ q, t.Ft H v q → held Fm H σ ρ (slots avs) q = H q := fun q f => held_yesB h hi g1 f
      have he : ∀ q, t.Ft H v q → H' q = H q := fun q f => by
        cases z : H q with
        | none => exact absurd z (Bd.live g2 f)
        | some o => exact I'.fr q o ((hq q f).trans z)
      have hm : ∀ q, t.Ft H' v q → t.Ft H v q := fun q f => (Bd.ftEq he q).mp f
      refine ⟨v, g1, Bd.congr he (Bd.monoB s g2), fun q f => ⟨?_, (g3 q (hm q f)).2⟩, .inl ⟨hi, h, hm, fun q f z => Bd.live g2 (hm q f) ((hq q (hm q f)).symm.trans z)⟩⟩
      cases z : H q with
      | none => exact absurd z (Bd.live g2 (hm q f))
      | some o => exact I'.fb q o ((hq q (hm q f)).trans z)
  have apartBack : ∀ {a : Addr}, held Fm H σ ρ (slots avs) a = none → Apart H' (vs.map some) as' a → Apart H' σ (putBack avs as' ρ) a := fun {a} h4 h6 => ⟨fun i es hi z => by
      obtain ⟨b, ys, g1, _, _, _, _, k⟩ := ownI hi
      rw [z] at g1
      cases g1
      rcases k with ⟨_, _, k2⟩ | ⟨_, k2, p, k3, k4, k5⟩
      · rw [h4] at k2
        cases k2
      · exact h6.o p es k4 (by rw [List.getElem?_map, k5]; rfl), fun i t w e e2 f => by
      obtain ⟨v, g1, _, _, k⟩ := bkI e
      rw [e2] at g1
      cases g1
      rcases k with ⟨_, _, _, k2⟩ | ⟨_, k2, p, k3, k4, k5⟩
      · exact k2 a f h4
      · exact h6.b p t w k4 (by rw [List.getElem?_map, k5]; rfl) f⟩
  refine ⟨⟨I'.ex, fun a o h => I'.fr a o (held_fm I h), fun a o h => I'.fb a o (held_fm I h), by rw [pb_len]; exact I.len, fun i d h => ?_, fun i es h => ?_, fun i j ds es a hij h1 h2 h3 h4 => ?_, I.pin, ⟨fun i t h => ?_, fun i j t ds v a e1 e2 e3 e4 f => ?_, fun i j t u v w a hij e1 e2 e3 e4 f1 f2 => ?_⟩⟩, fun v rv h => ?_⟩
  · by_cases hi : i ∈ slots avs
    · obtain ⟨p, v, h1, h2, h3, h4⟩ := inn hi h
      obtain ⟨v', k1, k2⟩ := I'.im p d h2
      rw [List.getElem?_map, h3] at k1
      cases k1
      exact ⟨v, h4, k2⟩
    · rw [pb_out hi] at h
      obtain ⟨v, k1, k2⟩ := I.im i d h
      exact ⟨v, k1, k2.mono s⟩
  · obtain ⟨a, xs, g1, g2, g3, g4, g5, _⟩ := ownI h
    exact ⟨a, xs, g1, g2, g3, g4, g5⟩
  · obtain ⟨b, xs, g1, _, _, _, _, k⟩ := ownI h1
    obtain ⟨c, ys, m1, _, _, _, _, k'⟩ := ownI h2
    rw [h3] at g1
    cases g1
    rw [h4] at m1
    cases m1
    rcases k with ⟨_, k1, k2⟩ | ⟨_, k2, p, k3, k4, k5⟩
    · rcases k' with ⟨_, n1, _⟩ | ⟨_, n2, _⟩
      · exact I.dj i j ds es a hij k1 n1 h3 h4
      · rw [k2] at n2
        cases n2
    · rcases k' with ⟨_, _, n2⟩ | ⟨_, n2, q, n3, n4, n5⟩
      · rw [k2] at n2
        cases n2
      · have hpq : p ≠ q := fun z => hij (by
          subst z
          rw [k3] at n3
          exact Av.sl.inj (Option.some.inj n3))
        exact I'.dj p q ds es a hpq k4 n4 (by rw [List.getElem?_map, k5]; rfl) (by rw [List.getElem?_map, n5]; rfl)
  · obtain ⟨v, g1, g2, g3, _⟩ := bkI h
    exact ⟨v, g1, g2, g3⟩
  · obtain ⟨v', g1, _, _, k⟩ := bkI e1
    rw [e3] at g1
    cases g1
    obtain ⟨b, xs, m1, _, _, _, _, k'⟩ := ownI e2
    rw [e4] at m1
    cases m1
    rcases k with ⟨_, k1, k2, k3⟩ | ⟨_, k2, p, k3, k4, k5⟩
    · rcases k' with ⟨_, n1, _⟩ | ⟨_, n2, _⟩
      · exact I.bs.bo i j t ds v a k1 n1 e3 e4 (k2 a f)
      · exact k3 a f n2
    · rcases k' with ⟨_, _, n2⟩ | ⟨_, n2, q, n3, n4, n5⟩
      · rw [k2 a f] at n2
        cases n2
      · exact I'.bs.bo p q t ds v a k4 n4 (by rw [List.getElem?_map, k5]; rfl) (by rw [List.getElem?_map, n5]; rfl) f
  · obtain ⟨v', g1, _, _, k⟩ := bkI e1
    rw [e3] at g1
    cases g1
    obtain ⟨w', m1, _, _, k'⟩ := bkI e2
    rw [e4] at m1
    cases m1
    rcases k with ⟨_, k1, k2, k3⟩ | ⟨_, k2, p, k3, k4, k5⟩
    · rcases k' with ⟨_, n1, n2, n3⟩ | ⟨_, n2, _⟩
      · exact I.bs.bb i j t u v w a hij k1 n1 e3 e4 (k2 a f1) (n2 a f2)
      · exact k3 a f1 (n2 a f2)
    · rcases k' with ⟨_, _, _, n2⟩ | ⟨_, n2, q, n3, n4, n5⟩
      · exact n2 a f2 (k2 a f1)
      · have hpq : p ≠ q := fun z => hij (by
          subst z
          rw [k3] at n3
          exact Av.sl.inj (Option.some.inj n3))
        exact I'.bs.bb p q t u v w a hpq k4 n4 (by rw [List.getElem?_map, k5]; rfl) (by rw [List.getElem?_map, n5]; rfl) f1 f2
  · cases rv with
    | im d => exact h
    | bk t => exact ⟨h.1, fun q f => ⟨(h.2 q f).1, notF (h.2 q f).2.1, apartBack (h.2 q f).2.1 (h.2 q f).2.2⟩⟩
    | own ds =>
      obtain ⟨a, xs, rfl, h2, h3, h4, h5, h6⟩ := h
      exact ⟨a, xs, rfl, h2, h3, notF h4, h5, apartBack h4 h6⟩
theorem call_core {n : Nat} {F : Env → R Rv} {avs : List Av} {vs : List V} {E : XK} {Q : VK} (I : IV K ks σ0 Fm B H σ ρ) (r : ArgIs K σ B H ρ vs avs) (p : PtG K ks σ0 Fm W (vE K Fm σ) B σ Q (doCall n F avs ρ))
    (hE : ∀ C dx H', (∀ c d as', F c = .exc C d as' → True) → W (.ref C) dx σ H' → E (.ref C) dx H') : spD K n F vs H Q E := by
  unfold doCall at p
  by_cases hc : avs.length = n ∧ (slots avs).Nodup
  · rw [if_pos hc] at p
    cases e : argsOf ρ avs with
    | none => rw [e] at p; exact p.elim
    | some as =>
      rw [e] at p
      have hl : vs.length = avs.length := Paired.length r
      refine ⟨by rw [hl]; exact hc.1, _, B, as, iv_args I r e hc.2, (args_no e).2, ?_⟩
      have p2 : PtG K ks σ0 Fm W (vE K Fm σ) B σ Q (backTo1 avs ρ (F as)) := p
      cases q : F as with
      | ok rv as' =>
        rw [q] at p2
        exact fun B' H' v s I' hv => by
          obtain ⟨I2, k⟩ := iv_back I r e hc.2 s I'
          exact p2 B' H' v s I2 (k v rv hv)
      | exc C d as' =>
        rw [q] at p2
        exact fun B' H' dx s I' hx => by
          obtain ⟨I2, k⟩ := iv_back I r e hc.2 s I'
          exact hE C dx H' (fun _ _ _ _ => trivial) (p2 B' H' dx s I2 hx)
      | bad =>
        rw [q] at p2
        exact p2
  · rw [if_neg hc] at p
    exact p.elim
variable {ta : TA} {fa : Env → R (List Av)}
theorem de_call {n : Nat} {F : Env → R Rv} (ha : DA K W ta fa) : DE K W (tCallS (spD K n F) (WE W) ta) (eCall n F fa) := fun ks σ0 Fm B H σ ρ Q I p =>
  ha ks σ0 Fm B H σ ρ _ I (PtG.step p fun as ρ1 B1 H1 vs s1 I1 v1 p1 => call_core I1 v1 p1 fun _ _ _ _ h => h)
theorem de_call0 {n : Nat} {F : Env → R Rv} (ha : DA K W ta fa) : DE K W (tCall (spD K n F) [] E0 ta) (eCall0 n F fa) := fun ks σ0 Fm B H σ ρ Q I p =>
  ha ks σ0 Fm B H σ ρ _ I (PtG.step p fun as ρ1 B1 H1 vs s1 I1 v1 p1 => by
    show spD K n F (vs ++ []) H1 Q E0
    rw [List.append_nil]
    refine call_core (W := W0) I1 v1 ?_ fun _ _ _ _ h => h
    cases q : doCall n F as ρ1 with
    | ok rv as' =>
      rw [q] at p1
      exact p1
    | exc C d as' =>
      rw [q] at p1
      exact p1.elim
    | bad =>
      rw [q] at p1
      exact p1.elim)

/-! ### a def -/
/-- the parameters' slots behind the body: what was one's own as it is now, else as handed in -/
def outs : Env → Env → Env
  | [], _ => []
  | .own _ :: as, r :: rs => r :: outs as rs
  | .own _ :: as, [] => .no :: outs as []
  | .bk _ :: as, r :: rs => r :: outs as rs
  | .bk _ :: as, [] => .no :: outs as []
  | a :: as, rs => a :: outs as rs.tail
/-- the parameters that are handed in to be changed are among ks -/
def ownOk (ks : List Nat) : Nat → Env → Bool
  | _, [] => true
  | i, .own _ :: as => ks.contains i && ownOk ks (i + 1) as
  | i, .bk _ :: as => ks.contains i && ownOk ks (i + 1) as
  | i, _ :: as => ownOk ks (i + 1) as
def endOf (as : Env) (o : Out) : R Rv :=
  match o with
  | .nx ρ => .ok (.im .non) (outs as ρ)
  | .ret rv ρ => .ok rv (outs as ρ)
  | .exc C d ρ => .exc C d (outs as ρ)
  | _ => .bad
def runDef (n : Nat) (ks : List Nat) (g : Env → Out) : Env → R Rv := fun as =>
  if ownOk ks 0 as = true then endOf as (g (as ++ List.replicate (n - as.length) .no)) else .bad
theorem outs_len : ∀ {as rs : Env}, (outs as rs).length = as.length
  | [], _ => rfl
  | .own d :: as, r :: rs => congrArg (· + 1) (outs_len (as := as) (rs := rs))
  | .own d :: as, [] => congrArg (· + 1) (outs_len (as := as) (rs := []))
  | .bk d :: as, r :: rs => congrArg (· + 1) (outs_len (as := as) (rs := rs))
  | .bk d :: as, [] => congrArg (· + 1) (outs_len (as := as) (rs := []))
  | .no :: as, rs => congrArg (· + 1) (outs_len (as := as) (rs := rs.tail))
  | .im d :: as, rs => congrArg (· + 1) (outs_len (as := as) (rs := rs.tail))
theorem outs_get : ∀ {as rs : Env} {i : Nat} {x : Sl}, x ≠ .no → (outs as rs)[i]? = some x → (isOwn as[i]? = true ∧ rs[i]? = some x) ∨ (isOwn as[i]? = false ∧ as[i]? = some x)
  | [], _, _, _, _, h => by simp [outs] at h
  | .own d :: as, r :: rs, 0, x, _, h => .inl ⟨rfl, h⟩
  | .own d :: as, [], 0, x, n, h => by
    simp [outs] at h
    exact absurd h.symm n
  | .own d :: as, r :: rs, i + 1, x, n, h => outs_get (as := as) (rs := rs) (i := i) n h
  | .own d :: as, [], i + 1, x, n, h => by
    rcases outs_get (as := as) (rs := []) (i := i) n h with h | h
    · exact absurd h.2 (by simp)
    · exact .inr h
  | .bk d :: as, r :: rs, 0, x, _, h => .inl ⟨rfl, h⟩
  | .bk d :: as, [], 0, x, n, h => by
    simp [outs] at h
    exact absurd h.symm n
  | .bk d :: as, r :: rs, i + 1, x, n, h => outs_get (as := as) (rs := rs) (i := i) n h
  | .bk d :: as, [], i + 1, x, n, h => by
    rcases outs_get (as := as) (rs := []) (i := i) n h with h | h
    · exact absurd h.2 (by simp)
    · exact .inr h
  | .no :: as, rs, 0, x, n, h => .inr ⟨rfl, h⟩
  | .im d :: as, rs, 0, x, n, h => .inr ⟨rfl, h⟩
  | .no :: as, rs, i + 1, x, n, h => by
    rcases outs_get (as := as) (rs := rs.tail) (i := i) n h with h | h
    · exact .inl ⟨h.1, by rw [List.getElem?_tail] at h; exact h.2⟩
    · exact .inr h
  | .im d :: as, rs, i + 1, x, n, h => by
    rcases outs_get (as := as) (rs := rs.tail) (i := i) n h with h | h
    · exact .inl ⟨h.1, by rw [List.getElem?_tail] at h; exact h.2⟩
    · exact .inr h
theorem ownOk_get {ks : List Nat} : ∀ {as : Env} {j i : Nat}, ownOk ks j as = true → isOwn as[i]? = true → j + i ∈ ks
  | [], _, _, _, h => by simp [isOwn] at h
  | .own d :: as, j, 0, h, _ => by
    have h1 : (ks.contains j && ownOk ks (j + 1) as) = true := h
    rw [Bool.and_eq_true] at h1
    exact List.contains_iff_mem.mp h1.1
  | .own d :: as, j, i + 1, h, h2 => by
    have h1 : (ks.contains j && ownOk ks (j + 1) as) = true := h
    rw [Bool.and_eq_true] at h1
    have := ownOk_get (as := as) (j := j + 1) (i := i) h1.2 h2
    rwa [Nat.add_assoc, Nat.add_comm 1 i] at this
  | .bk d :: as, j, 0, h, _ => by
    have h1 : (ks.contains j && ownOk ks (j + 1) as) = true := h
    rw [Bool.and_eq_true] at h1
    exact List.contains_iff_mem.mp h1.1
  | .bk d :: as, j, i + 1, h, h2 => by
    have h1 : (ks.contains j && ownOk ks (j + 1) as) = true := h
    rw [Bool.and_eq_true] at h1
    have := ownOk_get (as := as) (j := j + 1) (i := i) h1.2 h2
    rwa [Nat.add_assoc, Nat.add_comm 1 i] at this
  | .no :: as, j, 0, _, h => by simp [isOwn] at h
  | .im d :: as, j, 0, _, h => by simp [isOwn] at h
  | .no :: as, j, i + 1, h, h2 => by
    have := ownOk_get (as := as) (j := j + 1) (i := i) h h2
    rwa [Nat.add_assoc, Nat.add_comm 1 i] at this
  | .im d :: as, j, i + 1, h, h2 => by
    have := ownOk_get (as := as) (j := j + 1) (i := i) h h2
    rwa [Nat.add_assoc, Nat.add_comm 1 i] at this
theorem start_get {N : List Str} {vs : List V} {i : Nat} (hi : i < vs.length) : (L2.start N vs)[i]? = (vs.map some)[i]? := by
  unfold L2.start
  rw [List.getElem?_append_left (by rw [List.length_map]; exact hi)]
/-- into the body -/
theorem iv_enter {N : List Str} {vs : List V} {as : Env} (hN : vs.length ≤ N.length) (I : IV K [] [] Fm B H (vs.map some) as) (ks : List Nat) : IV K ks (L2.start N vs) Fm B H (L2.start N vs) (as ++ List.replicate (N.length - as.length) .no) := by
  have hl : as.length = vs.length := by rw [← I.len, List.length_map]
  have sub : ∀ {i : Nat} {x : Sl}, x ≠ .no → (as ++ List.replicate (N.length - as.length) .no)[i]? = some x → i < vs.length ∧ as[i]? = some x := fun {i x} hx h => by
    by_cases hi : i < as.length
    · rw [List.getElem?_append_left hi] at h
      exact ⟨by omega, h⟩
    · rw [List.getElem?_append_right (by omega), List.getElem?_replicate] at h
      split at h
      · exact absurd (Option.some.inj h).symm hx
      · cases h
  refine ⟨I.ex, I.fr, I.fb, ?_, fun i d h => ?_, fun i ds h => ?_, fun i j ds es a hij h1 h2 h3 h4 => ?_, fun j _ => rfl, I.bs.to (fun i t h => (sub (by intro z; cases z) h).2) (fun i t h => start_get (sub (by intro z; cases z) h).1) (Same.refl B) fun i t v p e e2 f hl hbn hfn ho => ⟨rfl, hbn, hfn, fun j ds q r => by
    obtain ⟨hj, q⟩ := sub (by intro z; cases z) q
    rw [start_get hj] at r
    exact ho j ds q r⟩⟩
  · unfold L2.start
    rw [List.length_append, List.length_append, List.length_map, List.length_replicate, List.length_replicate, hl]
  · obtain ⟨hi, h⟩ := sub (by intro z; cases z) h
    rw [start_get hi]
    exact I.im i d h
  · obtain ⟨hi, h⟩ := sub (by intro z; cases z) h
    rw [start_get hi]
    exact I.own i ds h
  · obtain ⟨hi, h1⟩ := sub (by intro z; cases z) h1
    obtain ⟨hj, h2⟩ := sub (by intro z; cases z) h2
    rw [start_get hi] at h3
    rw [start_get hj] at h4
    exact I.dj i j ds es a hij h1 h2 h3 h4
/-- out of the body. ks: the slots of the parameters that are handed in to be changed -/
theorem iv_leave {N : List Str} {vs : List V} {as ρ' : Env} {B' H' : Hp} {σ' : L2.St} (I : IV K [] [] Fm B H (vs.map some) as) (hks : ∀ i, isOwn as[i]? = true → i ∈ ks) (s : Same B B')
    (I' : IV K ks (L2.start N vs) Fm B' H' σ' ρ') : IV K [] [] Fm B' H' (vs.map some) (outs as ρ') ∧ ∀ v rv, vE K Fm σ' B' H' ρ' v rv → vE K Fm (vs.map some) B' H' (outs as ρ') v rv := by
  have hl : as.length = vs.length := by rw [← I.len, List.length_map]
  have st : ∀ {i : Nat}, isOwn as[i]? = true → σ'[i]? = (vs.map some)[i]? := fun {i} h => by
    rw [I'.pin i (hks i h)]
    refine start_get ?_
    by_cases hi : i < as.length
    · omega
    · rw [List.getElem?_eq_none (by omega)] at h
      cases h
  have ownI : ∀ {i : Nat} {es : List D}, (outs as ρ')[i]? = some (.own es) → isOwn as[i]? = true ∧ ρ'[i]? = some (.own es) := fun {i es} h => by
    rcases outs_get (by intro z; cases z) h with h | ⟨h1, h2⟩
    · exact h
    · rw [h2] at h1
      cases h1
  have bkI : ∀ {i : Nat} {t : Bd}, (outs as ρ')[i]? = some (.bk t) → isOwn as[i]? = true ∧ ρ'[i]? = some (.bk t) := fun {i es} h => by
    rcases outs_get (by intro z; cases z) h with h | ⟨h1, h2⟩
    · exact h
    · rw [h2] at h1
      cases h1
  have apartOut : ∀ {a : Addr}, Apart H' σ' ρ' a → Apart H' (vs.map some) (outs as ρ') a := fun {a} h6 => ⟨fun i es hi z => by
      obtain ⟨k1, k2⟩ := ownI hi
      rw [← st k1] at z
      exact h6.o i es k2 z, fun i t w hi z => by
      obtain ⟨k1, k2⟩ := bkI hi
      rw [← st k1] at z
      exact h6.b i t w k2 z⟩
  refine ⟨⟨I'.ex, I'.fr, I'.fb, by rw [List.length_map, outs_len, hl], fun i d h => ?_, fun i ds h => ?_, fun i j ds es a hij h1 h2 h3 h4 => ?_, (fun j h => by cases h), I'.bs.to (fun i t h => (bkI h).2) (fun i t h => (st (bkI h).1).symm) (Same.refl B') fun i t v p e e2 f hl hbn hfn ho => ⟨rfl, hbn, hfn, fun j ds q r => by
      obtain ⟨k1, k2⟩ := ownI q
      rw [← st k1] at r
      exact ho j ds k2 r⟩⟩, fun v rv h => ?_⟩
  · rcases outs_get (by intro z; cases z) h with ⟨h1, h2⟩ | ⟨h1, h2⟩
    · rw [← st h1]
      exact I'.im i d h2
    · obtain ⟨v, k1, k2⟩ := I.im i d h2
      exact ⟨v, k1, k2.mono s⟩
  · obtain ⟨h1, h2⟩ := ownI h
    rw [← st h1]
    exact I'.own i ds h2
  · obtain ⟨k1, k2⟩ := ownI h1
    obtain ⟨m1, m2⟩ := ownI h2
    rw [← st k1] at h3
    rw [← st m1] at h4
    exact I'.dj i j ds es a hij k2 m2 h3 h4
  · cases rv with
    | im d => exact h
    | bk t => exact ⟨h.1, fun q f => ⟨(h.2 q f).1, (h.2 q f).2.1, apartOut (h.2 q f).2.2⟩⟩
    | own ds =>
      obtain ⟨a, xs, rfl, h2, h3, h4, h5, h6⟩ := h
      exact ⟨a, xs, rfl, h2, h3, h4, h5, apartOut h6⟩
variable {P : Program} {w : World} {mg : Str → Option Value} {base : Heap}
/-- THE RULE for a def: its body by HandS's rules, what they say by the data's -/
theorem def_ok {x qual : Str} {st : Stmt} {f : Addr} {fd : FuncData} {N ps : List Str} {k n m : Nat} (Fn : Fun K x qual st f fd) (S : FnScope N ps (defScope st)) (ks : List Nat) (g : Env → Out) (hm : N.length = m) (hn : ps.length = n)
    (hbody : ∀ (cdv : Value) (A : Around) (outer : List PySem.Env) (s : Shared) (H : Hp) (E : XK), Room k (A.deeper (envOfC qual (defScope st) s.heap.objs.size f cdv)) →
      ∃ t, PSs (cxOf (L2.CX P w) P w K mg base N qual (defScope st) f cdv A outer s H E) (defBody st) t ∧ DS K (fun c d _ H' => E c d H') ks t g) :
    FnOk P w K mg base (L2.CX P w) (k + 1) f fd ps (spD K n (runDef m ks g)) := by
  have hpN : ps.length ≤ N.length := by
    have := congrArg List.length S.pre
    rw [List.length_take] at this
    omega
  subst hm hn
  refine Fn.okX S (fun vs H Q E h => h.1) (fun cdv A outer s H vs Q E hr h => ?_)
  obtain ⟨hl, Fm, B, as, I, hno, p⟩ := h
  obtain ⟨t, h1, h2⟩ := hbody cdv A outer s H E hr
  refine ⟨t, h1, ?_⟩
  have hla : as.length = ps.length := by rw [← I.len, List.length_map, hl]
  have I1 := iv_enter (N := N) (by omega) I ks
  unfold runDef at p
  by_cases ho : ownOk ks 0 as = true
  · rw [if_pos ho] at p
    have hks : ∀ i, isOwn as[i]? = true → i ∈ ks := fun i h => by
      have := ownOk_get (i := i) ho h
      rwa [Nat.zero_add] at this
    refine h2 _ Fm B H _ _ _ I1 ?_
    cases q : g (as ++ List.replicate (N.length - as.length) .no) with
    | nx ρ' =>
      rw [q] at p
      exact fun B' H' σ' s' I' => by
        obtain ⟨I2, k⟩ := iv_leave I hks s' I'
        exact p B' H' .non s' I2 Is.non
    | ret rv ρ' =>
      rw [q] at p
      exact fun B' H' σ' v s' I' hv => by
        obtain ⟨I2, k⟩ := iv_leave I hks s' I'
        exact p B' H' v s' I2 (k v rv hv)
    | exc C d ρ' =>
      rw [q] at p
      exact fun B' H' σ' dx s' I' hx => by
        obtain ⟨I2, k⟩ := iv_leave I hks s' I'
        exact p B' H' dx s' I2 hx
    | brk ρ' => rw [q] at p; exact p.elim
    | ct ρ' => rw [q] at p; exact p.elim
    | bad => rw [q] at p; exact p.elim
  · rw [if_neg ho] at p
    exact p.elim
end
end DL

/-! DL, part g: the end of a law. -/
namespace DL
open PySem PySem.Spec PyProof.Rows L2
theorem law_sp {K : PySem.W.Frag} {H : Hp} {a : Addr} {ns : List Int} {F : DL.Env → R Rv} (hS : SqL K H a (ns.map V.int)) (h : ∃ ρ, F [.im (.scr ns)] = .ok (.im (.bl true)) ρ) : spD K 1 F [.ref a] H (fun v _ => v = .bl true) fun _ _ _ => False := by
  obtain ⟨ρ, e⟩ := h
  refine ⟨rfl, fun _ => none, H, [.im (.scr ns)], ⟨Same.refl H, fun _ _ z => (by cases z), fun _ _ z => (by cases z), rfl, fun i d z => ?_, fun i d z => ?_, fun i j ds es a _ z => ?_, fun _ z => (by cases z), BKS.none fun i t z => ?_⟩, fun a z => ?_, ?_⟩
  · cases i with
    | zero =>
      cases z
      exact ⟨.ref a, rfl, .scr hS⟩
    | succ i => simp at z
  · cases i with
    | zero => cases z
    | succ i => simp at z
  · cases i with
    | zero => cases z
    | succ i => simp at z
  · cases i with
    | zero => cases z
    | succ i => simp at z
  · rw [List.mem_singleton] at z
    rw [z]
    intro q
    cases q
  · rw [e]
    exact fun B' H' v _ _ hv => Is.blV hv
theorem law_cx {P : Program} {w : World} {H : Hp} {s : Shared} {e : Value} {s' : Shared} (h : L2.CX P w [] H s (fun _ _ _ => False) e s') : False := by
  obtain ⟨_, _, _, _, _, _, _, _, _, _, _, _, z⟩ := h
  exact z
end DL

/-! DL, part m: how data functions are reckoned. -/
namespace DL
open PySem PySem.Spec PyProof.Rows L2

section
variable {α β : Type} {ρ : DL.Env} {a : α} {i j n : Nat} {d e : D} {ds es : List D} {rv : Rv}
theorem x_bind {k : α → DL.Env → R β} : (R.ok a ρ).bind k = k a ρ := (rfl)
theorem x_toO {k : α → DL.Env → Out} : (R.ok a ρ).toO k = k a ρ := (rfl)
theorem x_nx : (R.ok a ρ).nx = R.ok a ρ := (rfl)
theorem x_seq1 {k : DL.Env → Out} : (Out.nx ρ).seq k = k ρ := (rfl)
theorem x_seq2 {k : DL.Env → Out} : (Out.ret rv ρ).seq k = .ret rv ρ := (rfl)
theorem x_seq3 {k : DL.Env → Out} : (Out.brk ρ).seq k = .brk ρ := (rfl)
theorem x_seq4 {k : DL.Env → Out} : (Out.ct ρ).seq k = .ct ρ := (rfl)
theorem x_seq5 {k : DL.Env → Out} {C : Addr} {x : Option (Str × D)} : (Out.exc C x ρ).seq k = .exc C x ρ := (rfl)
theorem x_lift : lift (some a) ρ = .ok a ρ := (rfl)
theorem x_dI : (Rv.im d).d = d := (rfl)
theorem x_dO : (Rv.own ds).d = .lst ds := (rfl)
theorem x_slI : (Rv.im d).sl = .im d := (rfl)
theorem x_slO : (Rv.own ds).sl = .own ds := (rfl)
theorem x_c : eC d ρ = .ok (.im d) ρ := (rfl)
def varK (o : Option Sl) (i : Nat) (ρ : DL.Env) : R Rv :=
  match o with
  | some (.im d) => .ok (.im d) ρ
  | some (.own ds) => .ok (.im (.lst ds)) (ρ.set i (.im (.lst ds)))
  | _ => .bad
theorem x_var : eVar i ρ = varK ρ[i]? i ρ := (rfl)
theorem x_varI : varK (some (.im d)) i ρ = .ok (.im d) ρ := (rfl)
theorem x_varO : varK (some (.own ds)) i ρ = .ok (.im (.lst ds)) (ρ.set i (.im (.lst ds))) := (rfl)
def moveK (o : Option Sl) (i : Nat) (ρ : DL.Env) : R Rv :=
  match o with
  | some (.im d) => .ok (.im d) ρ
  | some (.own ds) => .ok (.own ds) (ρ.set i .no)
  | _ => .bad
theorem x_move : eMove i ρ = moveK ρ[i]? i ρ := (rfl)
theorem x_moveI : moveK (some (.im d)) i ρ = .ok (.im d) ρ := (rfl)
theorem x_moveO : moveK (some (.own ds)) i ρ = .ok (.own ds) (ρ.set i .no) := (rfl)
theorem x_op {op : D → D → Option Rv} {f g : DL.Env → R Rv} : eOp op f g ρ = (f ρ).bind fun x ρ => (g ρ).bind fun y ρ => lift (op x.d y.d) ρ := (rfl)
theorem x_un {op : D → Option Rv} {f : DL.Env → R Rv} : eUn op f ρ = (f ρ).bind fun x ρ => lift (op x.d) ρ := (rfl)
theorem x_asB {b : Bool} : asB (.bl b) = some b := (rfl)
theorem x_asI {z : Int} : asI (.int z) = some z := (rfl)
theorem x_tOf {f : DL.Env → R Rv} : tOf f ρ = (f ρ).bind fun x ρ => lift (asB x.d) ρ := (rfl)
theorem x_tAnd {f g : DL.Env → R Bool} : tAndD f g ρ = (f ρ).bind fun c ρ => cond c (g ρ) (.ok false ρ) := (rfl)
theorem x_tOr {f g : DL.Env → R Bool} : tOrD f g ρ = (f ρ).bind fun c ρ => cond c (.ok true ρ) (g ρ) := (rfl)
theorem x_tNot {f : DL.Env → R Bool} : tNotD f ρ = (f ρ).bind fun c ρ => .ok (!c) ρ := (rfl)
theorem x_tYes : tYesD ρ = .ok true ρ := (rfl)
theorem x_and {f g : DL.Env → R Rv} : eAnd f g ρ = (f ρ).bind fun x ρ => (lift (asB x.d) ρ).bind fun c ρ => cond c (g ρ) (.ok (.im (.bl false)) ρ) := (rfl)
theorem x_or {f g : DL.Env → R Rv} : eOr f g ρ = (f ρ).bind fun x ρ => (lift (asB x.d) ρ).bind fun c ρ => cond c (.ok (.im (.bl true)) ρ) (g ρ) := (rfl)
theorem x_not {f : DL.Env → R Rv} : eNot f ρ = (f ρ).bind fun x ρ => (lift (asB x.d) ρ).bind fun c ρ => .ok (.im (.bl (!c))) ρ := (rfl)
theorem x_if {t : DL.Env → R Bool} {f g : DL.Env → R Rv} : eIf t f g ρ = (t ρ).bind fun c ρ => cond c (f ρ) (g ρ) := (rfl)
theorem x_chain {op op' : D → D → Option Rv} {f g h : DL.Env → R Rv} : eChain op op' f g h ρ = (f ρ).bind fun x ρ => (g ρ).bind fun y ρ => (lift (op x.d y.d) ρ).bind fun z ρ => (lift (asB z.d) ρ).bind fun k ρ =>
  cond k ((h ρ).bind fun w ρ => lift (op' y.d w.d) ρ) (.ok (.im (.bl false)) ρ) := (rfl)
theorem x_aNil : aNil ρ = .ok [] ρ := (rfl)
theorem x_aCons {f : DL.Env → R Rv} {r : DL.Env → R (List Av)} : aCons f r ρ = (f ρ).bind fun x ρ => (r ρ).bind fun xs ρ => .ok (.im x.d :: xs) ρ := (rfl)
def slotK (o : Option Sl) (i : Nat) (r : DL.Env → R (List Av)) (ρ : DL.Env) : R (List Av) :=
  match o with
  | some (.own _) => (r ρ).bind fun xs ρ => .ok (.sl i :: xs) ρ
  | some (.bk _) => (r ρ).bind fun xs ρ => .ok (.sl i :: xs) ρ
  | _ => .bad
theorem x_aSlot {r : DL.Env → R (List Av)} : aSlot i r ρ = slotK ρ[i]? i r ρ := (rfl)
theorem x_slotB {t : Bd} {r : DL.Env → R (List Av)} : slotK (some (.bk t)) i r ρ = (r ρ).bind fun xs ρ => .ok (.sl i :: xs) ρ := (rfl)
theorem x_slotO {r : DL.Env → R (List Av)} : slotK (some (.own ds)) i r ρ = (r ρ).bind fun xs ρ => .ok (.sl i :: xs) ρ := (rfl)
theorem x_ims0 : ims [] = some [] := (rfl)
theorem x_ims1 {r : List Av} : ims (.im d :: r) = (ims r).map (d :: ·) := (rfl)
theorem x_lst {f : DL.Env → R (List Av)} : eLst f ρ = (f ρ).bind fun xs ρ => (lift (ims xs) ρ).bind fun ds ρ => cond (Nat.ble ds.length 100000) (.ok (.own ds) ρ) .bad := (rfl)
theorem x_tup {f : DL.Env → R (List Av)} : eTup f ρ = (f ρ).bind fun xs ρ => (lift (ims xs) ρ).bind fun ds ρ => cond (Nat.ble ds.length 100000) (.ok (.im (.tup ds)) ρ) .bad := (rfl)
theorem x_cb {op : List D → Option Rv} {f : DL.Env → R (List Av)} : eCB op f ρ = (f ρ).bind fun xs ρ => (lift (ims xs) ρ).bind fun ds ρ => lift (op ds) ρ := (rfl)
theorem x_oNone : oNone ρ = .ok none ρ := (rfl)
theorem x_oSome {f : DL.Env → R Rv} : oSome f ρ = (f ρ).bind fun x ρ => (lift (asI x.d) ρ).bind fun i ρ => .ok (some i) ρ := (rfl)
theorem x_slD {lo hi : Option Int} : slD (.lst ds) lo hi = some (.own (cutD ds lo hi)) := (rfl)
theorem x_eSl {f : DL.Env → R Rv} {lo hi : DL.Env → R (Option Int)} : eSl f lo hi ρ = (f ρ).bind fun x ρ => (lo ρ).bind fun l ρ => (hi ρ).bind fun u ρ => lift (slD x.d l u) ρ := (rfl)
def ixK1 (o : Option Sl) (i : Nat) (f : DL.Env → R Rv) (ρ : DL.Env) : R Rv :=
  match o with
  | some (.own _) => (f ρ).bind fun x ρ => match ρ[i]?, x.d with
    | some (.own ds), .int k => match atI ds k with
      | some d => .ok (.im d) ρ
      | none => .bad
    | _, _ => .bad
  | _ => .bad
def ixK2 (o : Option Sl) (d : D) (ρ : DL.Env) : R Rv :=
  match o, d with
  | some (.own ds), .int k => lift ((atI ds k).map Rv.im) ρ
  | _, _ => .bad
theorem x_ixO {f : DL.Env → R Rv} : eIxO i f ρ = ixK1 ρ[i]? i f ρ := (rfl)
theorem x_ixK1 {f : DL.Env → R Rv} : ixK1 (some (.own ds)) i f ρ = (f ρ).bind fun x ρ => ixK2 ρ[i]? x.d ρ := by
  show (f ρ).bind _ = _
  congr 1
  funext x ρ
  cases ρ[i]? with
  | none => rfl
  | some s =>
    cases s with
    | no => rfl
    | im d => rfl
    | bk t => rfl
    | own ds =>
      cases x.d with
      | int k =>
        show (match atI ds k with | some d => R.ok (Rv.im d) ρ | none => .bad) = lift ((atI ds k).map Rv.im) ρ
        cases atI ds k <;> rfl
      | _ => rfl
theorem x_ixK2 {k : Int} : ixK2 (some (.own ds)) (.int k) ρ = lift ((atI ds k).map Rv.im) ρ := (rfl)
def lenK (o : Option Sl) (ρ : DL.Env) : R Rv :=
  match o with
  | some (.own ds) => .ok (.im (.int ds.length)) ρ
  | _ => .bad
theorem x_lenO : eLenO i ρ = lenK ρ[i]? ρ := (rfl)
theorem x_lenK : lenK (some (.own ds)) ρ = .ok (.im (.int ds.length)) ρ := (rfl)
/-! operators -/
theorem x_add {p q : Int} : opAdd (.int p) (.int q) = some (.im (.int (p + q))) := (rfl)
theorem x_cat (h : ds.length + es.length ≤ 100000) : opAdd (.lst ds) (.lst es) = some (.own (ds ++ es)) := if_pos h
theorem x_sub {p q : Int} : opSub (.int p) (.int q) = some (.im (.int (p - q))) := (rfl)
theorem log2_of {p : Int} (h1 : -(2 ^ 200) < p) (h2 : p < 2 ^ 200) : p.natAbs.log2 < 200 := by
  refine PySem.Flt.log2_lt_of (by decide) ?_
  have : (p.natAbs : Int) < 2 ^ 200 := by omega
  exact_mod_cast this
theorem x_mul {p q : Int} (h1 : -(2 ^ 200) < p) (h2 : p < 2 ^ 200) (h3 : -(2 ^ 200) < q) (h4 : q < 2 ^ 200) : opMul (.int p) (.int q) = some (.im (.int (p * q))) := by
  have a := log2_of h1 h2
  have b := log2_of h3 h4
  exact if_pos (by omega)
theorem x_rep {k : Int} (h1 : k < 2 ^ 60) (h2 : -(2 ^ 60) < k) (h : ds.length * k.toNat ≤ 100000) : opMul (.lst ds) (.int k) = some (.own (List.replicate k.toNat ds).flatten) := if_pos ⟨h1, h2, h⟩
theorem x_div {p q : Int} (h1 : 0 < q) (h2 : q < 2 ^ 200) : opDiv (.int p) (.int q) = some (.im (.int (p / q))) := by
  have b := log2_of (p := q) (by omega) h2
  exact if_pos ⟨h1, by omega⟩
theorem x_mod {p q : Int} (h1 : 0 < q) : opMod (.int p) (.int q) = some (.im (.int (p % q))) := if_pos h1
theorem bits_of {p : Int} (h1 : -(2 ^ 200) < p) (h2 : p < 2 ^ 200) : Builtin.Int.intBits p ≤ 201 := by
  have a := log2_of h1 h2
  unfold Builtin.Int.intBits
  split <;> omega
theorem x_pow {p q : Int} (h1 : -(2 ^ 200) < p) (h2 : p < 2 ^ 200) (h3 : 0 ≤ q) (h4 : q ≤ 1000) : opPow (.int p) (.int q) = some (.im (.int (p ^ q.toNat))) := by
  have a := bits_of h1 h2
  refine if_pos ⟨h3, ?_⟩
  have h5 : (Builtin.Int.intBits p : Int) * q ≤ 201 * q := Int.mul_le_mul_of_nonneg_right (by exact_mod_cast a) h3
  omega
theorem x_neg {p : Int} : opNeg (.int p) = some (.im (.int (-p))) := (rfl)
theorem x_lt {p q : Int} : cLt (.int p) (.int q) = some (.im (.bl (ltB p q))) := (rfl)
theorem x_le {p q : Int} : cLe (.int p) (.int q) = some (.im (.bl (leB p q))) := (rfl)
theorem x_gt {p q : Int} : cGt (.int p) (.int q) = some (.im (.bl (ltB q p))) := (rfl)
theorem x_ge {p q : Int} : cGe (.int p) (.int q) = some (.im (.bl (leB q p))) := (rfl)
theorem shaped_int (p : Int) : SeqAt.shaped (.int p) = true := by
  simp [SeqAt.shaped, PyData.canLay0, PyData.depth]
theorem eqD_int {p q : Int} : eqD (.int p) (.int q) = some (p == q) := by
  unfold eqD
  simp only [D.py]
  rw [if_pos ⟨shaped_int p, shaped_int q⟩]
  simp only [PyData.eqv]
theorem beq_dec {p q : Int} : (p == q) = decide (p = q) := by by_cases h : p = q <;> simp [h]
theorem x_eqI {p q : Int} : cEq (.int p) (.int q) = some (.im (.bl (eqB p q))) := by unfold cEq; rw [eqD_int, beq_dec]; rfl
theorem x_neI {p q : Int} : cNe (.int p) (.int q) = some (.im (.bl (!eqB p q))) := by unfold cNe; rw [eqD_int, beq_dec]; rfl
theorem lt_t {p q : Int} (h : p < q) : ltB p q = true := decide_eq_true h
theorem lt_f {p q : Int} (h : ¬ p < q) : ltB p q = false := decide_eq_false h
theorem le_t {p q : Int} (h : p ≤ q) : leB p q = true := decide_eq_true h
theorem le_f {p q : Int} (h : ¬ p ≤ q) : leB p q = false := decide_eq_false h
theorem eq_t {p q : Int} (h : p = q) : eqB p q = true := decide_eq_true h
theorem eq_f {p q : Int} (h : ¬ p = q) : eqB p q = false := decide_eq_false h
theorem ble_f {n m : Nat} (h : ¬ n ≤ m) : Nat.ble n m = false := by
  cases q : Nat.ble n m with
  | false => rfl
  | true => exact absurd (Nat.le_of_ble_eq_true q) h
theorem ble_t {n m : Nat} (h : n ≤ m) : Nat.ble n m = true := Nat.ble_eq_true_of_le h
theorem x_isN {x : D} : cIsN x .non = some (.im (.bl (isNonD x))) := (rfl)
theorem x_isNotN {x : D} : cIsNotN x .non = some (.im (.bl (!isNonD x))) := (rfl)
theorem x_isB {p q : Bool} : cIsB (.bl p) (.bl q) = some (.im (.bl (decide (p = q)))) := (rfl)
theorem x_isNotB {p q : Bool} : cIsNotB (.bl p) (.bl q) = some (.im (.bl (!decide (p = q)))) := (rfl)
theorem x_ixL {k : Int} : ixD (.lst ds) (.int k) = (atI ds k).map .im := (rfl)
theorem x_ixT {k : Int} : ixD (.tup ds) (.int k) = (atI ds k).map .im := (rfl)
theorem x_ixS {ns : List Int} {k : Int} : ixD (.scr ns) (.int k) = (atI ns k).map fun n => .im (.int n) := (rfl)
theorem x_len : bLen [.lst ds] = some (.im (.int ds.length)) := (rfl)
theorem x_lenT : bLen [.tup ds] = some (.im (.int ds.length)) := (rfl)
theorem x_lenS {ns : List Int} : bLen [.scr ns] = some (.im (.int ns.length)) := (rfl)
theorem x_max {p q : Int} : bMax2 [.int p, .int q] = some (.im (.int (if q > p then q else p))) := (rfl)
theorem x_min {p q : Int} : bMin2 [.int p, .int q] = some (.im (.int (if q < p then q else p))) := (rfl)
theorem x_list : bList [.lst ds] = some (.own ds) := (rfl)
theorem x_isi : bIsi [d, e] = (isiD d e).map fun b => .im (.bl b) := (rfl)
/-! statements -/
theorem x_next : sNext ρ = .nx ρ := (rfl)
theorem x_sSeq {g k : DL.Env → Out} : sSeq g k ρ = (g ρ).seq k := (rfl)
theorem x_set {f : DL.Env → R Rv} : sSet i f ρ = (f ρ).toO fun rv ρ => .nx (ρ.set i (.im rv.d)) := (rfl)
theorem x_setO {f : DL.Env → R Rv} : sSetO i f ρ = (f ρ).toO fun rv ρ => .nx (ρ.set i rv.sl) := (rfl)
theorem x_drop {f : DL.Env → R Rv} : sDrop f ρ = (f ρ).toO fun _ ρ => .nx ρ := (rfl)
theorem x_ret {f : DL.Env → R Rv} : sRet f ρ = (f ρ).toO fun rv ρ => .ret rv ρ := (rfl)
theorem x_sIf {t : DL.Env → R Bool} {g k : DL.Env → Out} : sIf t g k ρ = (t ρ).toO fun c ρ => cond c (g ρ) (k ρ) := (rfl)
def parK (i j : Nat) (ds : List D) (ρ : DL.Env) : Out :=
  match ds with
  | [x, y] => .nx ((ρ.set i (.im x)).set j (.im y))
  | _ => .bad
theorem x_par {f : DL.Env → R (List Av)} : sPar i j f ρ = (f ρ).toO fun as ρ => (lift (ims as) ρ).toO (parK i j) := by
  unfold sPar parK
  rfl
theorem x_parK {x y : D} : parK i j [x, y] ρ = .nx ((ρ.set i (.im x)).set j (.im y)) := (rfl)
def appK1 (o : Option Sl) (i : Nat) (f : DL.Env → R Rv) (ρ : DL.Env) : Out :=
  match o with
  | some (.own _) => (f ρ).toO fun rv ρ => match ρ[i]? with
    | some (.own ds) => if ds.length < 100000 then .nx (ρ.set i (.own (ds ++ [rv.d]))) else .bad
    | _ => .bad
  | _ => .bad
def appK2 (o : Option Sl) (i : Nat) (d : D) (ρ : DL.Env) : Out :=
  match o with
  | some (.own ds) => if ds.length < 100000 then .nx (ρ.set i (.own (ds ++ [d]))) else .bad
  | _ => .bad
theorem x_app {f : DL.Env → R Rv} : sApp i f ρ = appK1 ρ[i]? i f ρ := (rfl)
theorem x_appK1 {f : DL.Env → R Rv} : appK1 (some (.own ds)) i f ρ = (f ρ).toO fun rv ρ => appK2 ρ[i]? i rv.d ρ := (rfl)
theorem x_appK2 (h : ds.length < 100000) : appK2 (some (.own ds)) i d ρ = .nx (ρ.set i (.own (ds ++ [d]))) := if_pos h
def stK2 (o : Option Sl) (i : Nat) (k : D) (d : D) (ρ : DL.Env) : Out :=
  match o, k with
  | some (.own ds), .int k => match ixN ds.length k with
    | some j => .nx (ρ.set i (.own (ds.set j d)))
    | none => .bad
  | _, _ => .bad
def stK1 (o : Option Sl) (i : Nat) (fk : DL.Env → R Rv) (d : D) (ρ : DL.Env) : Out :=
  match o with
  | some (.own _) => (fk ρ).toO fun kv ρ => stK2 ρ[i]? i kv.d d ρ
  | _ => .bad
theorem x_setIx {fk f : DL.Env → R Rv} : sSetIx i fk f ρ = (f ρ).toO fun rv ρ => stK1 ρ[i]? i fk rv.d ρ := by
  unfold sSetIx stK1 stK2
  rfl
theorem x_stK1 {fk : DL.Env → R Rv} : stK1 (some (.own ds)) i fk d ρ = (fk ρ).toO fun kv ρ => stK2 ρ[i]? i kv.d d ρ := (rfl)
def stK3 (o : Option Nat) (i : Nat) (ds : List D) (d : D) (ρ : DL.Env) : Out :=
  match o with
  | some j => .nx (ρ.set i (.own (ds.set j d)))
  | none => .bad
theorem x_stK2 {k : Int} : stK2 (some (.own ds)) i (.int k) d ρ = stK3 (ixN ds.length k) i ds d ρ := by
  show (match ixN ds.length k with | some j => Out.nx (ρ.set i (.own (ds.set j d))) | none => .bad) = _
  cases ixN ds.length k <;> rfl
theorem x_stK3 : stK3 (some j) i ds d ρ = .nx (ρ.set i (.own (ds.set j d))) := (rfl)
theorem x_for {fi : DL.Env → R (List D)} {tg : Tg} {g : DL.Env → Out} : sFor fi tg g ρ = (fi ρ).toO fun ds ρ => dFor (stepOf tg g) ds ρ := (rfl)
def asgK (o : Option DL.Env) : Out :=
  match o with
  | some ρ' => .nx ρ'
  | none => .bad
theorem x_asg {tg : Tg} {f : DL.Env → R Rv} : sAsg tg f ρ = (f ρ).toO fun rv ρ => asgK (tg rv.d ρ) := (rfl)
theorem x_asgK : asgK (some ρ) = .nx ρ := (rfl)
theorem x_tgName : tgName j d ρ = some (ρ.set j (.im d)) := (rfl)
theorem x_tgTup {ts : List Tg} : tgTup ts (.tup ds) ρ = tgAll ts ds ρ := (rfl)
theorem x_tgAll0 : tgAll [] [] ρ = some ρ := (rfl)
theorem x_tgAll1 {t : Tg} {ts : List Tg} : tgAll (t :: ts) (d :: ds) ρ = (t d ρ).bind fun ρ => tgAll ts ds ρ := (rfl)
theorem x_step {tg : Tg} {g : DL.Env → Out} {ρ' : DL.Env} (h : tg d ρ = some ρ') : stepOf tg g d ρ = g ρ' := by unfold stepOf; rw [h]
theorem x_iList {f : DL.Env → R Rv} : iListD f ρ = (f ρ).bind fun x ρ => match x.d with | .lst ds => .ok ds ρ | .scr ns => .ok (ns.map D.int) ρ | _ => .bad := (rfl)
def rng1K (as : List Av) (ρ : DL.Env) : R (List D) :=
  match as with
  | [.im (.int j)] => if -(2 ^ 60) < j ∧ j < 2 ^ 60 then .ok (rngD 0 j.toNat) ρ else .bad
  | _ => .bad
theorem x_rng1 {f : DL.Env → R (List Av)} : iRng1D f ρ = (f ρ).bind rng1K := (rfl)
theorem x_rng1K {j : Int} (h1 : -(2 ^ 60) < j) (h2 : j < 2 ^ 60) : rng1K [.im (.int j)] ρ = .ok (rngD 0 j.toNat) ρ := if_pos ⟨h1, h2⟩
def rng2K (as : List Av) (ρ : DL.Env) : R (List D) :=
  match as with
  | [.im (.int i), .im (.int j)] => if (-(2 ^ 60) < i ∧ i < 2 ^ 60) ∧ -(2 ^ 60) < j ∧ j < 2 ^ 60 then .ok (rngD i (j - i).toNat) ρ else .bad
  | _ => .bad
theorem x_rng2 {f : DL.Env → R (List Av)} : iRng2D f ρ = (f ρ).bind rng2K := (rfl)
theorem x_rng2K {i j : Int} (h1 : -(2 ^ 60) < i) (h2 : i < 2 ^ 60) (h3 : -(2 ^ 60) < j) (h4 : j < 2 ^ 60) : rng2K [.im (.int i), .im (.int j)] ρ = .ok (rngD i (j - i).toNat) ρ := if_pos ⟨⟨h1, h2⟩, h3, h4⟩
def zipK (as : List Av) (ρ : DL.Env) : R (List D) :=
  match as with
  | [.im (.lst ds), .im (.lst es)] => .ok (zipD ds es) ρ
  | _ => .bad
theorem x_zip {f : DL.Env → R (List Av)} : iZipD f ρ = (f ρ).bind zipK := (rfl)
theorem x_zipK : zipK [.im (.lst ds), .im (.lst es)] ρ = .ok (zipD ds es) ρ := (rfl)
/-! calls -/
theorem x_call {F : DL.Env → R Rv} {fa : DL.Env → R (List Av)} : eCall n F fa ρ = (fa ρ).bind fun avs ρ => doCall n F avs ρ := (rfl)
theorem x_call0 {F : DL.Env → R Rv} {fa : DL.Env → R (List Av)} : eCall0 n F fa ρ = (fa ρ).bind fun avs ρ => (doCall n F avs ρ).nx := (rfl)
theorem x_do {F : DL.Env → R Rv} {avs : List Av} {as as' : DL.Env} (h1 : avs.length = n) (h2 : (slots avs).Nodup) (h3 : argsOf ρ avs = some as) (h : F as = .ok rv as') : doCall n F avs ρ = .ok rv (putBack avs as' ρ) := by
  unfold doCall
  rw [if_pos ⟨h1, h2⟩, h3]
  show backTo1 avs ρ (F as) = _
  rw [h]
  rfl
/-- one argument, two, three, that stay -/
theorem x_do1 {F : DL.Env → R Rv} {as' : DL.Env} (h : F [.im d] = .ok rv as') : doCall 1 F [.im d] ρ = .ok rv ρ := by
  refine (x_do (n := 1) (avs := [.im d]) rfl (by simp [slots]) rfl h).trans ?_
  cases as' <;> rfl
theorem pb_ims1 {as' : DL.Env} : putBack [.im d] as' ρ = ρ := by cases as' <;> rfl
theorem pb_ims2 {as' : DL.Env} : putBack [.im d, .im e] as' ρ = ρ := by
  cases as' with
  | nil => rfl
  | cons a r => cases r <;> rfl
theorem pb_ims3 {f : D} {as' : DL.Env} : putBack [.im d, .im e, .im f] as' ρ = ρ := by
  cases as' with
  | nil => rfl
  | cons a r =>
    cases r with
    | nil => rfl
    | cons b r => cases r <;> rfl
theorem x_do2 {F : DL.Env → R Rv} {as' : DL.Env} (h : F [.im d, .im e] = .ok rv as') : doCall 2 F [.im d, .im e] ρ = .ok rv ρ := by
  exact (x_do (n := 2) (avs := [.im d, .im e]) rfl (by simp [slots]) rfl h).trans (by rw [pb_ims2])
theorem x_do3 {F : DL.Env → R Rv} {f : D} {as' : DL.Env} (h : F [.im d, .im e, .im f] = .ok rv as') : doCall 3 F [.im d, .im e, .im f] ρ = .ok rv ρ := by
  exact (x_do (n := 3) (avs := [.im d, .im e, .im f]) rfl (by simp [slots]) rfl h).trans (by rw [pb_ims3])
/-- one to be changed, then none or one that stays -/
theorem args_s {as : List Av} {bs : DL.Env} (h : ρ[i]? = some (.own ds)) (h2 : argsOf ρ as = some bs) : argsOf ρ (.sl i :: as) = some (.own ds :: bs) := by
  rw [argsOf]
  rw [h]
  simp only [h2, Option.map_some]
theorem x_doS {F : DL.Env → R Rv} {b : Sl} (h0 : ρ[i]? = some (.own ds)) (h : F [.own ds] = .ok rv [b]) : doCall 1 F [.sl i] ρ = .ok rv (ρ.set i b) := by
  exact (x_do (n := 1) (avs := [.sl i]) rfl (by simp [slots]) (args_s h0 rfl) h).trans rfl
theorem x_doSI {F : DL.Env → R Rv} {b c : Sl} (h0 : ρ[i]? = some (.own ds)) (h : F [.own ds, .im d] = .ok rv [b, c]) : doCall 2 F [.sl i, .im d] ρ = .ok rv (ρ.set i b) := by
  exact (x_do (n := 2) (avs := [.sl i, .im d]) rfl (by simp [slots]) (args_s h0 rfl) h).trans rfl
/-! runs of defs -/
theorem x_run {ks : List Nat} {g : DL.Env → Out} {as : DL.Env} (h : ownOk ks 0 as = true) : runDef n ks g as = endOf as (g (as ++ List.replicate (n - as.length) .no)) := if_pos h
theorem u_nil {rs : DL.Env} : outs [] rs = [] := (rfl)
theorem u_im {as rs : DL.Env} {r : Sl} : outs (.im d :: as) (r :: rs) = .im d :: outs as rs := (rfl)
theorem u_own {as rs : DL.Env} {r : Sl} : outs (.own ds :: as) (r :: rs) = r :: outs as rs := (rfl)
theorem x_endR {as : DL.Env} : endOf as (.ret rv ρ) = .ok rv (outs as ρ) := (rfl)
theorem x_endN {as : DL.Env} : endOf as (.nx ρ) = .ok (.im .non) (outs as ρ) := (rfl)
/-! loops -/
theorem dFor_cons {step : D → DL.Env → Out} {ρ' : DL.Env} (h : step d ρ = .nx ρ') : dFor step (d :: ds) ρ = dFor step ds ρ' := by
  show (match step d ρ with | .nx ρ' => dFor step ds ρ' | .ct ρ' => dFor step ds ρ' | .brk ρ' => .nx ρ' | o => o) = _
  rw [h]
theorem dFor_ret {step : D → DL.Env → Out} {ρ' : DL.Env} (h : step d ρ = .ret rv ρ') : dFor step (d :: ds) ρ = .ret rv ρ' := by
  show (match step d ρ with | .nx ρ' => dFor step ds ρ' | .ct ρ' => dFor step ds ρ' | .brk ρ' => .nx ρ' | o => o) = _
  rw [h]
theorem dFor_nil {step : D → DL.Env → Out} : dFor step [] ρ = .nx ρ := (rfl)
theorem dFor_inv {step : D → DL.Env → Out} : ∀ (items : List D) (P : Nat → DL.Env → Prop) (i0 : Nat) (ρ : DL.Env), P i0 ρ → (∀ i d ρ, items[i]? = some d → P (i0 + i) ρ → ∃ ρ', step d ρ = .nx ρ' ∧ P (i0 + i + 1) ρ') → ∃ ρ', dFor step items ρ = .nx ρ' ∧ P (i0 + items.length) ρ'
  | [], P, i0, ρ, h0, _ => ⟨ρ, rfl, h0⟩
  | d :: ds, P, i0, ρ, h0, hs => by
    obtain ⟨ρ1, e1, p1⟩ := hs 0 d ρ rfl h0
    obtain ⟨ρ2, e2, p2⟩ := dFor_inv ds P (i0 + 1) ρ1 p1 fun i d' ρ' hi hp => by
      have e : i0 + 1 + i = i0 + (i + 1) := by omega
      rw [e] at hp ⊢
      exact hs (i + 1) d' ρ' (by simpa using hi) hp
    refine ⟨ρ2, (dFor_cons e1).trans e2, ?_⟩
    have e : i0 + 1 + ds.length = i0 + (d :: ds).length := by
      rw [List.length_cons]
      omega
    rwa [e] at p2
theorem dFor_run {step : D → DL.Env → Out} {items : List D} (P : Nat → DL.Env → Prop) {ρ : DL.Env} (h0 : P 0 ρ) (hs : ∀ i d ρ, items[i]? = some d → P i ρ → ∃ ρ', step d ρ = .nx ρ' ∧ P (i + 1) ρ') : ∃ ρ', dFor step items ρ = .nx ρ' ∧ P items.length ρ' := by
  obtain ⟨ρ', e, p⟩ := dFor_inv items P 0 ρ h0 fun i d ρ hi hp => by
    rw [Nat.zero_add] at hp ⊢
    exact hs i d ρ hi hp
  rw [Nat.zero_add] at p
  exact ⟨ρ', e, p⟩
/-! comprehensions -/
theorem x_comp {vs : List Nat} {fi : DL.Env → R (List D)} {tg : Tg} {ft : DL.Env → R Bool} {fe : DL.Env → R Rv} :
    eComp vs fi tg ft fe ρ = (fi ρ).bind fun items ρ => cond (okW vs ρ) ((dComp vs tg ft fe [] items ρ).bind fun acc ρ => .ok (.own acc) ρ) .bad := (rfl)
theorem dComp_cons {vs : List Nat} {tg : Tg} {ft : DL.Env → R Bool} {fe : DL.Env → R Rv} {acc : List D} {ρ2 ρ3 ρ4 : DL.Env} (h1 : tg d (wipeE ρ vs) = some ρ2) (h2 : ft ρ2 = .ok true ρ3) (h3 : fe ρ3 = .ok rv ρ4) (h4 : acc.length < 100000) :
    dComp vs tg ft fe acc (d :: ds) ρ = dComp vs tg ft fe (acc ++ [rv.d]) ds (restore ρ vs ρ4) := by
  rw [dComp, h1]
  show ((ft ρ2).nx).bind _ = _
  rw [h2]
  show ((fe ρ3).nx).bind _ = _
  rw [h3]
  exact if_pos h4
theorem dComp_skip {vs : List Nat} {tg : Tg} {ft : DL.Env → R Bool} {fe : DL.Env → R Rv} {acc : List D} {ρ2 ρ3 : DL.Env} (h1 : tg d (wipeE ρ vs) = some ρ2) (h2 : ft ρ2 = .ok false ρ3) :
    dComp vs tg ft fe acc (d :: ds) ρ = dComp vs tg ft fe acc ds (restore ρ vs ρ3) := by
  rw [dComp, h1]
  show ((ft ρ2).nx).bind _ = _
  rw [h2]
  rfl
theorem dComp_nil {vs : List Nat} {tg : Tg} {ft : DL.Env → R Bool} {fe : DL.Env → R Rv} {acc : List D} : dComp vs tg ft fe acc [] ρ = .ok acc ρ := by rw [dComp]
theorem dComp_inv {vs : List Nat} {tg : Tg} {ft : DL.Env → R Bool} {fe : DL.Env → R Rv} : ∀ (items : List D) (P : Nat → List D → DL.Env → Prop) (i0 : Nat) (acc : List D) (ρ : DL.Env), i0 + items.length ≤ 100000 → acc.length ≤ i0 → P i0 acc ρ →
    (∀ i d acc ρ, items[i]? = some d → P (i0 + i) acc ρ → ∃ ρ2, tg d (wipeE ρ vs) = some ρ2 ∧
      ((∃ rv ρ3 ρ4, ft ρ2 = .ok true ρ3 ∧ fe ρ3 = .ok rv ρ4 ∧ P (i0 + i + 1) (acc ++ [rv.d]) (restore ρ vs ρ4)) ∨ ∃ ρ3, ft ρ2 = .ok false ρ3 ∧ P (i0 + i + 1) acc (restore ρ vs ρ3))) →
    ∃ acc' ρ', dComp vs tg ft fe acc items ρ = .ok acc' ρ' ∧ P (i0 + items.length) acc' ρ'
  | [], P, i0, acc, ρ, _, _, h0, _ => ⟨acc, ρ, dComp_nil, h0⟩
  | d :: ds, P, i0, acc, ρ, hl, ha, h0, hs => by
    rw [List.length_cons] at hl
    have next : ∀ (acc1 : List D) (ρ1 : DL.Env), acc1.length ≤ i0 + 1 → P (i0 + 1) acc1 ρ1 → ∃ acc' ρ', dComp vs tg ft fe acc1 ds ρ1 = .ok acc' ρ' ∧ P (i0 + (d :: ds).length) acc' ρ' := fun acc1 ρ1 h1 h2 => by
      obtain ⟨acc2, ρ2, e2, p2⟩ := dComp_inv ds P (i0 + 1) acc1 ρ1 (by omega) h1 h2 fun i d' acc' ρ' hi hp => by
        have e : i0 + 1 + i = i0 + (i + 1) := by omega
        rw [e] at hp ⊢
        exact hs (i + 1) d' acc' ρ' (by simpa using hi) hp
      refine ⟨acc2, ρ2, e2, ?_⟩
      have e : i0 + 1 + ds.length = i0 + (d :: ds).length := by
        rw [List.length_cons]
        omega
      rwa [e] at p2
    obtain ⟨ρ2, e1, h⟩ := hs 0 d acc ρ rfl h0
    rcases h with ⟨rv, ρ3, ρ4, e2, e3, p⟩ | ⟨ρ3, e2, p⟩
    · obtain ⟨acc', ρ', e, p'⟩ := next _ _ (by rw [List.length_append, List.length_singleton]; omega) p
      exact ⟨acc', ρ', (dComp_cons e1 e2 e3 (by omega)).trans e, p'⟩
    · obtain ⟨acc', ρ', e, p'⟩ := next _ _ (by omega) p
      exact ⟨acc', ρ', (dComp_skip e1 e2).trans e, p'⟩
theorem dComp_run {vs : List Nat} {tg : Tg} {ft : DL.Env → R Bool} {fe : DL.Env → R Rv} {items : List D} (P : Nat → List D → DL.Env → Prop) {ρ : DL.Env} (hl : items.length ≤ 100000) (h0 : P 0 [] ρ)
    (hs : ∀ i d acc ρ, items[i]? = some d → P i acc ρ → ∃ ρ2, tg d (wipeE ρ vs) = some ρ2 ∧
      ((∃ rv ρ3 ρ4, ft ρ2 = .ok true ρ3 ∧ fe ρ3 = .ok rv ρ4 ∧ P (i + 1) (acc ++ [rv.d]) (restore ρ vs ρ4)) ∨ ∃ ρ3, ft ρ2 = .ok false ρ3 ∧ P (i + 1) acc (restore ρ vs ρ3))) :
    ∃ acc' ρ', dComp vs tg ft fe [] items ρ = .ok acc' ρ' ∧ P items.length acc' ρ' := by
  obtain ⟨acc', ρ', e, p⟩ := dComp_inv (vs := vs) (tg := tg) (ft := ft) (fe := fe) items P 0 [] ρ (by omega) (by simp) h0 fun i d acc ρ hi hp => by
    rw [Nat.zero_add] at hp ⊢
    exact hs i d acc ρ hi hp
  rw [Nat.zero_add] at p
  exact ⟨acc', ρ', e, p⟩
/-- every item gives one value, nothing else changes -/
theorem dComp_map {vs : List Nat} {tg : Tg} {fe : DL.Env → R Rv} {items vals : List D} {ρ : DL.Env} (hl : items.length ≤ 100000) (hv : vals.length = items.length)
    (hs : ∀ (i : Nat) d v, items[i]? = some d → vals[i]? = some v → ∃ ρ2 ρ4 rv, tg d (wipeE ρ vs) = some ρ2 ∧ fe ρ2 = .ok rv ρ4 ∧ rv.d = v ∧ restore ρ vs ρ4 = ρ) :
    dComp vs tg tYesD fe [] items ρ = .ok vals ρ := by
  obtain ⟨acc', ρ', e, rfl, rfl⟩ := dComp_run (vs := vs) (tg := tg) (ft := tYesD) (fe := fe) (items := items) (fun i acc ρ' => acc = vals.take i ∧ ρ' = ρ) (ρ := ρ) hl ⟨rfl, rfl⟩ fun i d acc ρ' hi hp => by
    obtain ⟨rfl, rfl⟩ := hp
    have hil : i < vals.length := by
      rw [hv]
      exact (List.getElem?_eq_some_iff.mp hi).1
    obtain ⟨ρ2, ρ4, rv, e1, e2, e3, e4⟩ := hs i d vals[i] hi (List.getElem?_eq_getElem hil)
    exact ⟨ρ2, e1, .inl ⟨rv, ρ2, ρ4, rfl, e2, by rw [e3, List.take_add_one, List.getElem?_eq_getElem hil]; rfl, e4⟩⟩
  rw [e, ← hv, List.take_length]
theorem g_zero {a : α} {l : List α} : (a :: l)[0]? = some a := (rfl)
theorem g_succ {a : α} {l : List α} {i : Nat} : (a :: l)[i + 1]? = l[i]? := (rfl)
theorem s_zero {a b : α} {l : List α} : (a :: l).set 0 b = b :: l := (rfl)
theorem s_succ {a b : α} {l : List α} {i : Nat} : (a :: l).set (i + 1) b = a :: l.set i b := (rfl)
theorem o_map {f : α → β} {a : α} : (some a).map f = some (f a) := (rfl)
theorem o_bind {f : α → Option β} {a : α} : (some a).bind f = f a := (rfl)
theorem c_true {a b : α} : cond true a b = a := (rfl)
theorem c_false {a b : α} : cond false a b = b := (rfl)
theorem l_cons {a : α} {l : List α} : (a :: l).length = l.length + 1 := (rfl)
theorem l_nil : ([] : List α).length = 0 := (rfl)
theorem tn1 {k : Nat} : ((k : Int) + 1).toNat = k + 1 := by omega
theorem tn0 {k : Nat} : (0 + (k : Int)) = (k : Int) := by omega
theorem ix0 {a : α} {l : List α} : atI (a :: l) 0 = some a := atI_nat (xs := a :: l) (j := 0) (v := a) rfl
theorem ix1 {a b : α} {l : List α} : atI (a :: b :: l) 1 = some b := atI_nat (xs := a :: b :: l) (j := 1) (v := b) rfl
theorem ix2 {a b c : α} {l : List α} : atI (a :: b :: c :: l) 2 = some c := atI_nat (xs := a :: b :: c :: l) (j := 2) (v := c) rfl
theorem ix3 {a b c d : α} {l : List α} : atI (a :: b :: c :: d :: l) 3 = some d := atI_nat (xs := a :: b :: c :: d :: l) (j := 3) (v := d) rfl
theorem ix4 {a b c d e : α} {l : List α} : atI (a :: b :: c :: d :: e :: l) 4 = some e := atI_nat (xs := a :: b :: c :: d :: e :: l) (j := 4) (v := e) rfl
theorem ixm {a : α} {l : List α} : atI (l ++ [a]) (-1) = some a := atI_last l a
theorem ixN_at {n : Nat} {k : Int} (h1 : 0 ≤ k) (h2 : k < n) : ixN n k = some k.toNat := by
  unfold ixN
  rw [if_pos h1, if_pos h2]
theorem atI_at {xs : List α} {k : Int} (h1 : 0 ≤ k) (h2 : k < xs.length) : atI xs k = xs[k.toNat]? := by
  unfold atI
  rw [ixN_at h1 h2]
  rfl
/-- a loop that goes on while a test holds, else gives rv back; e: the frame by the loop's name -/
theorem dFor_test {step : D → DL.Env → Out} {ev : Sl → DL.Env} {p : D → Bool} {rv : Rv} : ∀ (items : List D) (x : Sl), (∀ d ∈ items, ∀ x, step d (ev x) = cond (p d) (.nx (ev (.im d))) (.ret rv (ev (.im d)))) →
    ∃ y, dFor step items (ev x) = cond (items.all p) (.nx (ev y)) (.ret rv (ev y))
  | [], x, _ => ⟨x, rfl⟩
  | d :: ds, x, h => by
    have h1 := h d List.mem_cons_self x
    cases hp : p d with
    | true =>
      rw [hp, cond_true] at h1
      obtain ⟨y, e⟩ := dFor_test ds (.im d) fun d' hd x => h d' (List.mem_cons_of_mem _ hd) x
      refine ⟨y, ?_⟩
      rw [dFor_cons h1, e, List.all_cons, hp, Bool.true_and]
    | false =>
      rw [hp, cond_false] at h1
      refine ⟨.im d, ?_⟩
      rw [dFor_ret h1, List.all_cons, hp, Bool.false_and, cond_false]
theorem rngD_cons {lo : Int} {n : Nat} : rngD lo (n + 1) = .int lo :: rngD (lo + 1) n := by
  unfold rngD
  rw [List.range_succ_eq_map, List.map_cons, List.map_map]
  congr 1
  · show D.int (lo + ((0 : Nat) : Int)) = _
    simp
  · refine List.map_congr_left fun k _ => ?_
    show D.int (lo + ((k + 1 : Nat) : Int)) = D.int (lo + 1 + (k : Int))
    congr 1
    omega
theorem rngD_nil {lo : Int} : rngD lo 0 = [] := (rfl)
/-! equality of lists of whole numbers -/
theorem pyA_ints : ∀ ns : List Int, pyA (ns.map D.int) = some (ns.map PyData.int)
  | [] => by simp only [List.map_nil, pyA]
  | n :: r => by
    rw [List.map_cons, pyA, pyA_ints r]
    simp only [D.py]
    rfl
theorem canLay_ints : ∀ ns : List Int, PyData.canLayAll0 (ns.map PyData.int) = true
  | [] => by simp only [List.map_nil, PyData.canLayAll0]
  | n :: r => by
    rw [List.map_cons, PyData.canLayAll0, canLay_ints r]
    simp only [PyData.canLay0, Bool.and_self]
theorem depth_ints : ∀ ns : List Int, PyData.depthAll (ns.map PyData.int) = 0
  | [] => by simp only [List.map_nil, PyData.depthAll]
  | n :: r => by
    rw [List.map_cons, PyData.depthAll, depth_ints r]
    simp only [PyData.depth, Nat.max_self]
theorem shaped_ints (ns : List Int) : SeqAt.shaped (.list (ns.map PyData.int)) = true := by
  simp only [SeqAt.shaped, PyData.canLay0, canLay_ints, PyData.depth, depth_ints]
  decide
theorem eqv_ints : ∀ ns ms : List Int, PyData.eqvAll (ns.map PyData.int) (ms.map PyData.int) = decide (ns = ms)
  | [], [] => by simp [PyData.eqvAll]
  | [], _ :: _ => by simp [PyData.eqvAll]
  | _ :: _, [] => by simp [PyData.eqvAll]
  | n :: r, m :: q => by
    rw [List.map_cons, List.map_cons, PyData.eqvAll, eqv_ints r q]
    simp only [PyData.eqv]
    by_cases h : n = m
    · by_cases h2 : r = q <;> simp [h, h2]
    · simp [h]
theorem eqD_ints (ns ms : List Int) : eqD (.lst (ns.map D.int)) (.lst (ms.map D.int)) = some (decide (ns = ms)) := by
  unfold eqD
  simp only [D.py, pyA_ints, Option.map_some]
  rw [if_pos ⟨shaped_ints ns, shaped_ints ms⟩]
  simp only [PyData.eqv, eqv_ints]
def eqLB (ns ms : List Int) : Bool := decide (ns = ms)
theorem eqL_t {ns ms : List Int} (h : ns = ms) : eqLB ns ms = true := decide_eq_true h
theorem eqL_f {ns ms : List Int} (h : ¬ ns = ms) : eqLB ns ms = false := decide_eq_false h
theorem x_eqL {ns ms : List Int} : cEq (.lst (ns.map D.int)) (.lst (ms.map D.int)) = some (.im (.bl (eqLB ns ms))) := by unfold cEq; rw [eqD_ints]; rfl
theorem x_neL {ns ms : List Int} : cNe (.lst (ns.map D.int)) (.lst (ms.map D.int)) = some (.im (.bl (!eqLB ns ms))) := by unfold cNe; rw [eqD_ints]; rfl
theorem x_eqL0 {ns : List Int} : cEq (.lst (ns.map D.int)) (.lst []) = some (.im (.bl (eqLB ns []))) := x_eqL (ms := [])
theorem x_neL0 {ns : List Int} : cNe (.lst (ns.map D.int)) (.lst []) = some (.im (.bl (!eqLB ns []))) := x_neL (ms := [])
theorem shaped_bl (b : Bool) : SeqAt.shaped (.bool b) = true := by
  simp [SeqAt.shaped, PyData.canLay0, PyData.depth]
theorem eqD_bl {p q : Bool} : eqD (.bl p) (.bl q) = some (p == q) := by
  unfold eqD
  simp only [D.py]
  rw [if_pos ⟨shaped_bl p, shaped_bl q⟩]
  simp only [PyData.eqv]
theorem x_eqB {p q : Bool} : cEq (.bl p) (.bl q) = some (.im (.bl (p == q))) := by unfold cEq; rw [eqD_bl]; rfl
theorem x_neB {p q : Bool} : cNe (.bl p) (.bl q) = some (.im (.bl (!(p == q)))) := by unfold cNe; rw [eqD_bl]; rfl
/-! isinstance -/
theorem kb_ii : kitB "int" "int" = some true := by decide +kernel
theorem kb_bi : kitB "bool" "int" = some true := by decide +kernel
theorem kb_ni : kitB "NoneType" "int" = some false := by decide +kernel
theorem kb_si : kitB "str" "int" = some false := by decide +kernel
theorem kb_li : kitB "list" "int" = some false := by decide +kernel
theorem kb_ti : kitB "tuple" "int" = some false := by decide +kernel
theorem kb_di : kitB "dict" "int" = some false := by decide +kernel
theorem kb_ib : kitB "int" "bool" = some false := by decide +kernel
theorem kb_bb : kitB "bool" "bool" = some true := by decide +kernel
theorem kb_nb : kitB "NoneType" "bool" = some false := by decide +kernel
theorem kb_sb : kitB "str" "bool" = some false := by decide +kernel
theorem kb_lb : kitB "list" "bool" = some false := by decide +kernel
theorem kb_tb : kitB "tuple" "bool" = some false := by decide +kernel
theorem kb_db : kitB "dict" "bool" = some false := by decide +kernel
theorem kb_il : kitB "int" "list" = some false := by decide +kernel
theorem kb_bl : kitB "bool" "list" = some false := by decide +kernel
theorem kb_nl : kitB "NoneType" "list" = some false := by decide +kernel
theorem kb_sl : kitB "str" "list" = some false := by decide +kernel
theorem kb_ll : kitB "list" "list" = some true := by decide +kernel
theorem kb_tl : kitB "tuple" "list" = some false := by decide +kernel
theorem kb_dl : kitB "dict" "list" = some false := by decide +kernel
theorem kb_it : kitB "int" "tuple" = some false := by decide +kernel
theorem kb_bt : kitB "bool" "tuple" = some false := by decide +kernel
theorem kb_nt : kitB "NoneType" "tuple" = some false := by decide +kernel
theorem kb_st : kitB "str" "tuple" = some false := by decide +kernel
theorem kb_lt : kitB "list" "tuple" = some false := by decide +kernel
theorem kb_tt : kitB "tuple" "tuple" = some true := by decide +kernel
theorem kb_dt : kitB "dict" "tuple" = some false := by decide +kernel
/-- data of the plain kinds -/
def plain : D → Bool
  | .scr _ => false
  | .ref _ => false
  | .ty _ => false
  | .any => false
  | .exn _ => false
  | .exf _ _ _ => false
  | _ => true
def isIntD : D → Bool
  | .int _ => true
  | _ => false
def isBoolD : D → Bool
  | .bl _ => true
  | _ => false
def isListD : D → Bool
  | .lst _ => true
  | _ => false
def isTupD : D → Bool
  | .tup _ => true
  | _ => false
theorem isi_int (h : plain d = true) : isiD d (.ty "int") = some (isIntD d || isBoolD d) := by
  cases d <;> first | (exact Bool.noConfusion h) | (unfold isiD; simp only [tyN, Option.bind_some]; first | exact kb_ii | exact kb_bi | exact kb_ni | exact kb_si | exact kb_li | exact kb_ti | exact kb_di)
theorem isi_bool (h : plain d = true) : isiD d (.ty "bool") = some (isBoolD d) := by
  cases d <;> first | (exact Bool.noConfusion h) | (unfold isiD; simp only [tyN, Option.bind_some]; first | exact kb_ib | exact kb_bb | exact kb_nb | exact kb_sb | exact kb_lb | exact kb_tb | exact kb_db)
theorem isi_list (h : plain d = true) : isiD d (.ty "list") = some (isListD d) := by
  cases d <;> first | (exact Bool.noConfusion h) | (unfold isiD; simp only [tyN, Option.bind_some]; first | exact kb_il | exact kb_bl | exact kb_nl | exact kb_sl | exact kb_ll | exact kb_tl | exact kb_dl)
theorem isi_tup (h : plain d = true) : isiD d (.ty "tuple") = some (isTupD d) := by
  cases d <;> first | (exact Bool.noConfusion h) | (unfold isiD; simp only [tyN, Option.bind_some]; first | exact kb_it | exact kb_bt | exact kb_nt | exact kb_st | exact kb_lt | exact kb_tt | exact kb_dt)
theorem w_1 {v : Nat} : wipeE ρ [v] = ρ.set v .no := (rfl)
theorem w_2 {v w : Nat} : wipeE ρ [v, w] = (ρ.set w .no).set v .no := (rfl)
theorem r_1 {v : Nat} {ρ' : DL.Env} : restore ρ [v] ρ' = ρ'.set v (ρ.getD v .no) := (rfl)
theorem r_2 {v w : Nat} {ρ' : DL.Env} : restore ρ [v, w] ρ' = (ρ'.set w (ρ.getD w .no)).set v (ρ.getD v .no) := (rfl)
theorem d_zero {a x : α} {l : List α} : (a :: l).getD 0 x = a := (rfl)
theorem d_succ {a x : α} {l : List α} {i : Nat} : (a :: l).getD (i + 1) x = l.getD i x := (rfl)
theorem k_cons {v : Nat} {vs : List Nat} : okW (v :: vs) ρ = (!isOwn ρ[v]? && okW vs ρ) := (rfl)
theorem k_nil : okW [] ρ = true := (rfl)
theorem k_im : isOwn (some (.im d)) = false := (rfl)
theorem k_no : isOwn (some .no) = false := (rfl)
theorem k_bk {t : Bd} : isOwn (some (.bk t)) = true := (rfl)
/-- the items that pass a test -/
theorem dComp_filter {vs : List Nat} {tg : Tg} {ft : DL.Env → R Bool} {fe : DL.Env → R Rv} {ρ : DL.Env} (ns : List Int) (p : Int → Bool) (val : Int → D) (hl : ns.length ≤ 100000)
    (hs : ∀ n ∈ ns, ∃ ρ2 ρ3, tg (.int n) (wipeE ρ vs) = some ρ2 ∧ ft ρ2 = .ok (p n) ρ3 ∧ (p n = false → restore ρ vs ρ3 = ρ) ∧ (p n = true → ∃ ρ4, fe ρ3 = .ok (.im (val n)) ρ4 ∧ restore ρ vs ρ4 = ρ)) :
    dComp vs tg ft fe [] (ns.map D.int) ρ = .ok ((ns.filter p).map val) ρ := by
  obtain ⟨acc', ρ', e, rfl, rfl⟩ := dComp_run (vs := vs) (tg := tg) (ft := ft) (fe := fe) (items := ns.map D.int) (fun i acc ρ' => acc = ((ns.take i).filter p).map val ∧ ρ' = ρ) (ρ := ρ) (by rw [List.length_map]; exact hl) ⟨rfl, rfl⟩ fun i d acc ρ' hi hp => by
    obtain ⟨rfl, rfl⟩ := hp
    rw [List.getElem?_map] at hi
    cases hn : ns[i]? with
    | none => rw [hn] at hi; cases hi
    | some n =>
      rw [hn] at hi
      cases hi
      obtain ⟨ρ2, ρ3, e1, e2, h0, h1⟩ := hs n (List.mem_of_getElem? hn)
      refine ⟨ρ2, e1, ?_⟩
      cases hp : p n with
      | true =>
        obtain ⟨ρ4, e3, e4⟩ := h1 hp
        rw [hp] at e2
        exact .inl ⟨_, ρ3, ρ4, e2, e3, by rw [List.take_add_one, hn, Option.toList_some, List.filter_append, List.map_append, List.filter_cons, if_pos hp]; rfl, e4⟩
      | false =>
        rw [hp] at e2
        exact .inr ⟨ρ3, e2, by rw [List.take_add_one, hn, Option.toList_some, List.filter_append, List.map_append, List.filter_cons, if_neg (by rw [hp]; exact Bool.false_ne_true)]; simp, h0 hp⟩
  rw [e, List.length_map, List.take_length]
theorem atI_int {ns : List Int} {k : Nat} {v : Int} (h : ns[k]? = some v) : atI (ns.map D.int) (k : Int) = some (.int v) := by
  refine atI_nat ?_
  rw [List.getElem?_map, h]
  rfl
theorem cut_take {xs : List α} {k : Nat} : cutD xs none (some (k : Int)) = xs.take k := by
  unfold cutD
  rw [HT.sIx_none, HT.sIx_nat, Nat.sub_zero, List.drop_zero]
  by_cases h : k ≤ xs.length
  · rw [Nat.min_eq_left h]
  · rw [Nat.min_eq_right (by omega), List.take_of_length_le (by omega), List.take_of_length_le (by omega)]
theorem cut_drop {xs : List α} {k : Nat} : cutD xs (some (k : Int)) none = xs.drop k := by
  unfold cutD
  rw [HT.sIx_none, HT.sIx_nat]
  by_cases h : k ≤ xs.length
  · rw [Nat.min_eq_left h]
    exact List.take_of_length_le (by rw [List.length_drop]; omega)
  · rw [Nat.min_eq_right (by omega), Nat.sub_self, List.take_zero, List.drop_of_length_le (by omega)]
end
end DL

/-! more of what is built in: sums, greatest, least; ranges downward; pairs with numbers -/
namespace DL
open PySem PySem.Spec PyProof.Rows L2
section
variable {K : PySem.W.Frag} {W : WX}
def intL : List D → Option (List Int)
  | [] => some []
  | .int i :: r => (intL r).map fun q => i :: q
  | _ => none
theorem intL_map : ∀ ns : List Int, intL (ns.map D.int) = some ns
  | [] => rfl
  | n :: r => by
    show (intL (r.map D.int)).map _ = _
    rw [intL_map r]
    rfl
theorem intL_eq : ∀ {ds : List D} {ns : List Int}, intL ds = some ns → ds = ns.map D.int
  | [], ns, h => by
    cases h
    rfl
  | .int i :: r, ns, h => by
    have h : (intL r).map (fun q => i :: q) = some ns := h
    cases e : intL r with
    | none =>
      rw [e] at h
      cases h
    | some q =>
      rw [e] at h
      cases h
      rw [intL_eq e]
      rfl
  | .non :: _, _, h => by cases h
  | .bl _ :: _, _, h => by cases h
  | .str _ :: _, _, h => by cases h
  | .lst _ :: _, _, h => by cases h
  | .tup _ :: _, _, h => by cases h
  | .dic _ :: _, _, h => by cases h
  | .scr _ :: _, _, h => by cases h
  | .ref _ :: _, _, h => by cases h
  | .ty _ :: _, _, h => by cases h
theorem isA_int {B : Hp} : ∀ {ns : List Int} {ys : List V}, IsA K B ys (ns.map D.int) → ys = ns.map V.int
  | [], _, h => by
    cases h
    rfl
  | n :: r, _, h => by
    cases h with
    | cons a b => rw [a.intV, isA_int b]; rfl
/-- the greatest, the least of some -/
def maxI (n : Int) : List Int → Int
  | [] => n
  | m :: r => maxI (cond (ltB n m) m n) r
def minI (n : Int) : List Int → Int
  | [] => n
  | m :: r => minI (cond (ltB m n) m n) r
theorem maxI_spec : ∀ (r : List Int) (n : Int), maxI n r ∈ n :: r ∧ ∀ y, y ∈ n :: r → y ≤ maxI n r
  | [], n => ⟨List.mem_singleton.mpr rfl, fun y h => by rw [List.mem_singleton.mp h]; exact Int.le_refl _⟩
  | m :: r, n => by
    obtain ⟨h1, h2⟩ := maxI_spec r (cond (ltB n m) m n)
    have h3 := h2 _ List.mem_cons_self
    show maxI (cond (ltB n m) m n) r ∈ _ ∧ ∀ y, y ∈ n :: m :: r → y ≤ maxI (cond (ltB n m) m n) r
    have hc : n ≤ cond (ltB n m) m n ∧ m ≤ cond (ltB n m) m n ∧ (cond (ltB n m) m n = n ∨ cond (ltB n m) m n = m) := by
      by_cases h : n < m
      · rw [lt_t h, cond_true]
        omega
      · rw [lt_f h, cond_false]
        omega
    refine ⟨?_, fun y hy => ?_⟩
    · rcases List.mem_cons.mp h1 with h1 | h1
      · rw [h1]
        rcases hc.2.2 with e | e <;> rw [e] <;> simp
      · simp [h1]
    · rcases List.mem_cons.mp hy with rfl | hy
      · omega
      · rcases List.mem_cons.mp hy with rfl | hy
        · omega
        · exact h2 y (List.mem_cons_of_mem _ hy)
theorem minI_spec : ∀ (r : List Int) (n : Int), minI n r ∈ n :: r ∧ ∀ y, y ∈ n :: r → minI n r ≤ y
  | [], n => ⟨List.mem_singleton.mpr rfl, fun y h => by rw [List.mem_singleton.mp h]; exact Int.le_refl _⟩
  | m :: r, n => by
    obtain ⟨h1, h2⟩ := minI_spec r (cond (ltB m n) m n)
    have h3 := h2 _ List.mem_cons_self
    show minI (cond (ltB m n) m n) r ∈ _ ∧ ∀ y, y ∈ n :: m :: r → minI (cond (ltB m n) m n) r ≤ y
    have hc : cond (ltB m n) m n ≤ n ∧ cond (ltB m n) m n ≤ m ∧ (cond (ltB m n) m n = n ∨ cond (ltB m n) m n = m) := by
      by_cases h : m < n
      · rw [lt_t h, cond_true]
        omega
      · rw [lt_f h, cond_false]
        omega
    refine ⟨?_, fun y hy => ?_⟩
    · rcases List.mem_cons.mp h1 with h1 | h1
      · rw [h1]
        rcases hc.2.2 with e | e <;> rw [e] <;> simp
      · simp [h1]
    · rcases List.mem_cons.mp hy with rfl | hy
      · omega
      · rcases List.mem_cons.mp hy with rfl | hy
        · omega
        · exact h2 y (List.mem_cons_of_mem _ hy)
def sumR : Option (List Int) → Option Rv
  | some ns => some (.im (.int ns.sum))
  | none => none
def maxR : Option (List Int) → Option Rv
  | some (n :: r) => some (.im (.int (maxI n r)))
  | _ => none
def minR : Option (List Int) → Option Rv
  | some (n :: r) => some (.im (.int (minI n r)))
  | _ => none
def bSum : List D → Option Rv
  | [.lst ds] => sumR (intL ds)
  | _ => none
def bMax1 : List D → Option Rv
  | [.lst ds] => maxR (intL ds)
  | _ => none
def bMin1 : List D → Option Rv
  | [.lst ds] => minR (intL ds)
  | _ => none
theorem x_sum {ns : List Int} : bSum [.lst (ns.map D.int)] = some (.im (.int ns.sum)) := by
  show sumR (intL _) = _
  rw [intL_map]
  rfl
theorem x_max1 {n : Int} {r : List Int} : bMax1 [.lst (List.map D.int (n :: r))] = some (.im (.int (maxI n r))) := by
  show maxR (intL _) = _
  rw [intL_map]
  rfl
theorem x_min1 {n : Int} {r : List Int} : bMin1 [.lst (List.map D.int (n :: r))] = some (.im (.int (minI n r))) := by
  show minR (intL _) = _
  rw [intL_map]
  rfl
theorem cd_sum : CbD K (rSum K) bSum := by
  intro ks σ0 Fm B H σ ρ xs ds rv Q I hx e q
  unfold bSum at e
  split at e
  · rename_i es
    cases hi : intL es with
    | none =>
      rw [hi] at e
      cases e
    | some ns =>
      rw [hi] at e
      cases e
      obtain ⟨v, rfl, h⟩ := isA_1 hx
      obtain ⟨a, ys, rfl, ha, k⟩ := h.lstV
      rw [intL_eq hi] at k
      rw [isA_int k] at ha
      exact ⟨a, ns, rfl, .inl (.inl (I.ex _ _ ha)), q B H _ (Same.refl B) I (.int _)⟩
  · cases e
theorem cd_max1 : CbD K (rMax K) bMax1 := by
  intro ks σ0 Fm B H σ ρ xs ds rv Q I hx e q
  unfold bMax1 at e
  split at e
  · rename_i es
    cases hi : intL es with
    | none =>
      rw [hi] at e
      cases e
    | some ns =>
      rw [hi] at e
      cases ns with
      | nil => cases e
      | cons n r =>
        cases e
        obtain ⟨v, rfl, h⟩ := isA_1 hx
        obtain ⟨a, ys, rfl, ha, k⟩ := h.lstV
        rw [intL_eq hi] at k
        rw [isA_int k] at ha
        refine ⟨a, n :: r, rfl, .inl (.inl (I.ex _ _ ha)), by rw [List.length_cons]; omega, fun m h1 h2 => ?_⟩
        obtain ⟨g1, g2⟩ := maxI_spec r n
        have : m = maxI n r := Int.le_antisymm (g2 m h1) (h2 _ g1)
        rw [this]
        exact q B H _ (Same.refl B) I (.int _)
  · cases e
theorem cd_min1 : CbD K (rMin K) bMin1 := by
  intro ks σ0 Fm B H σ ρ xs ds rv Q I hx e q
  unfold bMin1 at e
  split at e
  · rename_i es
    cases hi : intL es with
    | none =>
      rw [hi] at e
      cases e
    | some ns =>
      rw [hi] at e
      cases ns with
      | nil => cases e
      | cons n r =>
        cases e
        obtain ⟨v, rfl, h⟩ := isA_1 hx
        obtain ⟨a, ys, rfl, ha, k⟩ := h.lstV
        rw [intL_eq hi] at k
        rw [isA_int k] at ha
        refine ⟨a, n :: r, rfl, .inl (.inl (I.ex _ _ ha)), by rw [List.length_cons]; omega, fun m h1 h2 => ?_⟩
        obtain ⟨g1, g2⟩ := minI_spec r n
        have : m = minI n r := Int.le_antisymm (h2 _ g1) (g2 m h1)
        rw [this]
        exact q B H _ (Same.refl B) I (.int _)
  · cases e
theorem cr_sumK {X : Cx} (e : X.K = K) (hc : X.calm = true) : CallR X (.builtin "sum") (rSum K) := by subst e; exact cr_sum hc
theorem cr_maxK {X : Cx} (e : X.K = K) (hc : X.calm = true) : CallR X (.builtin "max") (rMax K) := by subst e; exact cr_max hc
theorem cr_minK {X : Cx} (e : X.K = K) (hc : X.calm = true) : CallR X (.builtin "min") (rMin K) := by subst e; exact cr_min hc
/-- from i on downward, n of them -/
def dnD (i : Int) (n : Nat) : List D := (List.range n).map fun (k : Nat) => .int (i - (k : Int))
theorem dnD_len (i : Int) (n : Nat) : (dnD i n).length = n := by
  unfold dnD
  rw [List.length_map, List.length_range]
theorem dnD_get {i : Int} {n k : Nat} (h : k < n) : (dnD i n)[k]? = some (.int (i - (k : Int))) := by
  unfold dnD
  rw [List.getElem?_map, List.getElem?_range h]
  rfl
theorem wk_dn {i : Int} {n : Nat} {B0 : Hp} : Wk K (Itc i (-1) n) (dnD i n) B0 := by
  intro ks σ0 Fm B H σ ρ k s I
  rw [dnD_len]
  refine ⟨fun hi => ⟨hi, fun x H' y => ?_⟩, fun hi => hi⟩
  obtain ⟨rfl, rfl⟩ := y
  exact ⟨B, _, dnD_get hi, Same.refl B, Same.refl _, I, by rw [show i + (k : Int) * -1 = i - (k : Int) by omega]; exact .int _⟩
def rng3K (as : List Av) (ρ : Env) : R (List D) :=
  match as with
  | [.im (.int i), .im (.int j), .im (.int c)] => if (c = -1 ∧ -(2 ^ 60) < i ∧ i < 2 ^ 60) ∧ -(2 ^ 60) < j ∧ j < 2 ^ 60 then .ok (dnD i (i - j).toNat) ρ else .bad
  | _ => .bad
def iRng3D (f : Env → R (List Av)) : Env → R (List D) := fun ρ => (f ρ).bind rng3K
theorem x_rng3 {f : Env → R (List Av)} {ρ : Env} : iRng3D f ρ = (f ρ).bind rng3K := (rfl)
theorem x_rng3K {i j : Int} {ρ : Env} (h1 : -(2 ^ 60) < i) (h2 : i < 2 ^ 60) (h3 : -(2 ^ 60) < j) (h4 : j < 2 ^ 60) : rng3K [.im (.int i), .im (.int j), .im (.int (-1))] ρ = .ok (dnD i (i - j).toNat) ρ := if_pos ⟨⟨rfl, h1, h2⟩, h3, h4⟩
theorem arg3 {σ : L2.St} {B H : Hp} {ρ : Env} {vs : List V} {d e f : D} (h : ArgIs K σ B H ρ vs [.im d, .im e, .im f]) : ∃ u v w, vs = [u, v, w] ∧ Is K B u d ∧ Is K B v e ∧ Is K B w f := by
  cases h with
  | cons a b =>
    obtain ⟨v, w, rfl, h, h'⟩ := arg2 (σ := σ) (B := B) (H := H) (ρ := ρ) b
    exact ⟨_, _, _, rfl, a, h, h'⟩
theorem di_rng3 {tr : TA} {fr : Env → R (List Av)} (h : DA K W tr fr) : DI K W (iRng3 tr) (iRng3D fr) := fun ks σ0 Fm B H σ ρ Q I p =>
  h ks σ0 Fm B H σ ρ _ I (PtG.step p fun as ρ1 B1 H1 vs s I1 v1 p1 => by
    unfold rng3K at p1
    split at p1
    · rename_i i j c
      obtain ⟨u, v, w, rfl, hu, hv, hw⟩ := arg3 v1
      by_cases hl : (c = -1 ∧ -(2 ^ 60) < i ∧ i < 2 ^ 60) ∧ -(2 ^ 60) < j ∧ j < 2 ^ 60
      · rw [if_pos hl] at p1
        obtain ⟨⟨rfl, h1, h2⟩, h3, h4⟩ := hl
        exact ⟨i, j, -1, (i - j).toNat, by rw [hu.intV, hv.intV, hw.intV], RgC.neg (by omega) (by omega) (by omega) (by omega), p1 B1 H1 _ (Same.refl B1) I1 wk_dn⟩
      · rw [if_neg hl] at p1
        exact p1.elim
    · exact p1.elim)
/-- reversed(range(n)) -/
def rev1K (x : Rv) (ρ : Env) : R (List D) :=
  match x.d with
  | .int n => if -(2 ^ 60) < n ∧ n < 2 ^ 60 then .ok (dnD (n.toNat - 1) n.toNat) ρ else .bad
  | _ => .bad
def iRev1D (f : Env → R Rv) : Env → R (List D) := fun ρ => (f ρ).bind rev1K
theorem x_rev1 {f : Env → R Rv} {ρ : Env} : iRev1D f ρ = (f ρ).bind rev1K := (rfl)
theorem x_rev1K {n : Int} {ρ : Env} (h1 : -(2 ^ 60) < n) (h2 : n < 2 ^ 60) : rev1K (.im (.int n)) ρ = .ok (dnD (n.toNat - 1) n.toNat) ρ := if_pos ⟨h1, h2⟩
theorem di_rev1 {te : TE} {f : Env → R Rv} (h : DE K W te f) : DI K W (iRevR (tRg1 te)) (iRev1D f) := fun ks σ0 Fm B H σ ρ Q I p =>
  h ks σ0 Fm B H σ ρ _ I (PtG.step p fun rv ρ1 B1 H1 v s I1 v1 p1 => by
    obtain ⟨B2, s2, I2, i2⟩ := freeze I1 v1
    unfold rev1K at p1
    cases e : rv.d with
    | int n =>
      rw [e] at p1 i2
      have p1 : PtG _ _ _ _ _ _ _ _ _ (if -(2 ^ 60) < n ∧ n < 2 ^ 60 then R.ok (dnD (n.toNat - 1) n.toNat) ρ1 else .bad) := p1
      by_cases hl : -(2 ^ 60) < n ∧ n < 2 ^ 60
      · rw [if_pos hl] at p1
        refine ⟨n, i2.intV, by omega, by omega, by omega, by omega, ?_⟩
        have e1 : (0 : Int) + (((n - 0).toNat : Nat) : Int) - 1 = (n.toNat : Int) - 1 := by omega
        have e2 : (n - 0).toNat = n.toNat := by omega
        rw [e1, e2]
        exact p1 B2 H1 _ s2 I2 wk_dn
      · rw [if_neg hl] at p1
        exact p1.elim
    | _ =>
      rw [e] at p1
      exact p1.elim)
/-- enumerate of a list -/
def enumK (as : List Av) (ρ : Env) : R (List D) :=
  match as with
  | [.im (.lst ds)] => .ok (zipD (rngD 0 ds.length) ds) ρ
  | _ => .bad
def iEnumD (f : Env → R (List Av)) : Env → R (List D) := fun ρ => (f ρ).bind enumK
theorem x_enum {f : Env → R (List Av)} {ρ : Env} : iEnumD f ρ = (f ρ).bind enumK := (rfl)
theorem x_enumK {ds : List D} {ρ : Env} : enumK [.im (.lst ds)] ρ = .ok (zipD (rngD 0 ds.length) ds) ρ := (rfl)
theorem wk_enum {a : Addr} {xs : List V} {ds : List D} {B0 : Hp} (h : SqL K B0 a xs) (kk : IsA K B0 xs ds) : Wk K (Ite K a) (zipD (rngD 0 ds.length) ds) B0 := by
  intro ks σ0 Fm B H σ ρ i s I
  have hq : SqL K H a xs := I.ex.seq (s.seq h)
  rw [zipD_len, rngD_len, Nat.min_self]
  refine ⟨fun hi => ?_, fun hi => ⟨xs, hq, by rw [kk.len]; exact hi⟩⟩
  have hi2 : i < xs.length := by rw [kk.len]; exact hi
  refine ⟨⟨xs, xs[i], hq, List.getElem?_eq_getElem hi2⟩, fun x H' y => ?_⟩
  obtain ⟨T, z, rfl, hT, rfl, f1⟩ := y
  obtain ⟨d, hd, iv⟩ := kk.getV (f1 xs hq)
  have s2 := same_upd (o := .tup [.int (i : Int), z]) (I.ex.free hT)
  have hr : (rngD 0 ds.length)[i]? = some (.int (i : Int)) := by
    rw [rngD_get hi, Int.zero_add]
  exact ⟨_, _, zipD_get hr hd, s2, same_upd hT, I.laid hT, .tup upd_same (.cons (.int _) (.cons ((iv.mono s).mono s2) .nil))⟩
theorem di_enum {tr : TA} {fr : Env → R (List Av)} (h : DA K W tr fr) : DI K W (iEnum K tr) (iEnumD fr) := fun ks σ0 Fm B H σ ρ Q I p =>
  h ks σ0 Fm B H σ ρ _ I (PtG.step p fun as ρ1 B1 H1 vs s I1 v1 p1 => by
    unfold enumK at p1
    split at p1
    · obtain ⟨v, rfl, hv⟩ := arg1 v1
      obtain ⟨a, xs, rfl, ha, kk⟩ := hv.lstV
      exact ⟨a, xs, rfl, .inl (.inl (I1.ex _ _ ha)), p1 B1 H1 _ (Same.refl B1) I1 (wk_enum (.inl (.inl ha)) kk)⟩
    · exact p1.elim)
theorem pi_enumK {X : Cx} {e : Expr} {ta : TA} {p pos tpos : Pos} {elts : List Expr} {kk : Nat} (ek : X.K = K) (hg : Gl X "enumerate") (hm : X.mg "enumerate" = none) (ha : PA X [e] ta) (hs : starEach [e] X.env = [(false, eval e X.env)] := by rfl) :
    PI X (.Tuple elts kk tpos) (.Call (.Name "enumerate" p) [e] [] pos) (iEnum K ta) := by subst ek; exact pi_enum hg hm ha hs
end
end DL

/-! exceptions: raised, let through, caught -/
namespace DL
open PySem PySem.Spec PyProof.Rows L2
section
variable {K : PySem.W.Frag} {W : WX} {ks : List Nat}
def sRaise0 (C : Addr) : Env → Out := fun ρ => .exc C none ρ
def raiseK (C : Addr) (nm : Str) (as : List Av) (ρ : Env) : Out :=
  match as with
  | [.im d] => .exc C (some (nm, d)) ρ
  | _ => .bad
def sRaise1 (C : Addr) (nm : Str) (fa : Env → R (List Av)) : Env → Out := fun ρ => (fa ρ).toO (raiseK C nm)
/-- what is caught: m tells of a class whether it is -/
def catchO (m : Addr → Option Bool) (h : Env → Out) (o : Out) : Out :=
  match o with
  | .exc C d ρ =>
    match m C with
    | some true => h ρ
    | some false => .exc C d ρ
    | none => .bad
  | o => o
def sTry (m : Addr → Option Bool) (g h : Env → Out) : Env → Out := fun ρ => catchO m h (g ρ)
theorem x_non1 : isNonD .non = true := (rfl)
theorem x_non2 {k : Int} : isNonD (.int k) = false := (rfl)
theorem x_non3 {ds : List D} : isNonD (.lst ds) = false := (rfl)
theorem x_raise1 {C : Addr} {nm : Str} {fa : Env → R (List Av)} {ρ : Env} : sRaise1 C nm fa ρ = (fa ρ).toO (raiseK C nm) := (rfl)
theorem x_raiseK {C : Addr} {nm : Str} {d : D} {ρ : Env} : raiseK C nm [.im d] ρ = .exc C (some (nm, d)) ρ := (rfl)
theorem x_raise0 {C : Addr} {ρ : Env} : sRaise0 C ρ = .exc C none ρ := (rfl)
theorem x_try {m : Addr → Option Bool} {g h : Env → Out} {ρ : Env} : sTry m g h ρ = catchO m h (g ρ) := (rfl)
theorem x_catchN {m : Addr → Option Bool} {h : Env → Out} {ρ : Env} : catchO m h (.nx ρ) = .nx ρ := (rfl)
theorem x_catchR {m : Addr → Option Bool} {h : Env → Out} {ρ : Env} {rv : Rv} : catchO m h (.ret rv ρ) = .ret rv ρ := (rfl)
theorem x_catchX {m : Addr → Option Bool} {h : Env → Out} {ρ : Env} {C : Addr} {d : Option (Str × D)} (e : m C = some true) : catchO m h (.exc C d ρ) = h ρ := by
  unfold catchO
  simp only [e]
/-- just the class at C is known, and is caught -/
def isC (C : Addr) (a : Addr) : Option Bool := if a = C then some true else none
theorem isC_t {C : Addr} : isC C C = some true := if_pos rfl
/-- what __init__(self, x) promises that stores x as f -/
def spI (K : PySem.W.Frag) (C : Addr) (f : Str) : Sp := fun vs H Q _ => ∃ (a : Addr) (y : V), vs = [.ref a, y] ∧ OexC K C ∧ PySem.W.findIn K (.ref C) f = some none ∧ H a = some (exo a C none) ∧
  ∀ dx, H dx = none → dx ≠ a → Q .non (upd (upd H dx (exd dx [(f, y)])) a (exo a C (some dx)))
theorem spI_run {C : Addr} {f : Str} {vs : List V} {H : Hp} {Q : VK} {E : XK} {N : List Str} {D : Ends} (h : spI K C f vs H Q E) (hN : N.length = 2) (hD : ∀ σ H', Q .non H' → D.nx σ H') : tOst K f (tVar 0) (tVar 1) D (start N vs) H := by
  obtain ⟨a, y, rfl, h1, h2, h3, h4⟩ := h
  exact ⟨y, rfl, .ref a, rfl, a, C, rfl, h1, h2, .inl ⟨h3, fun dx e n => hD _ _ (h4 dx e n)⟩⟩
theorem spI_len {C : Addr} {f : Str} {vs : List V} {H : Hp} {Q : VK} {E : XK} (h : spI K C f vs H Q E) : vs.length = 2 := by
  obtain ⟨a, y, rfl, _⟩ := h
  rfl
/-- an own class of exceptions over ValueError with one field -/
structure Ex1 (K : PySem.W.Frag) (mg : Str → Option Value) (x f qual : Str) (st : Stmt) (ps : List Str) (C fI : Addr) (fd : FuncData) : Prop where
  mgc : mg x = some (.ref C)
  cls : OexC K C
  ini : PySem.W.findIn K (.ref C) "__init__" = some (some (.ref fI))
  typ : PySem.W.typeIn K (.ref fI) = some (.type "function")
  nof : PySem.W.findIn K (.ref C) f = some none
  fn : C8.Fun K "__init__" qual st fI fd
  bnd : Binds K fd ps []
  one : PySem.W.exmOne K (.ref C) (.ref C) = some true
theorem isC_ok {C : Addr} (h : PySem.W.exmOne K (.ref C) (.ref C) = some true) : ∀ a b, isC C a = some b → PySem.W.exmOne K (.ref a) (.ref C) = some b := fun a b e => by
  unfold isC at e
  by_cases q : a = C
  · rw [if_pos q] at e
    cases e
    rw [q]
    exact h
  · rw [if_neg q] at e
    cases e
theorem ds_raise0 {C : Addr} : DS K W ks (fun _ σ H => (fun (_ : L2.St) (H : Hp) (Q : XK) => Q (.ref C) none H) σ H fun cls d H' => W cls d σ H') (sRaise0 C) := fun σ0 Fm B H σ ρ E I p => p B H σ none (Same.refl B) I rfl
theorem ds_raise1 {C : Addr} {nm : Str} {ta : TA} {fa : Env → R (List Av)} (hc : OexC K C) (hf : PySem.W.findIn K (.ref C) nm = some none) (ha : DA K W ta fa) :
    DS K W ks (fun _ σ H => tMkO C (spI K C nm) [] ta σ H fun cls d H' => W cls d σ H') (sRaise1 C nm fa) := fun σ0 Fm B H σ ρ E I p =>
  ha ks σ0 Fm B H σ ρ _ I (PtS.step p fun as ρ1 B1 H1 vs s1 I1 v1 p1 => by
    unfold raiseK at p1
    split at p1
    · rename_i d
      obtain ⟨y, rfl, hy⟩ := arg1 v1
      refine ⟨by show 1 ≤ 1000; decide, fun a na => ⟨a, y, rfl, hc, hf, upd_same, fun dx nd hda => ⟨rfl, dx, [(nm, y)], upd_same, ?_, ?_, ?_⟩⟩⟩
      · rw [upd_ne hda, upd_same]
      · rwa [upd_ne hda] at nd
      · have hdx : H1 dx = none := by rwa [upd_ne hda] at nd
        have eH : upd (del (upd (upd (upd H1 a (exo a C none)) dx (exd dx [(nm, y)])) a (exo a C (some dx))) a) dx (.xd [(nm, y)]) = upd H1 dx (.xd [(nm, y)]) := by
          funext b
          by_cases h1 : b = dx
          · rw [h1, upd_same, upd_same]
          · rw [upd_ne h1, upd_ne h1]
            by_cases h2 : b = a
            · rw [h2, del_same, na]
            · rw [del_ne h2, upd_ne h2, upd_ne h1, upd_ne h2]
        rw [eH]
        have s2 : Same B1 (upd B1 dx (.xd [(nm, y)])) := same_upd (I1.ex.free hdx)
        exact p1 _ _ _ (some dx) s2 (I1.laid hdx) ⟨dx, y, rfl, upd_same, hy.mono s2⟩
    · exact p1.elim)
theorem ds_try {tb : WX → TS} {ts : TS} {c : Addr} {m : Addr → Option Bool} {g h : Env → Out} (hm : ∀ a b, m a = some b → PySem.W.exmOne K (.ref a) (.ref c) = some b) (hb : ∀ W, DS K W ks (tb W) g) (hs : DS K W ks ts h) :
    DS K W ks (fun D σ H => tb (wOnly K (.ref c) (fun _ _ _ => ts) W D) D σ H) (sTry m g h) := fun σ0 Fm B H σ ρ E I p =>
  hb _ σ0 Fm B H σ ρ E I (by
    have p : PtS K ks σ0 Fm W B E (catchO m h (g ρ)) := p
    cases e : g ρ with
    | exc C d ρ' =>
      rw [e] at p
      unfold catchO at p
      intro B' H' σ' dx s' I' x
      cases q : m C with
      | none =>
        simp only [q] at p
        exact p.elim
      | some b =>
        refine ⟨b, hm C b q, fun hb' a _ => ?_, fun hb' => ?_⟩
        · subst hb'
          simp only [q] at p
          exact hs σ0 Fm B' H' σ' ρ' E I' (p.mono s')
        · subst hb'
          simp only [q] at p
          exact p B' H' σ' dx s' I' x
    | nx ρ' => rw [e] at p; exact p
    | ret rv ρ' => rw [e] at p; exact p
    | brk ρ' => rw [e] at p; exact p
    | ct ρ' => rw [e] at p; exact p
    | bad => rw [e] at p; exact p.elim)
end
end DL

/-! in and not in of lists; extend -/
namespace DL
open PySem PySem.Spec PyProof.Rows L2
section
variable {K : PySem.W.Frag} {W : WX} {ks : List Nat} {te ta : TE} {f fa : Env → R Rv}
def inD (x y : D) : Option Bool :=
  match y with
  | .lst ds => x.py.bind fun p => (pyA ds).bind fun ps => if SeqAt.shaped p = true ∧ SeqAt.shaped (.list ps) = true then some (ps.any fun z => PyData.eqv z p) else none
  | _ => none
def cIn (x y : D) : Option Rv := (inD x y).map fun b => .im (.bl b)
def cNotIn (x y : D) : Option Rv := (inD x y).map fun b => .im (.bl !b)
theorem inD_of {x y : D} {b : Bool} (e : inD x y = some b) : ∃ p ps, x.py = some p ∧ y.py = some (.list ps) ∧ SeqAt.shaped p = true ∧ SeqAt.shaped (.list ps) = true ∧ b = ps.any fun z => PyData.eqv z p := by
  unfold inD at e
  split at e
  · rename_i ds
    cases h1 : x.py with
    | none =>
      rw [h1] at e
      cases e
    | some p =>
      rw [h1] at e
      cases h2 : pyA ds with
      | none =>
        rw [h2] at e
        cases e
      | some ps =>
        rw [h2] at e
        have e : (if SeqAt.shaped p = true ∧ SeqAt.shaped (.list ps) = true then some (ps.any fun z => PyData.eqv z p) else none) = some b := e
        by_cases hs : SeqAt.shaped p = true ∧ SeqAt.shaped (.list ps) = true
        · rw [if_pos hs] at e
          cases e
          exact ⟨p, ps, rfl, by rw [D.py, h2]; rfl, hs.1, hs.2, rfl⟩
        · rw [if_neg hs] at e
          cases e
  · cases e
theorem od_in : OpD K (rInD K) cIn := by
  intro ks σ0 Fm B H σ ρ x y dx dy rv Q I hx hy e q
  unfold cIn at e
  cases e1 : inD dx dy with
  | none =>
    rw [e1] at e
    cases e
  | some b =>
    rw [e1] at e
    cases e
    obtain ⟨p, ps, h1, h2, s1, s2, rfl⟩ := inD_of e1
    exact ⟨p, ps, (hx.mono I.ex).dp h1, (hy.mono I.ex).dp h2, s1, s2, q B H _ (Same.refl B) I (.bl _)⟩
theorem od_notIn : OpD K (rNotInD K) cNotIn := by
  intro ks σ0 Fm B H σ ρ x y dx dy rv Q I hx hy e q
  unfold cNotIn at e
  cases e1 : inD dx dy with
  | none =>
    rw [e1] at e
    cases e
  | some b =>
    rw [e1] at e
    cases e
    obtain ⟨p, ps, h1, h2, s1, s2, rfl⟩ := inD_of e1
    exact ⟨p, ps, (hx.mono I.ex).dp h1, (hy.mono I.ex).dp h2, s1, s2, q B H _ (Same.refl B) I (.bl _)⟩
theorem op_inK {X : Cx} (e : X.K = K) (hu : X.A.units + 65 < cLine) : OpR X (compareOp .In) (rInD K) := by subst e; exact op_inD hu
theorem op_notInK {X : Cx} (e : X.K = K) (hu : X.A.units + 65 < cLine) : OpR X (compareOp .NotIn) (rNotInD K) := by subst e; exact op_notInD hu
theorem room65 {k : Nat} {A : Around} (r : Room k A) : A.units + 65 < cLine := by have := r.un; omega
/-- x.extend(e) -/
def sExt (i : Nat) (f : Env → R Rv) : Env → Out := fun ρ =>
  match ρ[i]? with
  | some (.own _) => (f ρ).toO fun rv ρ => match ρ[i]?, rv.d with
    | some (.own ds), .lst es => if ds.length + es.length ≤ 100000 then .nx (ρ.set i (.own (ds ++ es))) else .bad
    | _, _ => .bad
  | _ => .bad
theorem ds_ext {i : Nat} (h : DE K W te f) : DS K W ks (tDrop (tBM K "list" rExtend (tVar i) (tCons te tNil))) (sExt i f) := fun σ0 Fm B H σ ρ E I p => by
  unfold sExt at p
  cases e : ρ[i]? with
  | none => rw [e] at p; exact p.elim
  | some x =>
    rw [e] at p
    cases x with
    | no => exact p.elim
    | bk t => exact p.elim
    | im d => exact p.elim
    | own ds =>
      obtain ⟨a, xs, h1, h2, _⟩ := I.own i ds e
      refine ⟨.ref a, h1, .inl ⟨rfl, xs, .inl (.inl h2)⟩, h ks σ0 Fm B H σ ρ _ I (PtS.step p fun rv ρ1 B1 H1 v s I1 v1 p1 => ?_)⟩
      obtain ⟨B2, s2, I2, i2⟩ := freeze I1 v1
      cases e1 : ρ1[i]? with
      | none => rw [e1] at p1; exact p1.elim
      | some x1 =>
        rw [e1] at p1
        cases x1 with
        | no => exact p1.elim
        | bk t => exact p1.elim
        | im d => exact p1.elim
        | own es =>
          cases e3 : rv.d with
          | lst zs =>
            rw [e3] at p1 i2
            have p2 : PtS K ks σ0 Fm W B1 E (if es.length + zs.length ≤ 100000 then .nx (ρ1.set i (.own (es ++ zs))) else .bad) := p1
            obtain ⟨b, ys, g1, g2, g3, g4, g5⟩ := I2.own i es e1
            rw [h1] at g1
            cases g1
            by_cases hl : es.length + zs.length ≤ 100000
            · rw [if_pos hl] at p2
              obtain ⟨c, ws, rfl, hc, kk⟩ := i2.lstV
              refine ⟨a, c, ys, ws, rfl, rfl, g2, I2.ex _ _ hc, by rw [g5.len, kk.len, sizeLine_eq]; omega, ?_⟩
              exact p2 B2 _ σ s2 (I2.wr e1 h1 (g5.app kk))
            · rw [if_neg hl] at p2
              exact p2.elim
          | _ => rw [e3] at p1; exact p1.elim
end
end DL

/-! DL, part h: defs that know that no guard stands around them (for repr); keyword calls; lists lent -/
namespace DL
open PySem PySem.Spec PyProof.Rows L2

/-- as the hand layer's FnOk, for calls around which no guard stands -/
structure GFn (P : Program) (w : World) (K : PySem.W.Frag) (mg : Str → Option Value) (base : Heap) (CX : CXT) (k : Nat) (f : Addr) (fd : FuncData) (ps : List Str) (sp : Sp) : Prop where
  len : ∀ vs H Q E, sp vs H Q E → vs.length = ps.length
  run : ∀ (A : Around) (outer : List PySem.Env) (s : Shared) (H : Hp) (args : Args) (us : List Value) (vs : List V) (Q : VK) (E : XK), Room k A → A.guards = some [] → Env0 P w K mg base A outer s H → BindsTo s fd args (ps.zip us) → Vals vs us → sp vs H Q E →
    codeAny (model P w) A (.call (.ref f) args) (CR CX outer P w H s Q E) s
section
variable {P : Program} {w : World} {K : PySem.W.Frag} {mg : Str → Option Value} {base : Heap} {CX : CXT} {j k : Nat} {f : Addr} {fd : FuncData} {ps : List Str} {sp : Sp}
theorem GFn.mono (F : GFn P w K mg base CX j f fd ps sp) (h : j ≤ k) : GFn P w K mg base CX k f fd ps sp := ⟨F.len, fun A outer s H args us vs Q E hr => F.run A outer s H args us vs Q E (hr.mono h)⟩
theorem GFn.of_fn (F : FnOk P w K mg base CX k f fd ps sp) : GFn P w K mg base CX k f fd ps sp := ⟨F.len, fun A outer s H args us vs Q E hr _ => F.run A outer s H args us vs Q E hr⟩
/-- a def of the text, called where no guard stands -/
theorem gfn_of {nm qual : Str} {pr : Arguments} {bd : List Stmt} {sc : Scope} {dV kV doc pm cdv ct oc : Value} {an od : Option Addr} {osl : Array (Option Value)} {N : List Str}
    (lk : K.lookup f = some ⟨oc, od, .func (PySem.W.fnOf nm qual pr bd sc dV kV doc pm an cdv ct), osl⟩) (hcd : PySem.W.codeIn K cdv qual = true) (S : FnScope N ps sc) (len : ∀ vs H Q E, sp vs H Q E → vs.length = ps.length)
    (hB : ∀ (A : Around) (outer : List PySem.Env) (s : Shared) (H : Hp) (vs : List V) (Q : VK) (E : XK), Room k (A.deeper (envOfC qual sc s.heap.objs.size f cdv)) → A.guards = some [] → sp vs H Q E →
      ∃ t, PSs (cxOf CX P w K mg base N qual sc f cdv A outer s H E) bd t ∧ t { nx := fun _ G => Q .non G, rt := Q } (start N vs) H) :
    GFn P w K mg base CX (k + 1) f (PySem.W.fnOf nm qual pr bd sc dV kV doc pm an cdv ct) ps sp where
  len := len
  run := by
    intro A outer s H args us vs Q E room gd env bind rel hsp
    have n1 := len vs H Q E hsp
    have inS : K.In s.heap := env.mod.kin.keeps fun b o q => (env.bs b o q).1
    have noLim : s.heap.NoLimit := env.mod.nolimit.keeps fun b o q => (env.bs b o q).1
    obtain ⟨t, hp, hq⟩ := hB A outer s H vs Q E (room.deeper _) gd hsp
    have kinds : ∀ y ∈ ps.zip us, sc.names.lookup y.1 = some .local ∨ (sc.names.lookup y.1 = some .cell ∧ ((cellsFrom (s.heap.objs.size + 1) sc.names []).lookup y.1).isSome = true) := by
      rintro ⟨y, u⟩ hy
      exact (S.par y (List.of_mem_zip hy).1).imp id fun q => ⟨q, PySem.W.cellsFrom_some _ _ _ (.inl q)⟩
    refine codeAny_call_function room.depth (inS _ _ lk) rfl S.co S.gen rfl (PySem.W.codeRec_of inS hcd) (bind _ _ _ _ (wpAny_newFunctionEnv_cells S.kind kinds fun ev hev s2 into => ?_))
    subst hev
    refine ⟨noLim.keeps into.toInCall.keep, codeAny_func (wpAny_mono (hp.run [] s2 (start N vs) H _ (inv_start S room.hd env n1 rel into) hq) (fun fl s3 h3 => ?_) fun _ _ h3 => h3)⟩
    match fl, h3 with
    | .ret u, ⟨v, σ2, G, J, rv, q⟩ => exact ⟨v, G, J.os, J.bare, J.base, J.hok, rv, q⟩
    | .next, ⟨σ2, G, J, q⟩ => exact ⟨.non, G, J.os, J.bare, J.base, J.hok, rfl, q⟩
    | .brk, ⟨_, _, _, q⟩ => exact q.elim
    | .cont, ⟨_, _, _, q⟩ => exact q.elim
end

section
variable {X : Cx} {CX : CXT} {k : Nat} {f C : Addr} {fd : FuncData} {ps ks : List Str} {sp : Sp} {E : L2.St → XK} {x m : Str} {p pos apos : Pos} {e o : Expr} {es : List Expr} {ta : TE} {t tk : TA} {kws : List Keyword}
theorem run_gfn {pins : List (Addr × Obj)} {σ : L2.St} {H : Hp} {s : Shared} {Q : VK} {us : List Value} {vs : List V} (F : GFn X.prog X.w X.K X.mg X.base CX k f fd ps sp) (hr : Room k X.A) (hgd : X.A.guards = some []) (hb : Binds X.K fd ps []) (hx : PassesAt CX X σ (E σ))
    (I : Inv X pins σ H s) (r : Vals vs us) (h : sp vs H Q (E σ)) : wpAny (model X.prog X.w) X.A (call (.ref f) us) (EP X pins σ Q) X.xe s := by
  have hl : us.length = ps.length := by rw [← r.length]; exact F.len _ _ _ _ h
  have b := hb s us I.kIn (by rw [List.append_nil]; exact hl)
  rw [List.append_nil] at b
  refine wpAny_call (codeAny_mono (F.run X.A X.stack s H ⟨us, []⟩ us vs Q (E σ) hr hgd I.env0 b r h) fun r s' hq => ?_)
  match r, hq with
  | .error e, hq => exact hx pins H s e s' I hq
  | .ok (.ret u), hq => exact I.after hq
  | .ok .next, hq => exact hq.elim
  | .ok .brk, hq => exact hq.elim
  | .ok .cont, hq => exact hq.elim
theorem pe_callG (F : GFn X.prog X.w X.K X.mg X.base CX k f fd ps sp) (hr : Room k X.A) (hgd : X.A.guards = some []) (hg : Gl X x) (hm : X.mg x = some (.ref f)) (hk : PySem.W.keepIn X.K (.ref f) = true) (hb : Binds X.K fd ps []) (hx : ∀ σ, PassesAt CX X σ (E σ))
    (ha : PA X (e :: es) t) (hdb : (x == ("__debug__" : Str)) = false := by decide) (he : starEach (e :: es) X.env = (false, eval e X.env) :: starEach es X.env := by rfl) (hpl : (backTo pos (starEach es X.env)).any (·.1) = false := by rfl) :
    PE X (.Call (.Name x p) (e :: es) [] pos) (tCallS sp E t) := by
  refine ⟨fun pins s σ H Q I h => ?_⟩
  refine wpAny_Call_Name_kw (ld_glob I hg hm ?_ hdb)
  refine PySem.W.callWith_K (h₀ := X.base) I.ok.mod.kin hk (thn (ha.run pos pins s σ H _ I h) fun us s1 ⟨vs, H1, I1, r, q⟩ => ⟨I1.kIn, ?_⟩) he hpl
  exact run_gfn F hr hgd hb (hx σ) I1 r q
theorem pe_callG0 (F : GFn X.prog X.w X.K X.mg X.base CX k f fd ps sp) (hr : Room k X.A) (hgd : X.A.guards = some []) (hg : Gl X x) (hm : X.mg x = some (.ref f)) (hk : PySem.W.keepIn X.K (.ref f) = true) (hb : Binds X.K fd ps []) (hx : ∀ σ, PassesAt CX X σ (E σ))
    (hdb : (x == ("__debug__" : Str)) = false := by decide) : PE X (.Call (.Name x p) [] [] pos) (tCallS sp E tNil) := by
  refine ⟨fun pins s σ H Q I h => ?_⟩
  refine wpAny_Call_Name_kw (ld_glob I hg hm ?_ hdb)
  exact PySem.W.callWith_K0 I.kIn hk (run_gfn (us := []) F hr hgd hb (hx σ) I .nil h)
/-- what leaves a comprehension's element: nothing -/
theorem passG0 {X : Cx} (σ : L2.St) : PassesAt (L2.CX X.prog X.w) X σ (WE (fun _ _ _ _ => False) σ) := fun pins H s e s' I h => by
  obtain ⟨_, _, _, _, _, _, _, _, _, _, _, _, z⟩ := h
  exact z.elim

/-! keywords: all written arguments from the left, then put in the parameters' order -/
def permL {α : Type} (p : List Nat) (xs : List α) : List α := p.filterMap fun i => xs[i]?
def permG {α : Type} (m n : Nat) (p : List Nat) (us ws : List α) : List α := if us.length = m ∧ ws.length = n then permL p (us ++ ws) else []
theorem permL_rel {α β : Type} {R : α → β → Prop} {xs : List α} {ys : List β} (h : Paired R xs ys) : ∀ p : List Nat, Paired R (permL p xs) (permL p ys)
  | [] => .nil
  | i :: p => by
    have hl := Paired.length h
    unfold permL
    cases e : xs[i]? with
    | none =>
      have e2 : ys[i]? = none := by
        rw [List.getElem?_eq_none_iff] at e ⊢
        omega
      rw [List.filterMap_cons_none e, List.filterMap_cons_none e2]
      exact permL_rel h p
    | some a =>
      have hi := (List.getElem?_eq_some_iff.mp e).1
      have e2 : ys[i]? = some ys[i] := List.getElem?_eq_getElem (by omega)
      have hr : R a ys[i] := by
        have aux : ∀ {xs : List α} {ys : List β} {i : Nat} {a : α} {b : β}, Paired R xs ys → xs[i]? = some a → ys[i]? = some b → R a b := by
          intro xs ys i a b h
          induction h generalizing i with
          | nil => intro e; simp at e
          | cons h t ih =>
            intro e e2
            cases i with
            | zero => simp at e e2; subst e e2; exact h
            | succ i => exact ih (by simpa using e) (by simpa using e2)
        exact aux h e e2
      rw [List.filterMap_cons_some e, List.filterMap_cons_some e2]
      exact .cons hr (permL_rel h p)
theorem paired_append {α β : Type} {R : α → β → Prop} {xs xs' : List α} {ys ys' : List β} (h : Paired R xs ys) (h' : Paired R xs' ys') : Paired R (xs ++ xs') (ys ++ ys') := by
  induction h with
  | nil => exact h'
  | cons a t ih => exact .cons a ih
theorem permG_rel {α β : Type} {R : α → β → Prop} {m n : Nat} {p : List Nat} {us us2 : List α} {ws ws2 : List β} (h : Paired R us ws) (h2 : Paired R us2 ws2) : Paired R (permG m n p us us2) (permG m n p ws ws2) := by
  have l1 := Paired.length h
  have l2 := Paired.length h2
  unfold permG
  by_cases c : us.length = m ∧ us2.length = n
  · rw [if_pos c, if_pos (by omega)]
    exact permL_rel (paired_append h h2) p
  · rw [if_neg c, if_neg (by omega)]
    exact .nil
/-- how a call with m values and the keywords ks binds -/
def KB (K : PySem.W.Frag) (fd : FuncData) (ps ks : List Str) (m : Nat) (p : List Nat) : Prop :=
  ∀ (s : Shared) (us ws : List Value), K.In s.heap → us.length = m → ws.length = ks.length → BindsTo s fd ⟨us, ks.zip ws⟩ (ps.zip (permL p (us ++ ws)))
def tCallKG (sp : Sp) (m n : Nat) (p : List Nat) (E : L2.St → XK) (t tk : TA) : TE := fun σ H Q => t σ H fun vs H1 => tk σ H1 fun zs H2 => sp (permG m n p vs zs) H2 Q (E σ)
theorem run_gfnk {pins : List (Addr × Obj)} {σ : L2.St} {H : Hp} {s : Shared} {Q : VK} {us ws : List Value} {vs zs : List V} {m : Nat} {p : List Nat} (hps : ps ≠ []) (F : GFn X.prog X.w X.K X.mg X.base CX k f fd ps sp) (hr : Room k X.A) (hgd : X.A.guards = some []) (hb : KB X.K fd ps ks m p) (hx : PassesAt CX X σ (E σ))
    (I : Inv X pins σ H s) (r : Vals vs us) (rz : Vals zs ws) (h : sp (permG m ks.length p vs zs) H Q (E σ)) : wpAny (model X.prog X.w) X.A (call (.ref f) us (ks.zip ws)) (EP X pins σ Q) X.xe s := by
  have l1 := r.length
  have l2 := rz.length
  have hl : (permG m ks.length p vs zs).length = ps.length := F.len _ _ _ _ h
  have hc : vs.length = m ∧ zs.length = ks.length := by
    by_cases c : vs.length = m ∧ zs.length = ks.length
    · exact c
    · unfold permG at hl
      rw [if_neg c] at hl
      exact absurd (List.length_eq_zero_iff.mp hl.symm) hps
  have r2 : Vals (permG m ks.length p vs zs) (permL p (us ++ ws)) := by
    unfold permG
    rw [if_pos hc]
    exact permL_rel (paired_append r rz) p
  refine wpAny_call (codeAny_mono (F.run X.A X.stack s H ⟨us, ks.zip ws⟩ (permL p (us ++ ws)) (permG m ks.length p vs zs) Q (E σ) hr hgd I.env0 (hb s us ws I.kIn (by omega) (by omega)) r2 h) fun r s' hq => ?_)
  match r, hq with
  | .error e, hq => exact hx pins H s e s' I hq
  | .ok (.ret u), hq => exact I.after hq
  | .ok .next, hq => exact hq.elim
  | .ok .brk, hq => exact hq.elim
  | .ok .cont, hq => exact hq.elim
theorem pe_callKG {m : Nat} {q : List Nat} (hps : ps ≠ []) (F : GFn X.prog X.w X.K X.mg X.base CX k f fd ps sp) (hr : Room k X.A) (hgd : X.A.guards = some []) (hg : Gl X x) (hm : X.mg x = some (.ref f)) (hk : PySem.W.keepIn X.K (.ref f) = true) (hb : KB X.K fd ps ks m q) (hx : ∀ σ, PassesAt CX X σ (E σ))
    (ha : PA X (e :: es) t) (hkw : PK X kws tk) (hall : (backToKw pos (keywordEach kws X.env)).all (·.1.isSome) = true := by rfl) (hks : (backToKw pos (keywordEach kws X.env)).filterMap (·.1) = ks := by rfl)
    (hdb : (x == ("__debug__" : Str)) = false := by decide) (he : starEach (e :: es) X.env = (false, eval e X.env) :: starEach es X.env := by rfl)
    (hpl : ((backTo pos (starEach (e :: es) X.env)).any (·.1) || (backToKw pos (keywordEach kws X.env)).any (·.1.isNone)) = false := by rfl) :
    PE X (.Call (.Name x p) (e :: es) kws pos) (tCallKG sp m ks.length q E t tk) := by
  refine ⟨fun pins s σ H Q I h => ?_⟩
  refine wpAny_Call_Name_kw (ld_glob I hg hm ?_ hdb)
  refine PySem.W.callWith_KW (h₀ := X.base) I.ok.mod.kin hk hall (thn (ha.run pos pins s σ H _ I h) fun us s1 ⟨vs, H1, I1, r, q⟩ => ?_) hpl he
  refine thn (hkw.run pos pins s1 σ H1 _ I1 q) fun ws s2 ⟨zs, H2, I2, rz, q2⟩ => ⟨I2.kIn, ?_⟩
  rw [hks]
  exact run_gfnk hps F hr hgd hb (hx σ) I2 r rz q2
theorem pe_callKG0 {m : Nat} {q : List Nat} (hps : ps ≠ []) (F : GFn X.prog X.w X.K X.mg X.base CX k f fd ps sp) (hr : Room k X.A) (hgd : X.A.guards = some []) (hg : Gl X x) (hm : X.mg x = some (.ref f)) (hk : PySem.W.keepIn X.K (.ref f) = true) (hb : KB X.K fd ps ks m q) (hx : ∀ σ, PassesAt CX X σ (E σ))
    (hkw : PK X kws tk) (hall : (backToKw pos (keywordEach kws X.env)).all (·.1.isSome) = true := by rfl) (hks : (backToKw pos (keywordEach kws X.env)).filterMap (·.1) = ks := by rfl)
    (hdb : (x == ("__debug__" : Str)) = false := by decide)
    (hpl : ((backTo pos (starEach [] X.env)).any (·.1) || (backToKw pos (keywordEach kws X.env)).any (·.1.isNone)) = false := by rfl) :
    PE X (.Call (.Name x p) [] kws pos) (tCallKG sp m ks.length q E tNil tk) := by
  refine ⟨fun pins s σ H Q I h => ?_⟩
  refine wpAny_Call_Name_kw (ld_glob I hg hm ?_ hdb)
  refine PySem.W.callWith_KW0 (h₀ := X.base) I.ok.mod.kin hk hall ?_ hpl
  refine thn (hkw.run pos pins s σ H _ I h) fun ws s2 ⟨zs, H2, I2, rz, q2⟩ => ⟨I2.kIn, ?_⟩
  rw [hks]
  exact run_gfnk (us := []) hps F hr hgd hb (hx σ) I2 .nil rz q2
end

/-! the data's side -/
def eCallK (n m k : Nat) (p : List Nat) (F : Env → R Rv) (fa fk : Env → R (List Av)) : Env → R Rv := fun ρ => (fa ρ).bind fun as ρ => (fk ρ).bind fun bs ρ => doCall n F (permG m k p as bs) ρ
section
variable {K : PySem.W.Frag} {W : WX} {ks : List Nat} {σ0 : L2.St} {Fm B H : Hp} {σ : L2.St} {ρ : Env} {ta tk : TA} {fa fk : Env → R (List Av)}
theorem permG_is {n m : Nat} {p : List Nat} {as bs : List Av} {vs zs : List V} (h : ArgIs K σ B H ρ vs as) (h2 : ArgIs K σ B H ρ zs bs) : ArgIs K σ B H ρ (permG n m p vs zs) (permG n m p as bs) := by
  unfold ArgIs at h h2 ⊢
  exact permG_rel h h2
theorem de_callK {n m k : Nat} {p : List Nat} {F : Env → R Rv} (ha : DA K W ta fa) (hk : DA K W tk fk) : DE K W (tCallKG (spD K n F) m k p (WE W) ta tk) (eCallK n m k p F fa fk) := fun ks σ0 Fm B H σ ρ Q I p' =>
  ha ks σ0 Fm B H σ ρ _ I (PtG.step p' fun as ρ1 B1 H1 vs s1 I1 v1 p1 =>
    hk ks σ0 Fm B1 H1 σ ρ1 _ I1 (PtG.step p1 fun bs ρ2 B2 H2 zs s2 I2 v2 p2 =>
      call_core I2 (permG_is (argIs_mono (H := H1) (ρ := ρ1) (H' := H2) (ρ' := ρ2) s2 v1) v2) p2 fun _ _ _ _ h => h))

/-! a def -/
variable {P : Program} {w : World} {mg : Str → Option Value} {base : Heap}
theorem def_okG {x qual : Str} {st : Stmt} {f : Addr} {fd : FuncData} {N ps : List Str} {k n m : Nat} (Fn : Fun K x qual st f fd) (S : FnScope N ps (defScope st)) (ks : List Nat) (g : Env → Out) (hm : N.length = m) (hn : ps.length = n)
    (hbody : ∀ (cdv : Value) (A : Around) (outer : List PySem.Env) (s : Shared) (H : Hp) (E : XK), Room k (A.deeper (envOfC qual (defScope st) s.heap.objs.size f cdv)) → A.guards = some [] →
      ∃ t, PSs (cxOf (L2.CX P w) P w K mg base N qual (defScope st) f cdv A outer s H E) (defBody st) t ∧ DS K (fun c d _ H' => E c d H') ks t g) :
    GFn P w K mg base (L2.CX P w) (k + 1) f fd ps (spD K n (runDef m ks g)) := by
  have hpN : ps.length ≤ N.length := by
    have := congrArg List.length S.pre
    rw [List.length_take] at this
    omega
  subst hm hn
  obtain ⟨oc, od, kV, doc, pm, an, cdv, ct, osl, rfl, lk, hcd⟩ := Fn.ex
  refine gfn_of lk hcd S (fun vs H Q E h => h.1) (fun A outer s H vs Q E hr hgd h => ?_)
  obtain ⟨hl, Fm, B, as, I, hno, p⟩ := h
  obtain ⟨t, h1, h2⟩ := hbody cdv A outer s H E hr hgd
  refine ⟨t, h1, ?_⟩
  have hla : as.length = ps.length := by rw [← I.len, List.length_map, hl]
  have I1 := iv_enter (N := N) (by omega) I ks
  unfold runDef at p
  by_cases ho : ownOk ks 0 as = true
  · rw [if_pos ho] at p
    have hks : ∀ i, isOwn as[i]? = true → i ∈ ks := fun i h => by
      have := ownOk_get (i := i) ho h
      rwa [Nat.zero_add] at this
    refine h2 _ Fm B H _ _ _ I1 ?_
    cases q : g (as ++ List.replicate (N.length - as.length) .no) with
    | nx ρ' =>
      rw [q] at p
      exact fun B' H' σ' s' I' => by
        obtain ⟨I2, k⟩ := iv_leave I hks s' I'
        exact p B' H' .non s' I2 Is.non
    | ret rv ρ' =>
      rw [q] at p
      exact fun B' H' σ' v s' I' hv => by
        obtain ⟨I2, k⟩ := iv_leave I hks s' I'
        exact p B' H' v s' I2 (k v rv hv)
    | exc C d ρ' =>
      rw [q] at p
      exact fun B' H' σ' dx s' I' hx => by
        obtain ⟨I2, k⟩ := iv_leave I hks s' I'
        exact p B' H' dx s' I2 hx
    | brk ρ' => rw [q] at p; exact p.elim
    | ct ρ' => rw [q] at p; exact p.elim
    | bad => rw [q] at p; exact p.elim
  · rw [if_neg ho] at p
    exact p.elim
end

/-! lists lent: what is evaluated may see one's own lists, not change them, and tells a thing without parts -/
def frB : Bd → Sl
  | .mix tp xs => .im (Bd.mix tp xs).d
  | .tree tp xs => .im (Bd.tree tp xs).d
  | _ => .no
def frE : Env → Env
  | [] => []
  | .own ds :: ρ => .im (.lst ds) :: frE ρ
  | .bk t :: ρ => frB t :: frE ρ
  | a :: ρ => a :: frE ρ
def leafD : D → Bool
  | .non => true
  | .bl _ => true
  | .int _ => true
  | .str _ => true
  | _ => false
mutual
def Tr.leaf : Tr → Bool
  | .im d => leafD d
  | .nd _ xs => trLeaf xs
def trLeaf : List Tr → Bool
  | [] => true
  | t :: ts => t.leaf && trLeaf ts
end
def bdLeaf : Bd → Bool
  | .tree _ xs => trLeaf xs
  | _ => false
def lentR (ρ : Env) (r : R Rv) : R Rv :=
  match r with
  | .ok (.im d) _ => cond (leafD d) (.ok (.im d) ρ) .bad
  | .ok (.own ds) _ => cond (ds.all leafD) (.ok (.own ds) ρ) .bad
  | .ok (.bk t) _ => cond (bdLeaf t) (.ok (.bk t) ρ) .bad
  | .exc C d ρ' => .exc C d ρ'
  | .bad => .bad
def lentB (ρ : Env) (r : R Bool) : R Bool :=
  match r with
  | .ok b _ => .ok b ρ
  | .exc C d ρ' => .exc C d ρ'
  | .bad => .bad
def eLent (f : Env → R Rv) : Env → R Rv := fun ρ => lentR ρ (f (frE ρ))
def tLent (f : Env → R Bool) : Env → R Bool := fun ρ => lentB ρ (f (frE ρ))
section
variable {K : PySem.W.Frag} {W : WX} {ks : List Nat} {σ0 : L2.St} {Fm B H : Hp} {σ : L2.St} {ρ : Env}
theorem frE_len : ∀ {ρ : Env}, (frE ρ).length = ρ.length
  | [] => rfl
  | .own d :: r => congrArg (· + 1) (frE_len (ρ := r))
  | .bk d :: r => congrArg (· + 1) (frE_len (ρ := r))
  | .im d :: r => congrArg (· + 1) (frE_len (ρ := r))
  | .no :: r => congrArg (· + 1) (frE_len (ρ := r))
theorem frE_get : ∀ {ρ : Env} {i : Nat} {x : Sl}, (frE ρ)[i]? = some x → (∃ ds, x = .im (.lst ds) ∧ ρ[i]? = some (.own ds)) ∨ (x = .no ∨ ∃ t, x = frB t ∧ ρ[i]? = some (.bk t)) ∨ (ρ[i]? = some x ∧ (∀ ds, x ≠ .own ds) ∧ ∀ t, x ≠ .bk t)
  | [], _, _, h => by simp [frE] at h
  | .own d :: r, 0, x, h => by
    have h : some (Sl.im (.lst d)) = some x := h
    cases h
    exact .inl ⟨d, rfl, rfl⟩
  | .im d :: r, 0, x, h => by
    have h : some (Sl.im d) = some x := h
    cases h
    exact .inr (.inr ⟨rfl, (fun ds z => by cases z), fun ds z => by cases z⟩)
  | .no :: r, 0, x, h => by
    have h : some Sl.no = some x := h
    cases h
    exact .inr (.inl (.inl rfl))
  | .bk t :: r, 0, x, h => by
    have h : some (frB t) = some x := h
    cases h
    exact .inr (.inl (.inr ⟨t, rfl, rfl⟩))
  | .bk d :: r, i + 1, x, h => frE_get (ρ := r) (i := i) h
  | .own d :: r, i + 1, x, h => frE_get (ρ := r) (i := i) h
  | .im d :: r, i + 1, x, h => frE_get (ρ := r) (i := i) h
  | .no :: r, i + 1, x, h => frE_get (ρ := r) (i := i) h
/-- what lies at one's own lists, held fast with what stays -/
noncomputable def lentH (B H : Hp) (σ : L2.St) (ρ : Env) : Hp := fun a =>
  open Classical in if HoldP H σ ρ [] a then H a else B a
theorem IV.lend (I : IV K ks σ0 Fm B H σ ρ) : Same B (lentH B H σ ρ) ∧ IV K ks σ0 Fm (lentH B H σ ρ) H σ (frE ρ) := by
  have hs : Same B (lentH B H σ ρ) := fun a o e => by
    unfold lentH
    by_cases c : HoldP H σ ρ [] a
    · rw [if_pos c]
      exact I.ex a o e
    · rw [if_neg c]
      exact e
  have no_own : ∀ {i : Nat} {ds : List D}, (frE ρ)[i]? = some (.own ds) → False := fun {i ds} e => by
    rcases frE_get e with ⟨es, q, _⟩ | (q | ⟨t, q, _⟩) | ⟨_, q, _⟩
    · cases q
    · cases q
    · cases t <;> cases q
    · exact absurd rfl (q ds)
  have no_bk : ∀ (i : Nat) t, (frE ρ)[i]? ≠ some (.bk t) := fun i t e => by
    rcases frE_get e with ⟨es, q, _⟩ | (q | ⟨u, q, _⟩) | ⟨_, _, q⟩
    · cases q
    · cases q
    · cases u <;> cases q
    · exact absurd rfl (q t)
  refine ⟨hs, fun a o e => ?_, I.fr, fun a o e => ?_, by rw [frE_len]; exact I.len, fun i d e => ?_, (fun i ds e => (no_own e).elim), (fun i j ds es a hij h1 _ _ _ => no_own h1), I.pin, BKS.none no_bk⟩
  · unfold lentH at e
    by_cases c : HoldP H σ ρ [] a
    · rw [if_pos c] at e
      exact e
    · rw [if_neg c] at e
      exact I.ex a o e
  · unfold lentH
    by_cases c : HoldP H σ ρ [] a
    · exfalso
      rcases c with ⟨i, es, h1, _, h2⟩ | ⟨i, t, w, h1, _, h3, h4⟩
      · obtain ⟨b, ys, g1, _, _, g4, _⟩ := I.own i es h1
        rw [h2] at g1
        cases g1
        rw [e] at g4
        cases g4
      · obtain ⟨v, g1, _, g3⟩ := I.bs.bk i t h1
        rw [h3] at g1
        cases g1
        have := (g3 a h4).2
        rw [e] at this
        cases this
    · rw [if_neg c]
      exact I.fb a o e
  · rcases frE_get e with ⟨ds, q, h⟩ | (q | ⟨t, q, h⟩) | ⟨h, _⟩
    · cases q
      obtain ⟨a, xs, g1, g2, g3, g4, g5⟩ := I.own i ds h
      refine ⟨.ref a, g1, .lst (xs := xs) ?_ (g5.mono hs)⟩
      unfold lentH
      rw [if_pos (.inl ⟨i, ds, h, by simp, g1⟩)]
      exact g2
    · cases q
    · obtain ⟨v, g1, g2, g3⟩ := I.bs.bk i t h
      cases t with
      | deck => cases q
      | pile => cases q
      | mix tp xs =>
        cases q
        exact ⟨v, g1, mix_is g2 hs fun p f => by unfold lentH; rw [if_pos (.inr ⟨i, _, v, h, by simp, g1, f⟩)]⟩
      | tree tp xs =>
        cases q
        obtain ⟨ps, k, n⟩ := g2
        exact ⟨v, g1, k.is hs fun p hp => by unfold lentH; rw [if_pos (.inr ⟨i, _, v, h, by simp, g1, k.ft p hp⟩)]⟩
    · obtain ⟨v, h1, h2⟩ := I.im i d h
      exact ⟨v, h1, h2.mono hs⟩
theorem IV.given (I : IV K ks σ0 Fm B H σ ρ) {B1 H1 : Hp} {ρ1 : Env} (s : Same (lentH B H σ ρ) B1) (I1 : IV K ks σ0 Fm B1 H1 σ ρ1) : IV K ks σ0 Fm B H1 σ ρ := by
  obtain ⟨hs, I0⟩ := I.lend
  refine ⟨fun a o e => I1.ex a o (s a o (hs a o e)), I1.fr, I.fb, I.len, I.im, fun i ds e => ?_, I.dj, I.pin, I.bs.to (fun i t e => e) (fun i t e => rfl) (Same.refl B) fun i t v p e e2 f hl hbn hfn ho => ⟨?_, hbn, hfn, ho⟩⟩
  · obtain ⟨a, xs, g1, g2, g3, g4, g5⟩ := I.own i ds e
    refine ⟨a, xs, g1, I1.ex a _ (s a _ ?_), g3, g4, g5⟩
    unfold lentH
    rw [if_pos (.inl ⟨i, ds, e, by simp, g1⟩)]
    exact g2
  · cases z : H p with
    | none => exact absurd z hl
    | some o =>
      refine I1.ex p _ (s p _ ?_)
      unfold lentH
      rw [if_pos (.inr ⟨i, t, v, e, by simp, e2, f⟩)]
      exact z
theorem leaf_is {B B' : Hp} {v : V} {d : D} (h : Is K B v d) (hl : leafD d = true) : Is K B' v d := by
  cases h with
  | non => exact .non
  | bl b => exact .bl b
  | int i => exact .int i
  | str x => exact .str x
  | _ => cases hl
theorem leaf_all {B B' : Hp} : ∀ {xs : List V} {ds : List D}, IsA K B xs ds → ds.all leafD = true → IsA K B' xs ds
  | _, _, .nil, _ => .nil
  | _, _, .cons h t, e => by
    rw [List.all_cons, Bool.and_eq_true] at e
    exact .cons (leaf_is h e.1) (leaf_all t e.2)
mutual
theorem TAt.leafB {B B' H : Hp} : ∀ {v : V} {t : Tr} {ps : List Addr}, t.leaf = true → TAt K B H v t ps → TAt K B' H v t ps
  | _, .im d, _, e, .im h => .im (leaf_is h (by rw [Tr.leaf] at e; exact e))
  | _, .nd tp xs, _, e, .nd h k => .nd h (TAtA.leafB (by rw [Tr.leaf] at e; exact e) k)
theorem TAtA.leafB {B B' H : Hp} : ∀ {v : List V} {t : List Tr} {ps : List Addr}, trLeaf t = true → TAtA K B H v t ps → TAtA K B' H v t ps
  | _, _, _, _, .nil => .nil
  | _, t :: ts, _, e, .cons h k => by
    rw [trLeaf, Bool.and_eq_true] at e
    exact .cons (TAt.leafB e.1 h) (TAtA.leafB e.2 k)
end
theorem IV.lentApart (I : IV K ks σ0 Fm B H σ ρ) {B1 H1 : Hp} {ρ1 : Env} (s : Same (lentH B H σ ρ) B1) (I1 : IV K ks σ0 Fm B1 H1 σ ρ1) {a : Addr} (hb : B1 a = none) : Apart H1 σ ρ a := by
  refine ⟨fun i es hi z => ?_, fun i t w e1 e2 f => ?_⟩
  · obtain ⟨b, ys, g1, g2, _⟩ := I.own i es hi
    rw [z] at g1
    cases g1
    have hL : lentH B H σ ρ a = some (.lst ys) := by
      unfold lentH
      rw [if_pos (.inl ⟨i, es, hi, by simp, z⟩)]
      exact g2
    rw [s a _ hL] at hb
    cases hb
  · obtain ⟨w', g1, g2, _⟩ := I.bs.bk i t e1
    rw [e2] at g1
    cases g1
    have hL : ∀ p, t.Ft H w p → lentH B H σ ρ p = H p := fun p f => by
      unfold lentH
      rw [if_pos (.inr ⟨i, t, w, e1, by simp, e2, f⟩)]
    have hH : ∀ p, t.Ft H w p → H1 p = H p := fun p f => by
      cases z : H p with
      | none => exact absurd z (Bd.live g2 f)
      | some o => exact I1.ex p _ (s p _ ((hL p f).trans z))
    have f' := (Bd.ftEq hH a).mp f
    cases z : H a with
    | none => exact absurd z (Bd.live g2 f')
    | some o =>
      rw [s a _ ((hL a f').trans z)] at hb
      cases hb
theorem de_lent {te : TE} {f : Env → R Rv} (h : DE K W te f) : DE K W te (eLent f) := fun ks σ0 Fm B H σ ρ Q I p => by
  obtain ⟨hs, I0⟩ := I.lend
  have p : PtG K ks σ0 Fm W (vE K Fm σ) B σ Q (lentR ρ (f (frE ρ))) := p
  refine h ks σ0 Fm _ H σ (frE ρ) Q I0 ?_
  cases e : f (frE ρ) with
  | ok rv ρ' =>
    rw [e] at p
    intro B1 H1 v s I1 hv
    cases rv with
    | im d =>
      have p : PtG K ks σ0 Fm W (vE K Fm σ) B σ Q (cond (leafD d) (.ok (.im d) ρ) .bad) := p
      cases hl : leafD d with
      | false =>
        rw [hl] at p
        exact p.elim
      | true =>
        rw [hl] at p
        have p : ∀ B' H' b, Same B B' → IV K ks σ0 Fm B' H' σ ρ → vE K Fm σ B' H' ρ b (.im d) → Q b H' := p
        have hv : Is K B1 v d := hv
        exact p B H1 v (Same.refl B) (I.given s I1) (leaf_is hv hl)
    | own ds =>
      have p : PtG K ks σ0 Fm W (vE K Fm σ) B σ Q (cond (ds.all leafD) (.ok (.own ds) ρ) .bad) := p
      cases hl : ds.all leafD with
      | false =>
        rw [hl] at p
        exact p.elim
      | true =>
        rw [hl] at p
        have p : ∀ B' H' b, Same B B' → IV K ks σ0 Fm B' H' σ ρ → vE K Fm σ B' H' ρ b (.own ds) → Q b H' := p
        obtain ⟨a, xs, rfl, ha, hb, hf, hk, hn⟩ := hv
        refine p B H1 _ (Same.refl B) (I.given s I1) ⟨a, xs, rfl, ha, (hs.trans s).free hb, hf, leaf_all hk hl, fun i es hi z => ?_, fun i t w e1 e2 f => ?_⟩
        · obtain ⟨b, ys, g1, g2, _⟩ := I.own i es hi
          rw [z] at g1
          cases g1
          have hL : lentH B H σ ρ a = some (.lst ys) := by
            unfold lentH
            rw [if_pos (.inl ⟨i, es, hi, by simp, z⟩)]
            exact g2
          rw [s a _ hL] at hb
          cases hb
        · obtain ⟨w', g1, g2, _⟩ := I.bs.bk i t e1
          rw [e2] at g1
          cases g1
          have hL : ∀ p, t.Ft H w p → lentH B H σ ρ p = H p := fun p f => by
            unfold lentH
            rw [if_pos (.inr ⟨i, t, w, e1, by simp, e2, f⟩)]
          have hH : ∀ p, t.Ft H w p → H1 p = H p := fun p f => by
            cases z : H p with
            | none => exact absurd z (Bd.live g2 f)
            | some o => exact I1.ex p _ (s p _ ((hL p f).trans z))
          have f' := (Bd.ftEq hH a).mp f
          cases z : H a with
          | none => exact absurd z (Bd.live g2 f')
          | some o =>
            rw [s a _ ((hL a f').trans z)] at hb
            cases hb
    | bk t =>
      cases t with
      | deck ps n => exact p.elim
      | pile ps => exact p.elim
      | mix tp xs => exact p.elim
      | tree tp xs =>
        have p : PtG K ks σ0 Fm W (vE K Fm σ) B σ Q (cond (trLeaf xs) (.ok (.bk (.tree tp xs)) ρ) .bad) := p
        cases hl : trLeaf xs with
        | false =>
          rw [hl] at p
          exact p.elim
        | true =>
          rw [hl] at p
          have p : ∀ B' H' b, Same B B' → IV K ks σ0 Fm B' H' σ ρ → vE K Fm σ B' H' ρ b (.bk (.tree tp xs)) → Q b H' := p
          obtain ⟨⟨ps, hk, hn⟩, hf⟩ := hv
          refine p B H1 v (Same.refl B) (I.given s I1) ⟨⟨ps, hk.leafB (by rw [Tr.leaf]; exact hl), hn⟩, fun q f => ?_⟩
          obtain ⟨h1, h2, _⟩ := hf q f
          exact ⟨(hs.trans s).free h1, h2, I.lentApart s I1 h1⟩
  | exc C d ρ' =>
    rw [e] at p
    have p : ∀ B' H' dx, Same B B' → IV K ks σ0 Fm B' H' σ ρ' → XAt K B' dx d → W (.ref C) dx σ H' := p
    exact fun B1 H1 dx s I1 hx => p B1 H1 dx (hs.trans s) I1 hx
  | bad =>
    rw [e] at p
    exact p.elim
theorem dt_lent {te : TT} {f : Env → R Bool} (h : DT K W te f) : DT K W te (tLent f) := fun ks σ0 Fm B H σ ρ Q I p => by
  obtain ⟨hs, I0⟩ := I.lend
  have p : PtG K ks σ0 Fm W vEq B σ Q (lentB ρ (f (frE ρ))) := p
  refine h ks σ0 Fm _ H σ (frE ρ) Q I0 ?_
  cases e : f (frE ρ) with
  | ok b ρ' =>
    rw [e] at p
    have p : ∀ B' H' c, Same B B' → IV K ks σ0 Fm B' H' σ ρ → c = b → Q c H' := p
    exact fun B1 H1 c s I1 hc => p B H1 c (Same.refl B) (I.given s I1) hc
  | exc C d ρ' =>
    rw [e] at p
    have p : ∀ B' H' dx, Same B B' → IV K ks σ0 Fm B' H' σ ρ' → XAt K B' dx d → W (.ref C) dx σ H' := p
    exact fun B1 H1 dx s I1 hx => p B1 H1 dx (hs.trans s) I1 hx
  | bad =>
    rw [e] at p
    exact p.elim
end

/-! repr -/
def reprOk (p : PyData) : Bool := p.showable && !p.hasDict && Nat.ble p.depth 20 && Nat.ble p.shown.length 1000000
def bRepr : List D → Option Rv
  | [d] => d.py.bind fun p => if reprOk p = true then some (.im (.str p.shown)) else none
  | _ => none
def rReprD (K : PySem.W.Frag) : List V → Hp → VK → Prop := fun xs H Q => ∃ v p, xs = [v] ∧ Dp K H v p ∧ reprOk p = true ∧ Q (.str p.shown) H
theorem reprOk_of {p : PyData} (h : reprOk p = true) : p.showable = true ∧ p.hasDict = false ∧ p.depth ≤ 20 ∧ p.shown.length ≤ sizeLine := by
  unfold reprOk at h
  simp only [Bool.and_eq_true, Bool.not_eq_true', Nat.ble_eq] at h
  exact ⟨h.1.1.1, h.1.1.2, h.1.2, Nat.le_trans h.2 (by decide)⟩
theorem cr_reprK {X : Cx} {K : PySem.W.Frag} (e : X.K = K) (hgd : X.A.guards = some []) (hu : X.A.units + 64 < cLine) : CallR X (.builtin "repr") (rReprD K) := by
  subst e
  intro pins s σ H xs us Q I r h
  obtain ⟨v, p, rfl, hd, ho, q⟩ := h
  obtain ⟨h1, h2, h3, h4⟩ := reprOk_of ho
  cases r with
  | cons ru rn =>
    rename_i u us'
    cases rn
    obtain ⟨as, rd⟩ := Dp.reads I p v u hd ru
    cases rd with
    | none =>
      simp only [PyData.shown] at q
      exact PySem.P.repr_of_none ⟨.str _, H, I.tok _, ⟨_, rfl⟩, q⟩
    | bool b =>
      simp only [PyData.shown] at q
      exact PySem.P.repr_of_bool ⟨.str _, H, I.tok _, ⟨_, rfl⟩, q⟩
    | int i t =>
      simp only [PyData.shown] at q
      exact PySem.P.repr_of_int (by simpa [PyData.showable] using h1) ⟨.str _, H, I.tok _, ⟨_, rfl⟩, q⟩
    | str x t =>
      simp only [PyData.shown] at q
      exact PySem.P.repr_of_str ⟨.str _, H, I.tok _, ⟨_, rfl⟩, q⟩ (by simpa only [PyData.shown] using h4)
    | list a b c d =>
      exact repr_of_reads' (.list a b c d) h1 (PyData.noDict_hsm h2) hgd (by omega) (fun b o e => e) (fun h' u tk hk => ⟨.str _, H, I.kept hk, ⟨_, rfl⟩, q⟩) h4
    | tuple a b c d =>
      exact repr_of_reads' (.tuple a b c d) h1 (PyData.noDict_hsm h2) hgd (by omega) (fun b o e => e) (fun h' u tk hk => ⟨.str _, H, I.kept hk, ⟨_, rfl⟩, q⟩) h4
    | dict a b c d e =>
      exact repr_of_reads' (.dict a b c d e) h1 (PyData.noDict_hsm h2) hgd (by omega) (fun b o e => e) (fun h' u tk hk => ⟨.str _, H, I.kept hk, ⟨_, rfl⟩, q⟩) h4
section
variable {K : PySem.W.Frag}
theorem cd_repr : CbD K (rReprD K) bRepr := by
  intro ks σ0 Fm B H σ ρ xs ds rv Q I hx e q
  unfold bRepr at e
  split at e
  · rename_i d
    obtain ⟨v, rfl, h1⟩ := isA_1 hx
    cases e1 : d.py with
    | none => rw [e1] at e; cases e
    | some p =>
      rw [e1] at e
      have e : (if reprOk p = true then some (Rv.im (.str p.shown)) else none) = some rv := e
      by_cases ho : reprOk p = true
      · rw [if_pos ho] at e
        cases e
        exact ⟨v, p, rfl, (h1.mono I.ex).dp e1, ho, q B H _ (Same.refl B) I (.str _)⟩
      · rw [if_neg ho] at e
        cases e
  · cases e
end
end DL

/-! the end -/
namespace L2
open PySem PySem.Spec PyProof.Rows
/-- the law's call, from the heap in which at most the script is followed -/
theorem law_coreG {P : Program} {w : World} {K : PySem.W.Frag} {mg mb : Str → Option Value} {CX : CXT} {k : Nat} {fa a : Addr} {fd : FuncData} {x : Str} {sp : Sp} {sh : Shared} {arr : Array Value} {H : Hp}
    (hIn : K.In sh.heap) (hMain : sh.heap.Ns mainGlobals mg) (hBl : sh.heap.Ns builtinsNs mb) (hBb : ∀ y : Str, y ≠ "__name__" → mb y = bootBuiltins y) (hLim : sh.heap.NoLimit) (hGen : sh.gens = #[])
    (hScr : sh.heap.get? a = some { cls := .type "list", data := .seq arr }) (hRoom : Room k callerA)
    (F : ∀ base : Heap, K.In base → base.Ns mainGlobals mg → DL.GFn P w K mg base CX k fa fd [x] sp) (hBind : ∀ (t : Shared) (u : Value), BindsTo t fd ⟨[u], []⟩ [(x, u)])
    (hEnd : ∀ G e t, CX [] G sh (fun _ _ _ => False) e t → False) (hOnly : Only H) (hOk : HOk P w H sh.heap) (hA : ∀ b, H b ≠ none → b = a ∧ K.lookup a = none) (hSp : sp [.ref a] H (fun v _ => v = .bl true) fun _ _ _ => False) :
    codeAny (model P w) callerA (.call (.ref fa) ⟨[.ref a], []⟩) (fun r t => r = .ok (.ret (.bool true)) ∧ OldK sh.heap t.heap ∧ t.os = sh.os ∧ AllBare t.gens) sh := by
  have free : ∀ {b : Addr}, b ≠ a → H b = none := fun {b} hb =>
    Option.eq_none_iff_forall_ne_some.mpr fun u q => hb (hA b (by rw [q]; exact Option.some_ne_none u)).1
  have nsOf : ∀ {b : Addr} {m : Str → Option Value}, sh.heap.Ns b m → (hidT sh.heap H).Ns b m := by
    rintro b m ⟨ob, es, ep, h1, h2, h3⟩
    refine ⟨ob, es, ep, hidT_get h1 (free fun z => ?_), h2, h3⟩
    rw [z, hScr, Option.some.injEq] at h1
    rw [← h1] at h2
    exact Data.noConfusion h2
  have inB : K.In (hidT sh.heap H) := fun b ob hl => hidT_get (hIn b ob hl) (Option.eq_none_iff_forall_ne_some.mpr fun u q => by
    have hz := hA b (by rw [q]; exact Option.some_ne_none u)
    rw [hz.1, hz.2] at hl
    cases hl)
  obtain ⟨ml, l1, l2⟩ := hLim
  have env : Env0 P w K mg (hidT sh.heap H) callerA [] sh H :=
    { frames := rfl
      mod := ⟨inB, nsOf hMain, ⟨mb, nsOf hBl, hBb⟩, ⟨ml, nsOf l1, l2⟩⟩
      bs := fun _ _ q => of_hidT q
      bsz := Nat.le_of_eq (hidT_size _ _)
      funs := trivial
      frf := fun b q => by cases q
      hok := hOk
      bare := .of_eq hGen }
  have go := (F _ inB (nsOf hMain)).run callerA [] sh H ⟨[.ref a], []⟩ [.ref a] [.ref a] _ _ hRoom rfl env (hBind sh _) (.cons rfl .nil) hSp
  refine codeAny_mono go fun r t hr => ?_
  match r, hr with
  | .error e, hr => exact (hEnd H e t hr).elim
  | .ok .next, hr => exact hr.elim
  | .ok .brk, hr => exact hr.elim
  | .ok .cont, hr => exact hr.elim
  | .ok (.ret u), ⟨v, G, h1, h2, h3, h4, h5, h6⟩ =>
    obtain rfl : v = .bl true := h6
    obtain rfl : u = Value.bool true := h5
    refine ⟨rfl, OldK.of_keep fun b ob q => ?_, h1, h2⟩
    by_cases hb : H b = none
    · exact h3.keep b ob q hb (fun z => by cases z) (fun z => by cases z)
    · rcases hOnly b with z | ⟨o2, ys, z⟩
      · exact absurd z hb
      · have o1 := (hOk b _ z).1
        rw [q, Option.some.injEq] at o1
        rw [o1]
        exact (h4 b _ (h3.frzs b o2 _ z)).1
theorem law_callG {P : Program} {w : World} {K : PySem.W.Frag} {mg mb : Str → Option Value} {CX : CXT} {k : Nat} {fa a : Addr} {fd : FuncData} {x : Str} {sp : Sp} {sh : Shared} {vals : List Value} {ns : List Int}
    (hIn : K.In sh.heap) (hMain : sh.heap.Ns mainGlobals mg) (hBl : sh.heap.Ns builtinsNs mb) (hBb : ∀ y : Str, y ≠ "__name__" → mb y = bootBuiltins y) (hLim : sh.heap.NoLimit) (hGen : sh.gens = #[])
    (hScr : sh.heap.get? a = some { cls := .type "list", data := .seq vals.toArray }) (hInts : IntsAre vals ns) (hSz : ns.length ≤ sizeLine) (hRoom : Room k callerA)
    (F : ∀ base : Heap, K.In base → base.Ns mainGlobals mg → DL.GFn P w K mg base CX k fa fd [x] sp) (hBind : ∀ (t : Shared) (u : Value), BindsTo t fd ⟨[u], []⟩ [(x, u)])
    (hSp : ∀ G : Hp, Only G → SqL K G a (ns.map V.int) → sp [.ref a] G (fun v _ => v = .bl true) fun _ _ _ => False) (hEnd : ∀ G e t, CX [] G sh (fun _ _ _ => False) e t → False) :
    codeAny (model P w) callerA (.call (.ref fa) ⟨[.ref a], []⟩) (fun r t => r = .ok (.ret (.bool true)) ∧ OldK sh.heap t.heap ∧ t.os = sh.os ∧ AllBare t.gens) sh := by
  have rel := vals_ints hInts
  have len := hInts.length
  cases hk : K.lookup a with
  | some ob =>
    have same := hIn a ob hk
    rw [hScr, Option.some.injEq] at same
    rw [← same] at hk
    have none_at : Only (fun _ => none) := fun _ => .inl rfl
    refine law_coreG hIn hMain hBl hBb hLim hGen hScr hRoom F hBind hEnd none_at (fun b u z => by cases z) (fun b z => absurd rfl z) (hSp _ none_at (.inr ⟨_, vals.toArray, _, hk, rfl, rfl, rfl, ?_, ?_⟩))
    · rw [List.size_toArray, len]
      exact hSz
    · exact rel
  | none =>
    let ob : Obj := { cls := .type "list", data := .seq vals.toArray }
    let G : Hp := fun b => if b = a then some (.frz ob (.lst (ns.map V.int))) else none
    have atA : G a = some (.frz ob (.lst (ns.map V.int))) := if_pos rfl
    have offA : ∀ {b : Addr}, b ≠ a → G b = none := fun hb => if_neg hb
    have only : Only G := fun b => by
      by_cases hb : b = a
      · exact .inr ⟨ob, _, by rw [hb]; exact atA⟩
      · exact .inl (offA hb)
    refine law_coreG hIn hMain hBl hBb hLim hGen hScr hRoom F hBind hEnd only (fun b u z => ?_) (fun b z => ?_) (hSp G only (.inl (.inr ⟨ob, atA⟩)))
    · by_cases hb : b = a
      · rw [hb, atA, Option.some.injEq] at z
        rw [hb, ← z]
        exact ⟨hScr, by rw [List.length_map]; exact hSz, vals, _, rel, hScr⟩
      · rw [offA hb] at z
        cases z
    · by_cases hb : b = a
      · exact ⟨hb, hk⟩
      · exact absurd (offA hb) z
theorem walk_ofG {l : PySem.W.OpenLaw} {n k : Nat} {q : Program} {loose : List Str} {XP : (Str → Option Value) → Heap → Prop} {YP : World → Heap → Prop} {d : DefRec} {K : Params → PySem.W.Frag} {CX : World → CXT} {sp : World → Sp} {x : Str}
    (hn : l.most = some n) (hn2 : n ≤ sizeLine) (hdf : d.params.defaults = []) (hr : Room k callerA)
    (hY : ∀ (w : World) (h : Heap), YP w h → (K w.params).In h)
    (F : ∀ (w : World) (mg : Str → Option Value) (fa : Addr) (h : Heap), (K w.params).In h → h.Ns mainGlobals mg → mg d.name = some (.ref fa) →
      ∃ fd : FuncData, (∀ (s : Shared) (u : Value), BindsTo s fd ⟨[u], []⟩ [(x, u)]) ∧
        ∀ base : Heap, (K w.params).In base → base.Ns mainGlobals mg → DL.GFn l.prog w (K w.params) mg base (CX w) k fa fd [x] (sp w))
    (hsp : ∀ (w : World) (H : Hp) (a : Addr) (ns : List Int), ns.length ≤ n → (∀ z ∈ ns, Builtin.Int.intBits z ≤ 1048576) → Only H → SqL (K w.params) H a (ns.map V.int) → sp w [.ref a] H (fun v _ => v = .bl true) fun _ _ _ => False)
    (hCX : ∀ (w : World) (H : Hp) (s : Shared) (e : Value) (s' : Shared), CX w [] H s (fun _ _ _ => False) e s' → False) :
    PySem.W.WalkO q loose XP YP l.row.toRowW d [] (fun f vs => PySem.call f vs) := by
  refine Att.attach_callB hn hdf fun w s₀ s₁ mg mb fa o pm cd doc a vs ns G Y ho hd hcd hmg hobj hints hlen hbits hg => ?_
  have KX := hY w _ Y
  obtain ⟨fd, hb, hF⟩ := F w mg fa _ KX G.T.g hmg
  exact law_callG KX G.T.g G.T.b G.T.builtins G.T.nolimit hg hobj hints (Nat.le_trans hlen hn2) hr hF hb (fun H hO hS => hsp w H a ns hlen hbits hO hS) fun H e s' => hCX w H s₁ e s'
end L2


/-! DL, part i: abs, all, any, str of a number, copies of one's own lists, reverse, clear, calls in comprehensions -/
namespace DL
open PySem PySem.Spec PyProof.Rows L2
section
variable {K : PySem.W.Frag} {W : WX} {ks : List Nat} {ta : TA} {fa : Env → R (List Av)}
theorem pass00 {X : Cx} (σ : L2.St) : PassesAt (L2.CX X.prog X.w) X σ ((fun _ => E0 : L2.St → XK) σ) := fun pins H s e s' I h => passL pins σ H s e s' I h
theorem de_call0G {n : Nat} {F : Env → R Rv} (ha : DA K W ta fa) : DE K W (tCallS (spD K n F) (fun _ => E0) ta) (eCall0 n F fa) := fun ks σ0 Fm B H σ ρ Q I p =>
  ha ks σ0 Fm B H σ ρ _ I (PtG.step p fun as ρ1 B1 H1 vs s1 I1 v1 p1 => by
    refine call_core (W := W0) I1 v1 ?_ fun _ _ _ _ h => h
    cases q : doCall n F as ρ1 with
    | ok rv as' =>
      rw [q] at p1
      exact p1
    | exc C d as' =>
      rw [q] at p1
      exact p1.elim
    | bad =>
      rw [q] at p1
      exact p1.elim)
def bAbs : List D → Option Rv
  | [.int i] => some (.im (.int (if i < 0 then -i else i)))
  | _ => none
def rAbsD : List V → Hp → VK → Prop := fun xs H Q => ∃ i, xs = [.int i] ∧ Q (.int (if i < 0 then -i else i)) H
theorem cr_absD {X : Cx} : CallR X (.builtin "abs") rAbsD := call_abs
theorem cd_abs : CbD K rAbsD bAbs := by
  intro ks σ0 Fm B H σ ρ xs ds rv Q I hx e q
  unfold bAbs at e
  split at e
  · cases e
    obtain ⟨v, rfl, h⟩ := isA_1 hx
    exact ⟨_, by rw [h.intV], q B H _ (Same.refl B) I (.int _)⟩
  · cases e
theorem x_abs {i : Int} : bAbs [.int i] = some (.im (.int (if i < 0 then -i else i))) := (rfl)
/-- the truths of a list -/
def bls : List D → Option (List Bool)
  | [] => some []
  | .bl b :: r => (bls r).map (b :: ·)
  | _ :: _ => none
theorem bls_map : ∀ bs : List Bool, bls (bs.map D.bl) = some bs
  | [] => rfl
  | b :: r => by
    show (bls (r.map D.bl)).map (b :: ·) = _
    rw [bls_map r]
    rfl
theorem bls_is {B : Hp} : ∀ {ds : List D} {bs : List Bool} {ys : List V}, bls ds = some bs → IsA K B ys ds → ys = bs.map V.bl
  | [], bs, ys, e, h => by
    cases e
    cases h
    rfl
  | .bl b :: r, bs, ys, e, h => by
    rw [show bls (.bl b :: r) = (bls r).map (b :: ·) from rfl] at e
    cases q : bls r with
    | none => rw [q] at e; cases e
    | some cs =>
      rw [q] at e
      cases e
      cases h with
      | cons h1 h2 => rw [h1.blV, bls_is q h2]; rfl
def allR (o : Option (List Bool)) : Option Rv := o.map fun bs => .im (.bl (bs.all id))
def anyR (o : Option (List Bool)) : Option Rv := o.map fun bs => .im (.bl (bs.any id))
def bAll : List D → Option Rv
  | [.lst ds] => allR (bls ds)
  | _ => none
def bAny : List D → Option Rv
  | [.lst ds] => anyR (bls ds)
  | _ => none
theorem x_all {bs : List Bool} : bAll [.lst (bs.map D.bl)] = some (.im (.bl (bs.all id))) := by
  show allR (bls _) = _
  rw [bls_map]
  rfl
theorem cd_all : CbD K (rAll K) bAll := by
  intro ks σ0 Fm B H σ ρ xs ds rv Q I hx e q
  unfold bAll at e
  split at e
  · rename_i es
    cases e1 : bls es with
    | none => rw [e1] at e; cases e
    | some bs =>
      rw [e1] at e
      cases e
      obtain ⟨v, rfl, h⟩ := isA_1 hx
      obtain ⟨a, ys, rfl, ha, k⟩ := h.lstV
      cases bls_is e1 k
      exact ⟨a, bs, rfl, .inl (.inl (I.ex _ _ ha)), q B H _ (Same.refl B) I (.bl _)⟩
  · cases e
theorem cd_any : CbD K (rAny K) bAny := by
  intro ks σ0 Fm B H σ ρ xs ds rv Q I hx e q
  unfold bAny at e
  split at e
  · rename_i es
    cases e1 : bls es with
    | none => rw [e1] at e; cases e
    | some bs =>
      rw [e1] at e
      cases e
      obtain ⟨v, rfl, h⟩ := isA_1 hx
      obtain ⟨a, ys, rfl, ha, k⟩ := h.lstV
      cases bls_is e1 k
      exact ⟨a, bs, rfl, .inl (.inl (I.ex _ _ ha)), q B H _ (Same.refl B) I (.bl _)⟩
  · cases e
theorem cr_allK {X : Cx} (e : X.K = K) (hc : X.calm = true) : CallR X (.builtin "all") (rAll K) := by subst e; exact cr_all hc
theorem cr_anyK {X : Cx} (e : X.K = K) (hc : X.calm = true) : CallR X (.builtin "any") (rAny K) := by subst e; exact cr_any hc
/-- str(i) -/
def bStr : List D → Option Rv
  | [.int i] => if i.natAbs.log2 < 1920 then some (.im (.str (toString i))) else none
  | _ => none
def rStrD : List V → Hp → VK → Prop := fun xs H Q => ∃ i, xs = [.int i] ∧ i.natAbs.log2 < 1920 ∧ Q (.str (toString i)) H
theorem cr_strD {X : Cx} : CallR X (.type "str") rStrD := call_str_int
theorem cd_str : CbD K rStrD bStr := by
  intro ks σ0 Fm B H σ ρ xs ds rv Q I hx e q
  unfold bStr at e
  split at e
  · rename_i i
    by_cases hl : i.natAbs.log2 < 1920
    · rw [if_pos hl] at e
      cases e
      obtain ⟨v, rfl, h⟩ := isA_1 hx
      exact ⟨_, by rw [h.intV], hl, q B H _ (Same.refl B) I (.str _)⟩
    · rw [if_neg hl] at e
      cases e
  · cases e
/-- list(x) of a list of one's own -/
def copyK (o : Option Sl) (ρ : Env) : R Rv :=
  match o with
  | some (.own ds) => .ok (.own ds) ρ
  | some (.im (.lst ds)) => .ok (.own ds) ρ
  | some (.im (.tup ds)) => .ok (.own ds) ρ
  | _ => .bad
def eListO (i : Nat) : Env → R Rv := fun ρ => copyK ρ[i]? ρ
theorem x_listO {i : Nat} {ρ : Env} : eListO i ρ = copyK ρ[i]? ρ := (rfl)
theorem x_copyK1 {ds : List D} {ρ : Env} : copyK (some (.own ds)) ρ = .ok (.own ds) ρ := (rfl)
theorem x_copyK2 {ds : List D} {ρ : Env} : copyK (some (.im (.lst ds))) ρ = .ok (.own ds) ρ := (rfl)
theorem de_listO {i : Nat} : DE K W (tCB (rListD K) (tCons (tVar i) tNil)) (eListO i) := fun ks σ0 Fm B H σ ρ Q I p => by
  have p : PtG K ks σ0 Fm W (vE K Fm σ) B σ Q (copyK ρ[i]? ρ) := p
  cases e : ρ[i]? with
  | none => rw [e] at p; exact p.elim
  | some x =>
    rw [e] at p
    cases x with
    | no => exact p.elim
    | bk t => exact p.elim
    | own ds =>
      obtain ⟨a, xs, h1, h2, h3, h4, h5⟩ := I.own i ds e
      exact ⟨.ref a, h1, a, xs, rfl, .inl (.inl (.inl h2)), fun l hl => p B _ _ (Same.refl B) (I.made hl) (I.madeV hl h5)⟩
    | im d =>
      obtain ⟨v, h1, h2⟩ := I.im i d e
      cases h2 with
      | lst h k =>
        rename_i a xs ds
        exact ⟨.ref a, h1, a, xs, rfl, .inl (.inl (.inl (I.ex _ _ h))), fun l hl => p B _ _ (Same.refl B) (I.made hl) (I.madeV hl k)⟩
      | tup h k =>
        rename_i a xs ds
        exact ⟨.ref a, h1, a, xs, rfl, .inr (.inl (.inl (I.ex _ _ h))), fun l hl => p B _ _ (Same.refl B) (I.made hl) (I.madeV hl k)⟩
      | _ => exact p.elim
/-- x.reverse(), x.clear() -/
def chgK (f : List D → List D) (o : Option Sl) (i : Nat) (ρ : Env) : Out :=
  match o with
  | some (.own ds) => .nx (ρ.set i (.own (f ds)))
  | _ => .bad
def sRev (i : Nat) : Env → Out := fun ρ => chgK List.reverse ρ[i]? i ρ
def sClr (i : Nat) : Env → Out := fun ρ => chgK (fun _ => []) ρ[i]? i ρ
theorem x_sRev {i : Nat} {ρ : Env} : sRev i ρ = chgK List.reverse ρ[i]? i ρ := (rfl)
theorem x_sClr {i : Nat} {ρ : Env} : sClr i ρ = chgK (fun _ => []) ρ[i]? i ρ := (rfl)
theorem x_chgK {f : List D → List D} {ds : List D} {i : Nat} {ρ : Env} : chgK f (some (.own ds)) i ρ = .nx (ρ.set i (.own (f ds))) := (rfl)
theorem ds_rev {i : Nat} : DS K W ks (tDrop (tBM0 K "list" rReverse (tVar i))) (sRev i) := fun σ0 Fm B H σ ρ E I p => by
  have p : PtS K ks σ0 Fm W B E (chgK List.reverse ρ[i]? i ρ) := p
  cases e : ρ[i]? with
  | none => rw [e] at p; exact p.elim
  | some x =>
    rw [e] at p
    cases x with
    | no => exact p.elim
    | bk t => exact p.elim
    | im d => exact p.elim
    | own ds =>
      obtain ⟨a, xs, h1, h2, h3, h4, h5⟩ := I.own i ds e
      exact ⟨.ref a, h1, .inl ⟨rfl, xs, .inl (.inl h2)⟩, a, xs, rfl, rfl, h2, p B _ σ (Same.refl B) (I.wr e h1 h5.rev)⟩
theorem ds_clr {i : Nat} : DS K W ks (tDrop (tBM0 K "list" rClear (tVar i))) (sClr i) := fun σ0 Fm B H σ ρ E I p => by
  have p : PtS K ks σ0 Fm W B E (chgK (fun _ => []) ρ[i]? i ρ) := p
  cases e : ρ[i]? with
  | none => rw [e] at p; exact p.elim
  | some x =>
    rw [e] at p
    cases x with
    | no => exact p.elim
    | bk t => exact p.elim
    | im d => exact p.elim
    | own ds =>
      obtain ⟨a, xs, h1, h2, h3, h4, h5⟩ := I.own i ds e
      exact ⟨.ref a, h1, .inl ⟨rfl, xs, .inl (.inl h2)⟩, a, xs, rfl, rfl, h2, p B _ σ (Same.refl B) (I.wr e h1 .nil)⟩
end
/-! evaluation: calls with keywords, lists lent, repr -/
section
variable {ρ : Env} {n m k : Nat}
theorem x_callK {p : List Nat} {F : Env → R Rv} {fa fk : Env → R (List Av)} : eCallK n m k p F fa fk ρ = (fa ρ).bind fun as ρ => (fk ρ).bind fun bs ρ => doCall n F (permG m k p as bs) ρ := (rfl)
theorem x_permG {α : Type} {p : List Nat} {us ws : List α} (h1 : us.length = m) (h2 : ws.length = k) : permG m k p us ws = permL p (us ++ ws) := if_pos ⟨h1, h2⟩
theorem x_permL0 {α : Type} {xs : List α} : permL [] xs = [] := (rfl)
theorem x_permL1 {α : Type} {i : Nat} {p : List Nat} {xs : List α} {a : α} (h : xs[i]? = some a) : permL (i :: p) xs = a :: permL p xs := by
  unfold permL
  rw [List.filterMap_cons_some h]
theorem x_eLent {f : Env → R Rv} : eLent f ρ = lentR ρ (f (frE ρ)) := (rfl)
theorem x_tLent {f : Env → R Bool} : tLent f ρ = lentB ρ (f (frE ρ)) := (rfl)
theorem x_lentI {d : D} {ρ' : Env} : lentR ρ (.ok (.im d) ρ') = cond (leafD d) (.ok (.im d) ρ) .bad := (rfl)
theorem x_lentK {t : Bd} {ρ' : Env} : lentR ρ (.ok (.bk t) ρ') = cond (bdLeaf t) (.ok (.bk t) ρ) .bad := (rfl)
theorem x_lentO {ds : List D} {ρ' : Env} : lentR ρ (.ok (.own ds) ρ') = cond (ds.all leafD) (.ok (.own ds) ρ) .bad := (rfl)
theorem x_leaf1 {i : Int} : leafD (.int i) = true := (rfl)
theorem x_leaf2 {b : Bool} : leafD (.bl b) = true := (rfl)
theorem x_leaf3 : leafD .non = true := (rfl)
theorem x_leaf4 {x : Str} : leafD (.str x) = true := (rfl)
theorem x_leaf5 : ∀ {ns : List Int}, (ns.map D.int).all leafD = true
  | [] => rfl
  | n :: r => x_leaf5 (ns := r)
theorem x_lentB {b : Bool} {ρ' : Env} : lentB ρ (.ok b ρ') = .ok b ρ := (rfl)
theorem x_fr0 : frE [] = [] := (rfl)
theorem x_fr1 {ds : List D} : frE (.own ds :: ρ) = .im (.lst ds) :: frE ρ := (rfl)
theorem x_fr2 {d : D} : frE (.im d :: ρ) = .im d :: frE ρ := (rfl)
theorem x_fr3 : frE (.no :: ρ) = .no :: frE ρ := (rfl)
/-- what repr tells of a thing, where it does -/
def rp (d : D) : Str := (d.py.map PyData.shown).getD (Str.ofString "")
def rpOk (d : D) : Bool := (d.py.map reprOk).getD false
theorem x_repr {d : D} (h : rpOk d = true) : bRepr [d] = some (.im (.str (rp d))) := by
  unfold rpOk at h
  cases e : d.py with
  | none => rw [e] at h; cases h
  | some p =>
    rw [e] at h
    have h : reprOk p = true := h
    have e2 : rp d = p.shown := by
      unfold rp
      rw [e]
      rfl
    rw [e2]
    show d.py.bind (fun p => if reprOk p = true then some (Rv.im (D.str p.shown)) else none) = _
    rw [e]
    exact if_pos h
/-- == and != of two texts, else as ever -/
def cEqX (x y : D) : Option Rv :=
  match x, y with
  | .str a, .str b => some (.im (.bl (decide (a = b))))
  | x, y => cEq x y
def cNeX (x y : D) : Option Rv :=
  match x, y with
  | .str a, .str b => some (.im (.bl (!decide (a = b))))
  | x, y => cNe x y
theorem x_eqS {a b : Str} : cEqX (.str a) (.str b) = some (.im (.bl (decide (a = b)))) := (rfl)
theorem x_neS {a b : Str} : cNeX (.str a) (.str b) = some (.im (.bl (!decide (a = b)))) := (rfl)
def rEqX (K : PySem.W.Frag) : R2 := fun x y H Q => rEqD K x y H Q ∨ rEq x y H Q
def rNeX (K : PySem.W.Frag) : R2 := fun x y H Q => rNeD K x y H Q ∨ rNe x y H Q
theorem op_eqX {X : Cx} {K : PySem.W.Frag} (e : X.K = K) (hu : X.A.units + 64 < cLine) : OpR X (compareOp .Eq) (rEqX K) := OpR.or (op_eqK e hu) op_eq
theorem op_neX {X : Cx} {K : PySem.W.Frag} (e : X.K = K) (hu : X.A.units + 64 < cLine) : OpR X (compareOp .NotEq) (rNeX K) := OpR.or (op_neK e hu) op_ne
theorem dec_strV {a b : Str} : decide (V.str a = V.str b) = decide (a = b) := by
  by_cases h : a = b <;> simp [h]
theorem od_eqX {K : PySem.W.Frag} : OpD K (rEqX K) cEqX := by
  intro ks σ0 Fm B H σ ρ x y dx dy rv Q I hx hy e q
  unfold cEqX at e
  split at e
  · rename_i a b
    cases e
    refine .inr ?_
    rw [hx.strV, hy.strV]
    refine ⟨rfl, ?_⟩
    rw [dec_strV]
    exact q B H _ (Same.refl B) I (.bl _)
  · exact .inl (od_eq ks σ0 Fm B H σ ρ x y dx dy rv Q I hx hy e q)
theorem od_neX {K : PySem.W.Frag} : OpD K (rNeX K) cNeX := by
  intro ks σ0 Fm B H σ ρ x y dx dy rv Q I hx hy e q
  unfold cNeX at e
  split at e
  · rename_i a b
    cases e
    refine .inr ?_
    rw [hx.strV, hy.strV]
    refine ⟨rfl, ?_⟩
    rw [dec_strV]
    exact q B H _ (Same.refl B) I (.bl _)
  · exact .inl (od_ne ks σ0 Fm B H σ ρ x y dx dy rv Q I hx hy e q)
end
end DL
namespace DL
open PySem PySem.Spec PyProof.Rows L2
theorem gfn_bad {P : Program} {w : World} {K : PySem.W.Frag} {mg : Str → Option Value} {base : Heap} {CX : CXT} {k n : Nat} {f : Addr} {fd : FuncData} {ps : List Str} (hn : ps.length = n) : GFn P w K mg base CX k f fd ps (spD K n fun _ => .bad) := by
  have no : ∀ vs H Q E, ¬ spD K n (fun _ => .bad) vs H Q E := fun vs H Q E h => by
    obtain ⟨_, Fm, B, as, I, hno, p⟩ := h
    exact p
  exact ⟨fun vs H Q E h => (no vs H Q E h).elim, fun A outer s H args us vs Q E _ _ _ _ _ h => (no vs H Q E h).elim⟩
end DL


/-! DL, part w: how long the texts of data are -/
namespace DL
open PySem PySem.Spec PyProof.Rows L2
/-- a thing that repr tells: how deep, how many parts -/
structure Rp (dep n : Nat) (d : D) : Prop where
  ex : ∃ p, d.py = some p ∧ p.showable = true ∧ p.hasDict = false ∧ p.depth ≤ dep ∧ p.leavesShort 210 = true ∧ p.bulk ≤ n
structure RpA (dep n : Nat) (ds : List D) : Prop where
  ex : ∃ ps, pyA ds = some ps ∧ PyData.showableAll ps = true ∧ PyData.hasDictAll ps = false ∧ PyData.depthAll ps ≤ dep ∧ PyData.leavesShortAll 210 ps = true ∧ PyData.bulkAll ps ≤ n
theorem Rp.int {i : Int} (h1 : -(2 ^ 200) < i) (h2 : i < 2 ^ 200) : Rp 0 0 (.int i) := by
  have hl := log2_of h1 h2
  refine ⟨.int i, by rw [D.py], ?_, by simp only [PyData.hasDict], by simp only [PyData.depth]; omega, ?_, by simp only [PyData.bulk]; omega⟩
  · simp only [PyData.showable, decide_eq_true_eq]
    omega
  · have e := int_text_length_le (k := 200) (by decide) hl
    have e2 : (PyData.shown (.int i)).length = (toString i).length := PySem.ofString_length (toString i)
    simp only [PyData.leavesShort, decide_eq_true_eq]
    omega
theorem Rp.bl (b : Bool) : Rp 0 0 (.bl b) := ⟨.bool b, by rw [D.py], by simp only [PyData.showable], by simp only [PyData.hasDict], by simp only [PyData.depth]; omega, by simp only [PyData.leavesShort], by simp only [PyData.bulk]; omega⟩
theorem Rp.non : Rp 0 0 .non := ⟨.none, by rw [D.py], by simp only [PyData.showable], by simp only [PyData.hasDict], by simp only [PyData.depth]; omega, by simp only [PyData.leavesShort], by simp only [PyData.bulk]; omega⟩
theorem RpA.nil : RpA 0 0 [] := ⟨[], by rw [pyA], by simp only [PyData.showableAll], by simp only [PyData.hasDictAll], by simp only [PyData.depthAll]; omega, by simp only [PyData.leavesShortAll], by simp only [PyData.bulkAll]; omega⟩
theorem RpA.cons {a b m n : Nat} {d : D} {ds : List D} (h : Rp a m d) (t : RpA b n ds) : RpA (max a b) (m + 1 + n) (d :: ds) := by
  obtain ⟨p, h1, h2, h3, h4, h5, h6⟩ := h.ex
  obtain ⟨ps, g1, g2, g3, g4, g5, g6⟩ := t.ex
  refine ⟨p :: ps, by rw [pyA, h1, g1]; rfl, by simp only [PyData.showableAll, h2, g2, Bool.and_self], by simp only [PyData.hasDictAll, h3, g3, Bool.or_self], ?_, by simp only [PyData.leavesShortAll, h5, g5, Bool.and_self], ?_⟩
  · simp only [PyData.depthAll]
    omega
  · simp only [PyData.bulkAll]
    omega
theorem Rp.lst {a n : Nat} {ds : List D} (t : RpA a n ds) : Rp (a + 1) n (.lst ds) := by
  obtain ⟨ps, g1, g2, g3, g4, g5, g6⟩ := t.ex
  exact ⟨.list ps, by rw [D.py, g1]; rfl, by simp only [PyData.showable, g2], by simp only [PyData.hasDict, g3], by simp only [PyData.depth]; omega, by simp only [PyData.leavesShort, g5], by simp only [PyData.bulk]; omega⟩
theorem Rp.tup {a n : Nat} {ds : List D} (t : RpA a n ds) : Rp (a + 1) n (.tup ds) := by
  obtain ⟨ps, g1, g2, g3, g4, g5, g6⟩ := t.ex
  exact ⟨.tuple ps, by rw [D.py, g1]; rfl, by simp only [PyData.showable, g2], by simp only [PyData.hasDict, g3], by simp only [PyData.depth]; omega, by simp only [PyData.leavesShort, g5], by simp only [PyData.bulk]; omega⟩
theorem RpA.ints : ∀ {ns : List Int}, (∀ i ∈ ns, -(2 ^ 200) < i ∧ i < 2 ^ 200) → RpA 0 ns.length (ns.map D.int)
  | [], _ => RpA.nil
  | n :: r, h => by
    have t := RpA.cons (Rp.int (h n List.mem_cons_self).1 (h n List.mem_cons_self).2) (RpA.ints (ns := r) fun i hi => h i (List.mem_cons_of_mem _ hi))
    have e : 0 + 1 + r.length = (n :: r).length := by rw [List.length_cons]; omega
    rw [e] at t
    exact t
theorem Rp.ints {ns : List Int} (h : ∀ i ∈ ns, -(2 ^ 200) < i ∧ i < 2 ^ 200) : Rp 1 ns.length (.lst (ns.map D.int)) := .lst (.ints h)
/-- the same for each of many -/
theorem RpA.all {α : Type} {f : α → D} {a m : Nat} : ∀ {xs : List α}, (∀ x ∈ xs, Rp a m (f x)) → RpA a ((m + 1) * xs.length) (xs.map f)
  | [], _ => by
    obtain ⟨ps, g1, g2, g3, g4, g5, g6⟩ := RpA.nil.ex
    exact ⟨ps, g1, g2, g3, by omega, g5, by omega⟩
  | x :: r, h => by
    have t := RpA.cons (h x List.mem_cons_self) (RpA.all (xs := r) fun y hy => h y (List.mem_cons_of_mem _ hy))
    have e : m + 1 + (m + 1) * r.length = (m + 1) * (x :: r).length := by rw [List.length_cons, Nat.mul_add]; omega
    rw [e, Nat.max_self] at t
    exact t
theorem Rp.mono {a b m n : Nat} {d : D} (h : Rp a m d) (h1 : a ≤ b) (h2 : m ≤ n) : Rp b n d := by
  obtain ⟨ps, g1, g2, g3, g4, g5, g6⟩ := h.ex
  exact ⟨ps, g1, g2, g3, by omega, g5, by omega⟩
theorem Rp.ok {a n : Nat} {d : D} (h : Rp a n d) (h1 : a ≤ 20 := by omega) (h2 : n ≤ 4000 := by omega) : rpOk d = true := by
  obtain ⟨p, g1, g2, g3, g4, g5, g6⟩ := h.ex
  unfold rpOk
  rw [g1]
  show reprOk p = true
  have e := PyData.shown_le_bulk 210 (by decide) p g5
  unfold reprOk
  rw [g2, g3, Nat.ble_eq_true_of_le (show p.depth ≤ 20 by omega), Nat.ble_eq_true_of_le (show p.shown.length ≤ 1000000 by omega)]
  rfl
end DL


/-! DL, part v: more evaluation -/
namespace DL
open PySem PySem.Spec PyProof.Rows L2
def slK2 (o : Option Sl) (l u : Option Int) (ρ : Env) : R Rv :=
  match o with
  | some (.own ds) => .ok (.own (cutD ds l u)) ρ
  | _ => .bad
def slK1 (o : Option Sl) (i : Nat) (lo hi : Env → R (Option Int)) (ρ : Env) : R Rv :=
  match o with
  | some (.own _) => (lo ρ).bind fun l ρ => (hi ρ).bind fun u ρ => slK2 ρ[i]? l u ρ
  | _ => .bad
theorem x_eSlO {i : Nat} {lo hi : Env → R (Option Int)} {ρ : Env} : eSlO i lo hi ρ = slK1 ρ[i]? i lo hi ρ := (rfl)
theorem x_slK1 {i : Nat} {ds : List D} {lo hi : Env → R (Option Int)} {ρ : Env} : slK1 (some (.own ds)) i lo hi ρ = (lo ρ).bind fun l ρ => (hi ρ).bind fun u ρ => slK2 ρ[i]? l u ρ := (rfl)
theorem x_slK2 {ds : List D} {l u : Option Int} {ρ : Env} : slK2 (some (.own ds)) l u ρ = .ok (.own (cutD ds l u)) ρ := (rfl)
end DL

/-! DL, part r: reversed of a list, of a range from a; int, tuple, max and min of three -/
namespace DL
open PySem PySem.Spec PyProof.Rows L2
section
variable {K : PySem.W.Frag} {W : WX} {ks : List Nat}
theorem wk_rev {a : Addr} {xs : List V} {ds : List D} {B0 : Hp} (h : SqL K B0 a xs) (kk : IsA K B0 xs ds) : Wk K (Itv K a xs.length) ds.reverse B0 := by
  intro ks σ0 Fm B H σ ρ i s I
  have hq : SqL K H a xs := I.ex.seq (s.seq h)
  rw [List.length_reverse]
  have hl := kk.len
  refine ⟨fun hi => ?_, fun hi => by show xs.length ≤ i; omega⟩
  have hi2 : xs.length - 1 - i < xs.length := by omega
  refine ⟨⟨by omega, xs, xs[xs.length - 1 - i], hq, List.getElem?_eq_getElem hi2⟩, fun x H' y => ?_⟩
  obtain ⟨rfl, f1⟩ := y
  obtain ⟨d, hd, iv⟩ := kk.getV (f1 xs hq)
  refine ⟨B, d, ?_, Same.refl B, Same.refl _, I, iv.mono s⟩
  rw [List.getElem?_reverse hi, ← hl]
  exact hd
def revK (x : Rv) (ρ : Env) : R (List D) :=
  match x.d with
  | .lst ds => .ok ds.reverse ρ
  | _ => .bad
def iRevLD (f : Env → R Rv) : Env → R (List D) := fun ρ => (f ρ).bind revK
theorem x_revL {f : Env → R Rv} {ρ : Env} : iRevLD f ρ = (f ρ).bind revK := (rfl)
theorem x_revLK {ds : List D} {ρ : Env} : revK (.im (.lst ds)) ρ = .ok ds.reverse ρ := (rfl)
theorem di_revL {te : TE} {f : Env → R Rv} (h : DE K W te f) : DI K W (RT.iRevA K te) (iRevLD f) := fun ks σ0 Fm B H σ ρ Q I p =>
  h ks σ0 Fm B H σ ρ _ I (PtG.step p fun rv ρ1 B1 H1 v s I1 v1 p1 => by
    obtain ⟨B2, s2, I2, i2⟩ := freeze I1 v1
    unfold revK at p1
    cases e : rv.d with
    | lst ds =>
      rw [e] at p1 i2
      obtain ⟨a, xs, rfl, ha, kk⟩ := i2.lstV
      exact ⟨a, xs, rfl, .inl ⟨.inl (.inl (I2.ex _ _ ha)), p1 B2 H1 _ s2 I2 (wk_rev (.inl (.inl ha)) kk)⟩⟩
    | _ =>
      rw [e] at p1
      exact p1.elim)
theorem pi_revLK {X : Cx} {tg e : Expr} {te : TE} {p pos : Pos} (ek : X.K = K) (hg : Gl X "reversed") (hm : X.mg "reversed" = none) (he : PE X e te) (hs : starEach [e] X.env = (false, eval e X.env) :: starEach [] X.env := by rfl) : PI X tg (.Call (.Name "reversed" p) [e] [] pos) (RT.iRevA K te) := by
  subst ek
  exact RT.pi_revA hg hm he hs
/-- reversed(range(a, b)) -/
def rev2K (x y : Rv) (ρ : Env) : R (List D) :=
  match x.d, y.d with
  | .int a, .int b => if (-(2 ^ 60) < a ∧ a < 2 ^ 60) ∧ -(2 ^ 60) < b ∧ b < 2 ^ 60 then .ok (dnD (a + (((b - a).toNat : Nat) : Int) - 1) (b - a).toNat) ρ else .bad
  | _, _ => .bad
def iRev2D (f g : Env → R Rv) : Env → R (List D) := fun ρ => (f ρ).bind fun x ρ => (g ρ).bind fun y ρ => rev2K x y ρ
theorem x_rev2 {f g : Env → R Rv} {ρ : Env} : iRev2D f g ρ = (f ρ).bind fun x ρ => (g ρ).bind fun y ρ => rev2K x y ρ := (rfl)
theorem x_rev2K {a b : Int} {ρ : Env} (h1 : -(2 ^ 60) < a) (h2 : a < 2 ^ 60) (h3 : -(2 ^ 60) < b) (h4 : b < 2 ^ 60) : rev2K (.im (.int a)) (.im (.int b)) ρ = .ok (dnD (a + (((b - a).toNat : Nat) : Int) - 1) (b - a).toNat) ρ := if_pos ⟨⟨h1, h2⟩, h3, h4⟩
theorem di_rev2 {ta tb : TE} {f g : Env → R Rv} (h : DE K W ta f) (h' : DE K W tb g) : DI K W (iRevR (tRg2 ta tb)) (iRev2D f g) := fun ks σ0 Fm B H σ ρ Q I p =>
  h ks σ0 Fm B H σ ρ _ I (PtG.step p fun rv ρ1 B1 H1 v s I1 v1 p1 =>
    h' ks σ0 Fm B1 H1 σ ρ1 _ I1 (PtG.step p1 fun rw ρ2 B2 H2 w s2 I2 w2 p2 => by
      unfold rev2K at p2
      split at p2
      · rename_i a b ea eb
        have hv : v = .int a := int_of v1 (by rw [ea]; rfl)
        have hw : w = .int b := int_of w2 (by rw [eb]; rfl)
        by_cases hl : (-(2 ^ 60) < a ∧ a < 2 ^ 60) ∧ -(2 ^ 60) < b ∧ b < 2 ^ 60
        · rw [if_pos hl] at p2
          exact ⟨a, b, hv, hw, by omega, by omega, by omega, by omega, p2 B2 H2 _ (Same.refl B2) I2 wk_dn⟩
        · rw [if_neg hl] at p2
          exact p2.elim
      · exact p2.elim))
/-- int(i), int(b) -/
def bInt : List D → Option Rv
  | [.int i] => some (.im (.int i))
  | [.bl b] => some (.im (.int (if b then 1 else 0)))
  | _ => none
def rIntD : List V → Hp → VK → Prop := fun xs H Q => (∃ i, xs = [.int i] ∧ Q (.int i) H) ∨ ∃ k, xs = [.bl k] ∧ Q (.int (if k then 1 else 0)) H
theorem cr_intD {X : Cx} : CallR X (.type "int") rIntD := call_int1
theorem cd_int : CbD K rIntD bInt := by
  intro ks σ0 Fm B H σ ρ xs ds rv Q I hx e q
  unfold bInt at e
  split at e
  · cases e
    obtain ⟨v, rfl, h⟩ := isA_1 hx
    exact .inl ⟨_, by rw [h.intV], q B H _ (Same.refl B) I (.int _)⟩
  · cases e
    obtain ⟨v, rfl, h⟩ := isA_1 hx
    exact .inr ⟨_, by rw [h.blV], q B H _ (Same.refl B) I (.int _)⟩
  · cases e
theorem x_intI {i : Int} : bInt [.int i] = some (.im (.int i)) := (rfl)
theorem x_intB {b : Bool} : bInt [.bl b] = some (.im (.int (if b then 1 else 0))) := (rfl)
/-- tuple(x) -/
def bTup : List D → Option Rv
  | [.lst ds] => some (.im (.tup ds))
  | [.tup ds] => some (.im (.tup ds))
  | _ => none
def rTupD (K : PySem.W.Frag) : List V → Hp → VK → Prop := fun xs H Q => ∃ p ys, xs = [.ref p] ∧ ((SqL K H p ys ∧ ∀ l, H l = none → Q (.ref l) (upd H l (.tup ys))) ∨ (SqT K H p ys ∧ Q (.ref p) H))
theorem cr_tupK {X : Cx} (e : X.K = K) : CallR X (.type "tuple") (rTupD K) := by subst e; exact call_tuple_of
theorem cd_tup : CbD K (rTupD K) bTup := by
  intro ks σ0 Fm B H σ ρ xs ds rv Q I hx e q
  unfold bTup at e
  split at e
  · cases e
    obtain ⟨v, rfl, h⟩ := isA_1 hx
    obtain ⟨a, ys, rfl, ha, k⟩ := h.lstV
    refine ⟨a, ys, rfl, .inl ⟨.inl (.inl (I.ex _ _ ha)), fun l hl => ?_⟩⟩
    have s2 := same_upd (o := .tup ys) (I.ex.free hl)
    exact q _ _ _ s2 (I.laid hl) (.tup upd_same (k.mono s2))
  · cases e
    obtain ⟨v, rfl, h⟩ := isA_1 hx
    obtain ⟨a, ys, rfl, ha, k⟩ := h.tupV
    exact ⟨a, ys, rfl, .inr ⟨.inl (.inl (I.ex _ _ ha)), q B H _ (Same.refl B) I (.tup ha k)⟩⟩
  · cases e
theorem x_tupL {ds : List D} : bTup [.lst ds] = some (.im (.tup ds)) := (rfl)
theorem x_tupT {ds : List D} : bTup [.tup ds] = some (.im (.tup ds)) := (rfl)
/-- max and min of three -/
def bMax3 : List D → Option Rv
  | [.int i, .int j, .int k] => some (.im (.int (max (max i j) k)))
  | _ => none
theorem nuLt_int {i j : Int} : nuLt (.int i) (.int j) = some (decide (i < j)) := (rfl)
theorem nuMax3_int {i j k : Int} : nuMax3 (.int i) (.int j) (.int k) = some (.int (max (max i j) k)) := by
  have h2 : ∀ a b : Int, nuMax2 (.int a) (.int b) = some (.int (max a b)) := fun a b => by
    unfold nuMax2
    rw [nuLt_int]
    show some (if decide (a < b) = true then V.int b else V.int a) = _
    by_cases h : a < b
    · rw [if_pos (decide_eq_true h), Int.max_eq_right (by omega)]
    · rw [if_neg (by rw [decide_eq_false h]; exact Bool.false_ne_true), Int.max_eq_left (by omega)]
  unfold nuMax3
  rw [h2]
  show nuMax2 _ _ = _
  rw [h2]
theorem cr_max3K {X : Cx} (hc : X.calm = true) : CallR X (.builtin "max") (rNuC3 nuMax3) := call_max3Nu hc
theorem cd_max3 : CbD K (rNuC3 nuMax3) bMax3 := by
  intro ks σ0 Fm B H σ ρ xs ds rv Q I hx e q
  unfold bMax3 at e
  split at e
  · cases e
    cases hx with
    | cons h1 t =>
      obtain ⟨v, w, rfl, h2, h3⟩ := isA_2 t
      exact ⟨_, _, _, _, rfl, by rw [h1.intV, h2.intV, h3.intV, nuMax3_int], q B H _ (Same.refl B) I (.int _)⟩
  · cases e
theorem x_max3 {i j k : Int} : bMax3 [.int i, .int j, .int k] = some (.im (.int (max (max i j) k))) := (rfl)
/-- xs[::-1] -/
def revRK (x : Rv) (ρ : Env) : R Rv :=
  match x.d with
  | .lst ds => .ok (.own ds.reverse) ρ
  | _ => .bad
def eRevL (f : Env → R Rv) : Env → R Rv := fun ρ => (f ρ).bind revRK
theorem x_eRevL {f : Env → R Rv} {ρ : Env} : eRevL f ρ = (f ρ).bind revRK := (rfl)
theorem x_revRK {ds : List D} {ρ : Env} : revRK (.im (.lst ds)) ρ = .ok (.own ds.reverse) ρ := (rfl)
theorem x_revRO {ds : List D} {ρ : Env} : revRK (.own ds) ρ = .ok (.own ds.reverse) ρ := (rfl)
theorem de_revL {te : TE} {f : Env → R Rv} (h : DE K W te f) : DE K W (tRevL K te) (eRevL f) := fun ks σ0 Fm B H σ ρ Q I p =>
  h ks σ0 Fm B H σ ρ _ I (PtG.step p fun rv ρ1 B1 H1 v s I1 v1 p1 => by
    obtain ⟨B2, s2, I2, i2⟩ := freeze I1 v1
    unfold revRK at p1
    cases e : rv.d with
    | lst ds =>
      rw [e] at p1 i2
      obtain ⟨a, xs, rfl, ha, kk⟩ := i2.lstV
      exact ⟨a, xs, rfl, .inl (.inl (I2.ex _ _ ha)), fun q hq => p1 B2 _ _ s2 (I2.made hq) (I2.madeV hq kk.rev)⟩
    | _ =>
      rw [e] at p1
      exact p1.elim)
theorem pe_revLK {X : Cx} {e : Expr} {te : TE} {k : Nat} {p1 p2 p3 pos : Pos} (ek : X.K = K) (he : PE X e te) : PE X (.Subscript e (.Slice none none (some (.UnaryOp .USub (.Constant (.int 1) k p1) p2)) p3) pos) (tRevL K te) := by
  subst ek
  exact pe_revL he
end
end DL

namespace DL
open PySem PySem.Spec PyProof.Rows L2
theorem relabel_same {sc : Scope} {e e0 : PySem.Env} (h : e.scope = e0.scope) : relabel sc e = relabel sc e0 := by
  unfold relabel PySem.Env.kindOf
  rw [h]
/-- a comprehension within a comprehension -/
theorem blkOk_in {N : List Str} {sc scope : Scope} {own : List (Str × Nat)} {cl : List (Str × Addr)} {C : Addr} {e e0 : PySem.Env} (h : e.scope = e0.scope) (hb : blkC N (relabel sc e0) scope own = true) : BlkOk N (compEnvC sc cl C e).scope scope own := by
  show BlkOk N (relabel sc e) scope own
  rw [relabel_same h]
  exact blkOk_by hb
end DL

/-! DL, part t: the truth of a list of one's own; index -/
namespace DL
open PySem PySem.Spec PyProof.Rows L2
section
variable {K : PySem.W.Frag} {W : WX} {ks : List Nat}
def truK (o : Option Sl) (ρ : Env) : R Bool :=
  match o with
  | some (.own ds) => .ok (!ds.isEmpty) ρ
  | some (.im (.lst ds)) => .ok (!ds.isEmpty) ρ
  | _ => .bad
def tTruO (i : Nat) : Env → R Bool := fun ρ => truK ρ[i]? ρ
theorem x_truO {i : Nat} {ρ : Env} : tTruO i ρ = truK ρ[i]? ρ := (rfl)
theorem x_truK {ds : List D} {ρ : Env} : truK (some (.own ds)) ρ = .ok (!ds.isEmpty) ρ := (rfl)
theorem x_truI {ds : List D} {ρ : Env} : truK (some (.im (.lst ds))) ρ = .ok (!ds.isEmpty) ρ := (rfl)
theorem isA_empty {B : Hp} {xs : List V} {ds : List D} (h : IsA K B xs ds) : (!xs.isEmpty) = (!ds.isEmpty) := by
  cases h <;> rfl
theorem dt_truO {i : Nat} : DT K W (fun σ H Q => tVar i σ H fun x H' => ∃ k, TruV K x H' k ∧ Q k H') (tTruO i) := fun ks σ0 Fm B H σ ρ Q I p => by
  have p : PtG K ks σ0 Fm W vEq B σ Q (truK ρ[i]? ρ) := p
  cases e : ρ[i]? with
  | none => rw [e] at p; exact p.elim
  | some x =>
    rw [e] at p
    cases x with
    | no => exact p.elim
    | bk t => exact p.elim
    | own ds =>
      obtain ⟨a, xs, h1, h2, h3, h4, h5⟩ := I.own i ds e
      exact ⟨.ref a, h1, _, .inl ⟨xs, .inl (.inl h2), rfl⟩, p B H _ (Same.refl B) I (isA_empty h5)⟩
    | im d =>
      obtain ⟨v, h1, h2⟩ := I.im i d e
      cases h2 with
      | lst h k =>
        exact ⟨_, h1, _, .inl ⟨_, .inl (.inl (I.ex _ _ h)), rfl⟩, p B H _ (Same.refl B) I (isA_empty k)⟩
      | _ => exact p.elim
theorem pt_truthK {X : Cx} {a : Expr} {ta : TE} (ek : X.K = K) (ha : PE X a ta) (he : ∀ whole, isTrue a X.env whole = (do let v ← whole; standAt a.pos; holding [v] (truthy v))) :
    PT X a (fun σ H Q => ta σ H fun x H' => ∃ k, TruV K x H' k ∧ Q k H') := by
  subst ek
  exact pt_truth ha he
/-- xs.index(n), of numbers -/
def idxR (o : Option (List Int)) (n : Int) : Option Rv :=
  match o with
  | some ns => (ns.findIdx? fun z => z == n).map fun (j : Nat) => Rv.im (D.int (j : Int))
  | none => none
def idK2 (ds : List D) (y : D) (ρ : Env) : R Rv :=
  match y with
  | .int n => lift (idxR (intL ds) n) ρ
  | _ => .bad
def idK1 (x : D) (fa : Env → R Rv) (ρ : Env) : R Rv :=
  match x with
  | .lst ds => (fa ρ).bind fun y ρ => idK2 ds y.d ρ
  | _ => .bad
def eIndex (f : Env → R Rv) (fa : Env → R Rv) : Env → R Rv := fun ρ => (f ρ).bind fun x ρ => idK1 x.d fa ρ
theorem x_eIndex {f fa : Env → R Rv} {ρ : Env} : eIndex f fa ρ = (f ρ).bind fun x ρ => idK1 x.d fa ρ := (rfl)
theorem x_idK1 {ds : List D} {fa : Env → R Rv} {ρ : Env} : idK1 (.lst ds) fa ρ = (fa ρ).bind fun y ρ => idK2 ds y.d ρ := (rfl)
theorem x_idK2 {ns : List Int} {n : Int} {j : Nat} {ρ : Env} (h : ns.findIdx? (fun z => z == n) = some j) : idK2 (ns.map D.int) (.int n) ρ = .ok (.im (.int (j : Int))) ρ := by
  show lift (idxR (intL _) n) ρ = _
  rw [intL_map]
  unfold idxR
  simp only [h, Option.map_some]
  rfl
theorem de_index {te ta : TE} {f fa : Env → R Rv} (h : DE K W te f) (ha : DE K W ta fa) : DE K W (tBM K "list" (rIndexD K) te (tCons ta tNil)) (eIndex f fa) := fun ks σ0 Fm B H σ ρ Q I p =>
  h ks σ0 Fm B H σ ρ _ I (PtG.step p fun rv ρ1 B1 H1 v s1 I1 v1 p1 => by
    obtain ⟨B2, s2, I2, i2⟩ := freeze I1 v1
    cases e : rv.d with
    | lst ds =>
      rw [e] at p1 i2
      replace p1 : PtG K ks σ0 Fm W (vE K Fm σ) B1 σ Q ((fa ρ1).bind fun y ρ => idK2 ds y.d ρ) := p1
      obtain ⟨a, xs, rfl, ha1, kk⟩ := i2.lstV
      refine ⟨.inl ⟨rfl, xs, .inl (.inl (I2.ex _ _ ha1))⟩, ha ks σ0 Fm B2 H1 σ ρ1 _ I2 (PtG.step (p1.mono s2) fun rw ρ3 B3 H3 w s3 I3 w3 p3 => ?_)⟩
      unfold idK2 at p3
      cases e2 : rw.d with
      | int n =>
        rw [e2] at p3
        replace p3 : PtG K ks σ0 Fm W (vE K Fm σ) B3 σ Q (lift (idxR (intL ds) n) ρ3) := p3
        have hw : w = .int n := int_of w3 (by rw [e2]; rfl)
        cases e3 : intL ds with
        | none => rw [e3] at p3; exact p3.elim
        | some ns =>
          cases e4 : ns.findIdx? (fun z => z == n) with
          | none =>
            have hr : idxR (intL ds) n = none := by
              rw [e3]
              unfold idxR
              simp only [e4, Option.map_none]
            rw [hr] at p3
            exact p3.elim
          | some j =>
            have hr : idxR (intL ds) n = some (.im (.int (j : Int))) := by
              rw [e3]
              unfold idxR
              simp only [e4, Option.map_some]
            rw [hr] at p3
            have hds := intL_eq e3
            subst hds
            obtain ⟨hj, h1, h2⟩ := List.findIdx?_eq_some_iff_getElem.mp e4
            have hdp : Dp K H3 (.ref a) (.list (ns.map PyData.int)) := by
              refine Dp.lst (.inl (.inl (I3.ex _ _ (s3 _ _ ha1)))) ?_
              have := isA_int (kk)
              subst this
              exact (isA_ints (K := K) (B := H3) ns).dp (pyA_ints ns)
            refine ⟨a, w, .int n, ns.map PyData.int, j, .int ns[j], rfl, by rw [hw], hdp, by rw [hw]; exact .int n, shaped_ints ns, shaped_int n, by rw [List.getElem?_map, List.getElem?_eq_getElem hj]; rfl, ?_, fun m z hm hz => ?_, p3 B3 H3 _ (Same.refl B3) I3 (.int _)⟩
            · simp only [PyData.eqv]
              exact h1
            · rw [List.getElem?_map, List.getElem?_eq_getElem (by omega)] at hz
              cases hz
              simp only [PyData.eqv]
              have := h2 m hm
              simpa using this
      | _ => rw [e2] at p3; exact p3.elim
    | _ => rw [e] at p1; exact p1.elim)
end
end DL
namespace DL
open PySem PySem.Spec PyProof.Rows L2
theorem mt_indexK {X : Cx} {K : PySem.W.Frag} (e : X.K = K) (hu : X.A.units + 65 < cLine) : MtR X "list.index" (rIndexD K) := by
  subst e
  exact mt_indexD hu
end DL

/-! DL, part u: the items of a list as several targets -/
namespace DL
open PySem PySem.Spec PyProof.Rows L2
section
variable {X : Cx} {K : PySem.W.Frag} {ks : List Nat}
def tgLst (ts : List Tg) : Tg := fun d ρ =>
  match d with
  | .lst ds => tgAll ts ds ρ
  | _ => none
theorem x_tgLst {ts : List Tg} {ds : List D} {ρ : Env} : tgLst ts (.lst ds) ρ = tgAll ts ds ρ := (rfl)
theorem pg_lstK {es : List Expr} {k : Nat} {t : TGs} {n : Nat} {pos : Pos} (e : X.K = K) (hc : X.calm = true) (h : PGs X es t) (hn : (assignEach es X.env).length = n := by rfl) (hst : (assignEach es X.env).findIdx? (·.1) = none := by rfl) : PG X (.Tuple es k pos) (gLst K n t) := by
  subst e
  exact pg_lst hc h hn hst
theorem dg_lst {js : List Nat} {n : Nat} {gr : TGs} {ts : List Tg} (hn : ts.length = n) (h : DTgs K ks js gr ts) : DTg K ks js (gLst K n gr) (tgLst ts) := by
  intro σ0 Fm B H σ ρ v d ρ' Q I hv e q
  unfold tgLst at e
  split at e
  · obtain ⟨a, xs, rfl, ha, kk⟩ := hv.lstV
    refine ⟨a, xs, rfl, I.ex.seq (.inl (.inl ha)), ?_, h σ0 Fm B H σ ρ xs _ ρ' Q I kk e q⟩
    rw [kk.len, tgAll_len e, hn]
  · cases e
variable {W : WX}
/-- an item of a list that is one's own, or was -/
def ixB1 (o : Option Sl) (i : Nat) (f : Env → R Rv) (ρ : Env) : R Rv :=
  match o with
  | some (.own _) => eIxO i f ρ
  | _ => eOp ixD (eVar i) f ρ
def eIxB (i : Nat) (f : Env → R Rv) : Env → R Rv := fun ρ => ixB1 ρ[i]? i f ρ
theorem x_ixB {i : Nat} {f : Env → R Rv} {ρ : Env} : eIxB i f ρ = ixB1 ρ[i]? i f ρ := (rfl)
theorem x_ixB1 {i : Nat} {f : Env → R Rv} {ρ : Env} {ds : List D} : ixB1 (some (.own ds)) i f ρ = eIxO i f ρ := (rfl)
theorem x_ixB2 {i : Nat} {f : Env → R Rv} {ρ : Env} {d : D} : ixB1 (some (.im d)) i f ρ = eOp ixD (eVar i) f ρ := (rfl)
theorem de_ixB {i : Nat} {tb : TE} {fb : Env → R Rv} (hb : DE K W tb fb) : DE K W (tOp (rIx K) (tVar i) tb) (eIxB i fb) := fun ks σ0 Fm B H σ ρ Q I p => by
  unfold eIxB ixB1 at p
  split at p
  · exact de_ixO hb ks σ0 Fm B H σ ρ Q I p
  · exact de_op od_ix de_var hb ks σ0 Fm B H σ ρ Q I p
end
end DL

/-! DL, part k: blocks: a deck of piles that is drawn from -/
namespace DL
open PySem PySem.Spec PyProof.Rows L2
section
variable {K : PySem.W.Frag} {ks : List Nat} {σ0 : L2.St} {Fm B H H' : Hp} {σ : L2.St} {ρ : Env} {W : WX}
/-- a block becomes another one, at the same place -/
theorem IV.reB {i : Nat} {t t' : Bd} {v : V} (I : IV K ks σ0 Fm B H σ ρ) (e : ρ[i]? = some (.bk t)) (hv : σ[i]? = some (some v)) (hd : ∀ p, ¬ t.Ft H v p → H p ≠ none → H' p = H p) (hc : t'.C K B H' v)
    (hf : ∀ p, t'.Ft H' v p → t.Ft H v p ∨ (B p = none ∧ Fm p = none ∧ Apart H σ ρ p)) : IV K ks σ0 Fm B H' σ (ρ.set i (.bk t')) := by
  obtain ⟨w, k1, k2, k3⟩ := I.bs.bk i t e
  rw [hv] at k1
  cases k1
  have hl : i < ρ.length := (List.getElem?_eq_some_iff.mp e).1
  have own_of : ∀ {j : Nat} {ds : List D}, (ρ.set i (.bk t'))[j]? = some (.own ds) → i ≠ j ∧ ρ[j]? = some (.own ds) := fun {j ds} e => by
    rcases set_sub e with ⟨_, z, _⟩ | h
    · cases z
    · exact h
  have im_of : ∀ {j : Nat} {d : D}, (ρ.set i (.bk t'))[j]? = some (.im d) → i ≠ j ∧ ρ[j]? = some (.im d) := fun {j ds} e => by
    rcases set_sub e with ⟨_, z, _⟩ | h
    · cases z
    · exact h
  have keep : ∀ {p : Addr} {o : HO}, H p = some o → ¬ t.Ft H v p → H' p = some o := fun {p o} h n => by
    rw [hd p n (by rw [h]; exact Option.some_ne_none _)]
    exact h
  -- another block keeps
  have oth : ∀ {j : Nat} {u : Bd} {w : V}, i ≠ j → ρ[j]? = some (.bk u) → σ[j]? = some (some w) → (∀ p, u.Ft H w p → H' p = H p) := fun {j u w} n h1 h2 p f => by
    obtain ⟨w', m1, m2, m3⟩ := I.bs.bk j u h1
    rw [h2] at m1
    cases m1
    exact hd p (fun z => I.bs.bb i j t u v w p n e h1 hv h2 z f) (Bd.live m2 f)
  refine ⟨fun b o h => keep (I.ex b o h) fun z => ?_, fun b o h => keep (I.fr b o h) fun z => ?_, I.fb, by rw [List.length_set]; exact I.len, fun j d h => I.im j d (im_of h).2, fun j ds h => ?_, fun j k ds es a hjk h1 h2 h3 h4 => I.dj j k ds es a hjk (own_of h1).2 (own_of h2).2 h3 h4, I.pin, ⟨fun j u h => ?_, fun j k u ds w a h1 h2 h3 h4 f => ?_, fun j k u u' w w' p hjk h1 h2 h3 h4 f1 f2 => ?_⟩⟩
  · have := (k3 b z).1
    rw [h] at this
    cases this
  · have := (k3 b z).2
    rw [h] at this
    cases this
  · obtain ⟨n, h⟩ := own_of h
    obtain ⟨a, xs, g1, g2, g3, g4, g5⟩ := I.own j ds h
    exact ⟨a, xs, g1, keep g2 (I.bs.bo i j t ds v a e h hv g1), g3, g4, g5⟩
  · rcases set_sub h with ⟨rfl, z, _⟩ | ⟨n, h⟩
    · cases z
      refine ⟨v, hv, hc, fun p f => ?_⟩
      rcases hf p f with z | ⟨z1, z2, _⟩
      · exact k3 p z
      · exact ⟨z1, z2⟩
    · obtain ⟨w, m1, m2, m3⟩ := I.bs.bk j u h
      exact ⟨w, m1, Bd.congr (oth n h m1) m2, fun p f => m3 p ((Bd.ftEq (oth n h m1) p).mp f)⟩
  · obtain ⟨n2, h2⟩ := own_of h2
    rcases set_sub h1 with ⟨rfl, z, _⟩ | ⟨n, h1⟩
    · cases z
      rw [hv] at h3
      cases h3
      rcases hf a f with z | ⟨_, _, z⟩
      · exact I.bs.bo i k t ds v a e h2 hv h4 z
      · exact z.o k ds h2 h4
    · exact I.bs.bo j k u ds w a h1 h2 h3 h4 ((Bd.ftEq (oth n h1 h3) a).mp f)
  · rcases set_sub h1 with ⟨rfl, z, _⟩ | ⟨n, h1⟩
    · cases z
      rcases set_sub h2 with ⟨q, _, _⟩ | ⟨n2, h2⟩
      · exact hjk q
      rw [hv] at h3
      cases h3
      have f2' := (Bd.ftEq (oth n2 h2 h4) p).mp f2
      rcases hf p f1 with z | ⟨_, _, z⟩
      · exact I.bs.bb i k t u' v w' p hjk e h2 hv h4 z f2'
      · exact z.b k u' w' h2 h4 f2'
    · have f1' := (Bd.ftEq (oth n h1 h3) p).mp f1
      rcases set_sub h2 with ⟨rfl, z, _⟩ | ⟨n2, h2⟩
      · cases z
        rw [hv] at h4
        cases h4
        rcases hf p f2 with z | ⟨_, _, z⟩
        · exact I.bs.bb i j t u v w p (fun q => hjk q.symm) e h1 hv h3 z f1'
        · exact z.b j u w h1 h3 f1'
      · exact I.bs.bb j k u u' w w' p hjk h1 h2 h3 h4 f1' ((Bd.ftEq (oth n2 h2 h4) p).mp f2)
/-- what stands in a slot of which nothing is known -/
theorem IV.junk {i : Nat} {x : Option V} (I : IV K ks σ0 Fm B H σ ρ) (hi : i ∉ ks) (e : ρ[i]? = some .no) : IV K ks σ0 Fm B H (σ.set i x) ρ := by
  have ne : ∀ {j : Nat} {y : Sl}, y ≠ .no → ρ[j]? = some y → i ≠ j := fun {j y} hy h z => by
    subst z
    rw [e] at h
    exact hy (Option.some.inj h).symm
  refine ⟨I.ex, I.fr, I.fb, by rw [List.length_set]; exact I.len, fun j d h => ?_, fun j ds h => ?_, fun j k ds es a hjk h1 h2 h3 h4 => ?_, fun j hj => ?_, I.bs.to (fun i t e => e) (fun j t h => List.getElem?_set_ne (ne (by intro z; cases z) h)) (Same.refl B) fun j t v p h h2 f hl hbn hfn ho => ⟨rfl, hbn, hfn, fun k ds q r => ?_⟩⟩
  · rw [List.getElem?_set_ne (ne (by intro z; cases z) h)]
    exact I.im j d h
  · rw [List.getElem?_set_ne (ne (by intro z; cases z) h)]
    exact I.own j ds h
  · rw [List.getElem?_set_ne (ne (by intro z; cases z) h1)] at h3
    rw [List.getElem?_set_ne (ne (by intro z; cases z) h2)] at h4
    exact I.dj j k ds es a hjk h1 h2 h3 h4
  · rw [List.getElem?_set_ne fun z => hi (by rw [z]; exact hj)]
    exact I.pin j hj
  · rw [List.getElem?_set_ne (ne (by intro z; cases z) q)] at r
    exact ho k ds q r

/-! a pile -/
def sSetP (i : Nat) (f : Env → R Rv) : Env → Out := fun ρ => (f ρ).toO fun rv ρ =>
  match rv with
  | .own [] => .nx (ρ.set i (.bk (.pile [])))
  | _ => .bad
theorem ds_setP {i : Nat} {te : TE} {f : Env → R Rv} (hi : i ∉ ks) (h : DE K W te f) : DS K W ks (tAsg te (gName i)) (sSetP i f) := fun σ0 Fm B H σ ρ E I p =>
  h ks σ0 Fm B H σ ρ _ I (PtS.step p fun rv ρ1 B1 H1 v s I1 v1 p1 => by
    cases rv with
    | im d => exact p1.elim
    | bk t => exact p1.elim
    | own ds =>
      cases ds with
      | cons d ds => exact p1.elim
      | nil =>
        obtain ⟨a, xs, rfl, ha, hb, hf, hk, hn⟩ := v1
        cases hk
        refine p1 B1 H1 _ (Same.refl B1) (I1.setBk hi ⟨⟨a, [], rfl, ha, by simp, .nil⟩, fun p f => ?_⟩)
        obtain ⟨b, e, f⟩ := f
        cases e
        rcases f with e | ⟨ts, e, f⟩
        · subst e
          exact ⟨hb, hf, hn⟩
        · rw [ha] at e
          cases e
          cases f)
def asT3 : List D → Option T3
  | [.int x, .int y, .int z] => some (x, y, z)
  | _ => none
def sAppP (i : Nat) (f : Env → R Rv) : Env → Out := fun ρ =>
  match ρ[i]? with
  | some (.bk (.pile _)) => (f ρ).toO fun rv ρ => match ρ[i]?, rv with
    | some (.bk (.pile ps)), .own ds => match asT3 ds with
      | some x => if ps.length < 1000 then .nx (ρ.set i (.bk (.pile (ps ++ [x])))) else .bad
      | none => .bad
    | _, _ => .bad
  | _ => .bad
theorem pair_len {α β : Type} {R : α → β → Prop} {xs : List α} {ys : List β} (h : Paired R xs ys) : xs.length = ys.length := Paired.length h
theorem asT3_is {B : Hp} {xs : List V} {ds : List D} {x : T3} (h : IsA K B xs ds) (e : asT3 ds = some x) : xs = [.int x.1, .int x.2.1, .int x.2.2] := by
  unfold asT3 at e
  split at e
  · cases e
    cases h with
    | cons h1 h =>
      cases h with
      | cons h2 h =>
        cases h with
        | cons h3 h =>
          cases h
          rw [h1.intV, h2.intV, h3.intV]
  · cases e
theorem ds_appP {i : Nat} {te : TE} {f : Env → R Rv} (h : DE K W te f) : DS K W ks (tDrop (tBM K "list" rAppend (tVar i) (tCons te tNil))) (sAppP i f) := fun σ0 Fm B H σ ρ E I p => by
  unfold sAppP at p
  split at p
  · rename_i ps0 e
    obtain ⟨v, h1, ⟨b, ts, rfl, h2, _⟩, _⟩ := I.bs.bk i _ e
    refine ⟨.ref b, h1, .inl ⟨rfl, _, .inl (.inl h2)⟩, h ks σ0 Fm B H σ ρ _ I (PtS.step p fun rv ρ1 B1 H1 v s I1 v1 p1 => ?_)⟩
    split at p1
    · rename_i ps ds e1
      obtain ⟨v', g1, ⟨b', ts', rfl, g2, g3, g4⟩, g5⟩ := I1.bs.bk i _ e1
      rw [h1] at g1
      cases g1
      split at p1
      · rename_i x ex
        by_cases hl : ps.length < 1000
        · rw [if_pos hl] at p1
          obtain ⟨q, xs, rfl, ha, hb, hf, hk, hn⟩ := v1
          have exs := asT3_is hk ex
          have hq : ¬ (Bd.pile ps).Ft H1 (.ref b) q := hn.b i _ _ e1 h1
          have hqb : q ≠ b := fun z => hq ⟨b, rfl, .inl z⟩
          have hqt : q ∉ ts' := fun z => hq ⟨b, rfl, .inr ⟨_, g2, List.mem_map.mpr ⟨q, z, rfl⟩⟩⟩
          refine ⟨b, ts'.map V.ref, .ref q, rfl, rfl, g2, by rw [List.length_map, pair_len g4]; exact sz_lt (by omega), ?_⟩
          have hu : upd H1 b (.lst (ts'.map V.ref ++ [.ref q])) b = some (.lst ((ts' ++ [q]).map V.ref)) := by
            rw [upd_same, List.map_append]
            rfl
          refine p1 B1 _ σ (Same.refl B1) (I1.reB e1 h1 (fun p n _ => upd_ne fun z => n ⟨b, rfl, .inl z⟩) ⟨b, ts' ++ [q], rfl, hu, ?_, ?_⟩ fun p f => ?_)
          · rw [← List.cons_append]
            refine List.nodup_append.mpr ⟨g3, List.nodup_cons.mpr ⟨by simp, List.nodup_nil⟩, fun a hma b' hb' z => ?_⟩
            rw [List.mem_singleton] at hb'
            subst z
            subst hb'
            rcases List.mem_cons.mp hma with z | z
            · exact hqb z
            · exact hqt z
          · refine paired_append (pair_mono g4 fun a y ha r => (upd_ne fun z => (List.nodup_cons.mp g3).1 (by rw [← z]; exact ha)).trans r) (.cons ?_ .nil)
            show upd H1 b _ q = _
            rw [upd_ne hqb, ha, exs]
          · obtain ⟨b', e, f⟩ := f
            cases e
            rcases f with z | ⟨ts2, e, f⟩
            · exact .inl ⟨b, rfl, .inl z⟩
            · rw [hu] at e
              cases e
              rw [List.map_append] at f
              rcases List.mem_append.mp f with f | f
              · exact .inl ⟨b, rfl, .inr ⟨_, g2, f⟩⟩
              · rw [show ([q].map V.ref) = [V.ref q] from rfl, List.mem_singleton] at f
                cases f
                exact .inr ⟨hb, hf, hn⟩
        · rw [if_neg hl] at p1
          exact p1.elim
      · exact p1.elim
    · exact p1.elim
  · exact p.elim
/-- [pile, 0] -/
def eDeck (i : Nat) : Env → R Rv := fun ρ =>
  match ρ[i]? with
  | some (.bk (.pile ps)) => .ok (.bk (.deck ps 0)) (ρ.set i .no)
  | _ => .bad
theorem de_deck {i : Nat} : DE K W (tLst (tCons (tVar i) (tCons (tC (.int 0)) tNil))) (eDeck i) := fun ks σ0 Fm B H σ ρ Q I p => by
  unfold eDeck at p
  split at p
  · rename_i ps e
    obtain ⟨v, h1, ⟨b, ts, rfl, h2, h3, h4⟩, h5⟩ := I.bs.bk i _ e
    refine ⟨.ref b, h1, ?_⟩
    refine ⟨sz_of (n := 2) (by decide), fun q hq => ?_⟩
    have old : ∀ {p : Addr}, (p = b ∨ p ∈ ts) → (Bd.pile ps).Ft H (.ref b) p := fun {p} h => by
      rcases h with h | h
      · exact ⟨b, rfl, .inl h⟩
      · exact ⟨b, rfl, .inr ⟨_, h2, List.mem_map.mpr ⟨p, h, rfl⟩⟩⟩
    have live : ∀ {p : Addr}, (p = b ∨ p ∈ ts) → p ≠ q := fun {p} h z => Bd.live (t := .pile ps) (K := K) (B := B) ⟨b, ts, rfl, h2, h3, h4⟩ (old h) (by rw [z]; exact hq)
    have hb2 : upd H q (.lst [.ref b, .int 0]) b = some (.lst (ts.map V.ref)) := by
      rw [upd_ne (live (.inl rfl))]
      exact h2
    have I2 := (I.made (o := .lst [.ref b, .int 0]) hq).hide i
    have hset : ∀ {j : Nat} {y : Sl}, y ≠ .no → (ρ.set i .no)[j]? = some y → i ≠ j ∧ ρ[j]? = some y := fun {j y} hy h => by
      rcases set_sub h with ⟨_, z, _⟩ | h
      · exact absurd z.symm hy
      · exact h
    refine p B _ (.ref q) (Same.refl B) I2 ⟨⟨q, b, ts, rfl, upd_same, hb2, List.nodup_cons.mpr ⟨fun z => ?_, h3⟩, pair_mono h4 fun x y hx r => (upd_ne (live (.inr hx))).trans r⟩, fun p f => ?_⟩
    · exact live (List.mem_cons.mp z) rfl
    · have hp : p = q ∨ (p = b ∨ p ∈ ts) := by
        obtain ⟨a, e, f⟩ := f
        cases e
        rcases f with z | ⟨b', r, e, f⟩
        · exact .inl z
        · rw [upd_same] at e
          cases e
          rcases f with z | ⟨ts', e, f⟩
          · exact .inr (.inl z)
          · rw [hb2] at e
            cases e
            obtain ⟨x, hx, z⟩ := List.mem_map.mp f
            cases z
            exact .inr (.inr hx)
      rcases hp with z | z
      · subst z
        refine ⟨I.ex.free hq, I.fr.free hq, fun j es h z => ?_, fun j t w h h' => ?_⟩
        · obtain ⟨c, ys, g1, g2, _⟩ := I.own j es (hset (by intro z; cases z) h).2
          rw [z] at g1
          cases g1
          rw [hq] at g2
          cases g2
        · exact I.bs.fresh hq (hset (by intro z; cases z) h).2 h'
      · refine ⟨(h5 p (old z)).1, (h5 p (old z)).2, fun j es h r => ?_, fun j t w h h' f' => ?_⟩
        · exact I.bs.bo i j _ es _ p e (hset (by intro z; cases z) h).2 h1 r (old z)
        · obtain ⟨n, h⟩ := hset (by intro z; cases z) h
          obtain ⟨w', m1, m2, _⟩ := I.bs.bk j t h
          rw [h'] at m1
          cases m1
          have f2 := (Bd.ftEq (H := H) (fun x fx => upd_ne fun z => Bd.live m2 fx (by rw [z]; exact hq)) p).mp f'
          exact I.bs.bb i j _ t _ w p n e h h1 h' (old z) f2
  · exact p.elim

/-! the draw -/
abbrev M1 : Int := 162259276829213363391578010288127
abbrev M2 : Int := 618970019642690137449562111
def drawT (K : PySem.W.Frag) : TS :=
  tSeq (tAsg (tOp (rIx K) (tOp (rIx K) (tVar 0) (tC (V.int 0))) (tOp (rI (fun _ j => 0 < j) fun i j => V.int (i % j)) (tOp (rIx K) (tVar 0) (tC (V.int 1))) (tCB (rLenD K) (tCons (tOp (rIx K) (tVar 0) (tC (V.int 0))) tNil)))) (gName 2))
  (tSeq (tAsg (tOp rAddD (tOp (rIx K) (tVar 0) (tC (V.int 1))) (tC (V.int 1))) (gSub (tVar 0) (tC (V.int 1)) rSetL))
  (tSeq (tIfS (tAnd (tTest (tOp (rEqD K) (tOp (rIx K) (tVar 2) (tC (V.int 1))) (tC (V.int 1)))) (tTest (tOp (rI0 fun i j => V.bl (decide (j < i))) (tOp (rIx K) (tVar 2) (tC (V.int 0))) (tC (V.int 0)))))
    (tSeq (tAsg (tOp (rI (fun _ j => 0 < j) fun i j => V.int (i % j)) (tOp (rIx K) (tVar 2) (tC (V.int 0))) (tVar 1)) (gName 3))
    (tSeq (tAsg (tOp (rI CDivW fun i j => V.int (i / j)) (tOp (rIx K) (tVar 2) (tC (V.int 0))) (tVar 1)) (gSub (tVar 2) (tC (V.int 0)) rSetL)) (tRet (tVar 3)))) tNext)
  (tSeq (tAsg (tOp rAddD (tOp (rIx K) (tVar 2) (tC (V.int 2))) (tC (V.int 1))) (gSub (tVar 2) (tC (V.int 2)) rSetL))
  (tSeq (tAsg (tOp rAddD (tOp (rI (fun _ j => 0 < j) fun i j => V.int (i % j)) (tOp (rIx K) (tVar 2) (tC (V.int 0))) (tC (V.int 162259276829213363391578010288127))) (tOp rMulD (tC (V.int 1299709)) (tOp (rIx K) (tVar 2) (tC (V.int 2))))) (gName 4))
  (tSeq (tAsg (tOp (rI (fun _ j => 0 < j) fun i j => V.int (i % j)) (tOp (rI CPowW fun i j => V.int (i ^ j.toNat)) (tVar 4) (tC (V.int 3))) (tC (V.int 618970019642690137449562111))) (gName 4))
  (tSeq (tAsg (tOp (rI (fun _ j => 0 < j) fun i j => V.int (i % j)) (tOp (rI CPowW fun i j => V.int (i ^ j.toNat)) (tOp rAddD (tVar 4) (tOp rMulD (tC (V.int 15485863)) (tOp (rIx K) (tVar 2) (tC (V.int 2))))) (tC (V.int 3))) (tC (V.int 162259276829213363391578010288127))) (gName 4))
  (tRet (tOp (rI (fun _ j => 0 < j) fun i j => V.int (i % j)) (tOp (rI CDivW fun i j => V.int (i / j)) (tVar 4) (tC (V.int 1048576))) (tVar 1)))))))))
def drMix (x c : Int) : Int := (((x % M1 + 1299709 * c) ^ 3 % M2 + 15485863 * c) ^ 3) % M1
def drVal (q : T3) (m : Int) : Int := cond (eqB q.2.1 1 && ltB 0 q.1) (q.1 % m) (drMix q.1 (q.2.2 + 1) / 1048576 % m)
def drNew (q : T3) (m : Int) : T3 := cond (eqB q.2.1 1 && ltB 0 q.1) (q.1 / m, q.2.1, q.2.2) (q.1, q.2.1, q.2.2 + 1)

def okT3 (q : T3) : Bool := leB 0 q.2.2 && ltB q.2.2 (2 ^ 100)
def drOk (ps : List T3) (n m : Int) : Bool := ps.all okT3 && leB 0 n && ltB 0 m && ltB m (2 ^ 200)
def g_draw : Env → Out := fun ρ =>
  match ρ with
  | [.bk (.deck ps n), .im (.int m), .no, .no, .no] => cond (drOk ps n m)
      (match ps[(n % (ps.length : Int)).toNat]? with
      | some q => .ret (.im (.int (drVal q m))) [.bk (.deck (ps.set (n % (ps.length : Int)).toNat (drNew q m)) (n + 1)), .im (.int m), .no, .no, .no]
      | none => .bad)
      .bad
  | _ => .bad
theorem mul_small {i j : Int} (h1 : -(2 ^ 200) < i) (h2 : i < 2 ^ 200) (h3 : -(2 ^ 200) < j) (h4 : j < 2 ^ 200) : CMulW i j := by
  have a := log2_of h1 h2
  have b := log2_of h3 h4
  show i.natAbs.log2 + j.natAbs.log2 < 1000000
  omega
theorem pow3_ok {i : Int} (h0 : 0 ≤ i) (h1 : i < 2 ^ 200) : CPowW i 3 := by
  refine ⟨by decide, ?_⟩
  have := bits_of (p := i) (by omega) h1
  omega
theorem at_pair {α β : Type} {R : α → β → Prop} {xs : List α} {ys : List β} {i : Nat} {y : β} (h : Paired R xs ys) (e : ys[i]? = some y) : ∃ x, xs[i]? = some x ∧ R x y := by
  induction h generalizing i with
  | nil => simp at e
  | cons a t ih =>
    cases i with
    | zero =>
      simp at e
      subst e
      exact ⟨_, rfl, a⟩
    | succ i => exact ih (i := i) (by simpa using e)
theorem pair_set {α β : Type} {R S : α → β → Prop} {xs : List α} {ys : List β} {i : Nat} {x : α} {y : β} (h : Paired R xs ys) (e : xs[i]? = some x) (hs : S x y) (ho : ∀ (k : Nat) a b, k ≠ i → xs[k]? = some a → R a b → S a b) : Paired S xs (ys.set i y) := by
  induction h generalizing i with
  | nil => simp at e
  | @cons a b as bs r t ih =>
    cases i with
    | zero =>
      simp at e
      subst e
      refine .cons hs ?_
      have : ∀ {as : List α} {bs : List β} (o : Nat), Paired R as bs → (∀ (k : Nat) a b, as[k]? = some a → R a b → S a b) → Paired S as bs := by
        intro as bs o h
        induction h with
        | nil => intro _; exact .nil
        | cons r t ih => intro g; exact .cons (g 0 _ _ rfl r) (ih fun k a b e r => g (k + 1) a b (by simpa using e) r)
      exact this 0 t fun k a b e r => ho (k + 1) a b (by omega) (by simpa using e) r
    | succ i => exact .cons (ho 0 _ _ (by omega) rfl r) (ih (i := i) (by simpa using e) fun k a b hk e r => ho (k + 1) a b (by omega) (by simpa using e) r)
theorem draw_iv {ps : List T3} {n : Int} {a b p : Addr} {ts : List Addr} {q' : T3} {j : Nat} (I : IV K ks σ0 Fm B H σ ρ) (e : ρ[0]? = some (.bk (.deck ps n))) (hv : σ[0]? = some (some (.ref a))) (h1 : H a = some (.lst [.ref b, .int n])) (h2 : H b = some (.lst (ts.map V.ref))) (h3 : (a :: b :: ts).Nodup)
    (h4 : Paired (At3 H) ts ps) (hj : ts[j]? = some p) :
    IV K ks σ0 Fm B (upd (upd H a (.lst [.ref b, .int (n + 1)])) p (.lst [.int q'.1, .int q'.2.1, .int q'.2.2])) σ (ρ.set 0 (.bk (.deck (ps.set j q') (n + 1)))) := by
  have hp : p ∈ ts := List.mem_of_getElem? hj
  have ha := List.nodup_cons.mp h3
  have hb := List.nodup_cons.mp ha.2
  have pa : p ≠ a := fun z => ha.1 (by rw [← z]; exact List.mem_cons_of_mem _ hp)
  have pb : p ≠ b := fun z => hb.1 (by rw [← z]; exact hp)
  have ab : a ≠ b := fun z => ha.1 (by rw [z]; exact List.mem_cons_self)
  have ft : ∀ {x : Addr}, (x = a ∨ x = b ∨ x ∈ ts) → (Bd.deck ps n).Ft H (.ref a) x := fun {x} h => by
    rcases h with h | h | h
    · exact ⟨a, rfl, .inl h⟩
    · exact ⟨a, rfl, .inr ⟨b, _, h1, .inl h⟩⟩
    · exact ⟨a, rfl, .inr ⟨b, _, h1, .inr ⟨_, h2, List.mem_map.mpr ⟨x, h, rfl⟩⟩⟩⟩
  have e1 : upd (upd H a (.lst [.ref b, .int (n + 1)])) p (.lst [.int q'.1, .int q'.2.1, .int q'.2.2]) a = some (.lst [.ref b, .int (n + 1)]) := by
    rw [upd_ne (fun z => pa z.symm), upd_same]
  have e2 : upd (upd H a (.lst [.ref b, .int (n + 1)])) p (.lst [.int q'.1, .int q'.2.1, .int q'.2.2]) b = some (.lst (ts.map V.ref)) := by
    rw [upd_ne (fun z => pb z.symm), upd_ne (fun z => ab z.symm)]
    exact h2
  refine I.reB e hv (fun x nx _ => ?_) ⟨a, b, ts, rfl, e1, e2, h3, ?_⟩ fun x f => .inl ?_
  · rw [upd_ne (fun z => nx (ft (.inr (.inr (by rw [z]; exact hp))))), upd_ne (fun z => nx (ft (.inl z)))]
  · refine pair_set h4 hj upd_same fun k x y hk hx r => ?_
    have hxp : x ≠ p := fun z => hk (by
      subst z
      have l1 := (List.getElem?_eq_some_iff.mp hx).1
      exact (List.getElem?_inj l1 hb.2).mp (hx.trans hj.symm))
    have hxa : x ≠ a := fun z => ha.1 (by rw [← z]; exact List.mem_cons_of_mem _ (List.mem_of_getElem? hx))
    show upd _ _ _ x = _
    rw [upd_ne hxp, upd_ne hxa]
    exact r
  · obtain ⟨a', ea, f⟩ := f
    cases ea
    rcases f with z | ⟨b', r, z, f⟩
    · exact ft (.inl z)
    · rw [e1] at z
      cases z
      rcases f with z | ⟨ts', z, f⟩
      · exact ft (.inr (.inl z))
      · rw [e2] at z
        cases z
        obtain ⟨y, hy, z⟩ := List.mem_map.mp f
        cases z
        exact ft (.inr (.inr hy))
theorem draw_ds : DS K W [0] (drawT K) g_draw := fun σ0 Fm B H σ ρ E I p => by
  unfold g_draw at p
  split at p
  · rename_i ps n m
    cases ho : drOk ps n m with
    | false =>
      rw [ho] at p
      exact p.elim
    | true =>
    rw [ho] at p
    unfold drOk at ho
    simp only [Bool.and_eq_true] at ho
    obtain ⟨⟨⟨hc, hn⟩, hm⟩, hm2⟩ := ho
    have hn : 0 ≤ n := of_decide_eq_true hn
    have hm : 0 < m := of_decide_eq_true hm
    have hm2 : m < 2 ^ 200 := of_decide_eq_true hm2
    generalize hj : (n % (ps.length : Int)).toNat = j at p
    cases hq : ps[j]? with
    | none =>
      rw [hq] at p
      exact p.elim
    | some q =>
    rw [hq] at p
    have p : ∀ B' H' σ' v, Same B B' → IV K [0] σ0 Fm B' H' σ' [.bk (.deck (ps.set j (drNew q m)) (n + 1)), .im (.int m), .no, .no, .no] → vE K Fm σ' B' H' [.bk (.deck (ps.set j (drNew q m)) (n + 1)), .im (.int m), .no, .no, .no] v (.im (.int (drVal q m))) → E.rt v H' := p
    obtain ⟨v0, k0, ⟨a, b, ts, rfl, h1, h2, h3, h4⟩, _⟩ := I.bs.bk 0 _ rfl
    obtain ⟨v1, k1, im1⟩ := I.im 1 _ rfl
    have ev1 := im1.intV
    subst ev1
    obtain ⟨pp, hp, hat⟩ := at_pair h4 hq
    obtain ⟨x, y, z⟩ := q
    have hat : H pp = some (.lst [.int x, .int y, .int z]) := hat
    have hl := I.len
    match σ, hl, k0, k1, I with
    | [s0, s1, s2, s3, s4], _, k0, k1, I =>
    cases k0
    cases k1
    have hpm : pp ∈ ts := List.mem_of_getElem? hp
    have ha := List.nodup_cons.mp h3
    have hb := List.nodup_cons.mp ha.2
    have pa : pp ≠ a := fun z => ha.1 (by rw [← z]; exact List.mem_cons_of_mem _ hpm)
    have pb : pp ≠ b := fun z => hb.1 (by rw [← z]; exact hpm)
    have ab : a ≠ b := fun z => ha.1 (by rw [z]; exact List.mem_cons_self)
    have hlen : (ts.map V.ref).length = ps.length := by rw [List.length_map, pair_len h4]
    have hpos : 0 < ps.length := by
      have := (List.getElem?_eq_some_iff.mp hq).1
      omega
    have hr0 := Int.emod_nonneg n (b := (ps.length : Int)) (by omega)
    have hr1 := Int.emod_lt_of_pos n (b := (ps.length : Int)) (by omega)
    have hix : atI (ts.map V.ref) (n % (ps.length : Int)) = some (.ref pp) := by
      rw [atI_at hr0 (by rw [hlen]; exact hr1), hj, List.getElem?_map, hp]
      rfl
    have hz := List.all_eq_true.mp hc _ (List.mem_of_getElem? hq)
    unfold okT3 at hz
    rw [Bool.and_eq_true] at hz
    have hz0 : 0 ≤ z := of_decide_eq_true hz.1
    have hz1 : z < 2 ^ 100 := of_decide_eq_true hz.2
    let H1 := upd H a (.lst [.ref b, .int (n + 1)])
    have g1 : H1 pp = some (.lst [.int x, .int y, .int z]) := (upd_ne pa).trans hat
    have ml : m.natAbs.log2 < 9000 := (wide_div (i := 0) hm (b := 201) (by omega) (by omega) (by omega)).2
    unfold drawT
    refine ⟨.ref a, rfl, .inl ⟨a, _, 0, .ref b, rfl, rfl, .inl (.inl h1), rfl, ?_⟩⟩
    refine ⟨.ref a, rfl, .inl ⟨a, _, 1, .int n, rfl, rfl, .inl (.inl h1), rfl, ?_⟩⟩
    refine ⟨.ref a, rfl, .inl ⟨a, _, 0, .ref b, rfl, rfl, .inl (.inl h1), rfl, ?_⟩⟩
    refine ⟨b, _, rfl, .inl (.inl (.inl h2)), ?_⟩
    rw [hlen]
    refine ⟨n, ps.length, rfl, rfl, by omega, ?_⟩
    refine .inl ⟨b, _, _, _, rfl, rfl, .inl (.inl h2), hix, ?_⟩
    -- deck[1] = deck[1] + 1
    refine ⟨.ref a, rfl, .inl ⟨a, _, 1, .int n, rfl, rfl, .inl (.inl h1), rfl, ?_⟩⟩
    refine .inl ⟨n, 1, rfl, rfl, ?_⟩
    refine ⟨.ref a, rfl, a, _, 1, 1, rfl, rfl, h1, rfl, ?_⟩
    -- the test
    refine ⟨.ref pp, rfl, .inl ⟨pp, _, 1, .int y, rfl, rfl, .inl (.inl g1), rfl, ?_⟩⟩
    refine ⟨.int y, .int 1, .int y, .int 1, rfl, rfl, _, rfl, ?_⟩
    have go1 : (eqB y 1 && ltB 0 x) = true → (tSeq (tAsg (tOp (rI (fun _ j => 0 < j) fun i j => V.int (i % j)) (tOp (rIx K) (tVar 2) (tC (V.int 0))) (tVar 1)) (gName 3))
        (tSeq (tAsg (tOp (rI CDivW fun i j => V.int (i / j)) (tOp (rIx K) (tVar 2) (tC (V.int 0))) (tVar 1)) (gSub (tVar 2) (tC (V.int 0)) rSetL)) (tRet (tVar 3)))) E [some (.ref a), some (.int m), some (.ref pp), s3, s4] H1 := fun hb => by
      refine ⟨.ref pp, rfl, .inl ⟨pp, _, 0, .int x, rfl, rfl, .inl (.inl g1), rfl, ?_⟩⟩
      refine ⟨.int m, rfl, x, m, rfl, rfl, hm, ?_⟩
      refine ⟨.ref pp, rfl, .inl ⟨pp, _, 0, .int x, rfl, rfl, .inl (.inl g1), rfl, ?_⟩⟩
      refine ⟨.int m, rfl, x, m, rfl, rfl, ⟨hm, ml⟩, ?_⟩
      refine ⟨.ref pp, rfl, pp, _, 0, 0, rfl, rfl, g1, rfl, ?_⟩
      refine ⟨.int (x % m), rfl, ?_⟩
      have I2 := ((draw_iv (q' := drNew (x, y, z) m) I rfl rfl h1 h2 h3 h4 hp).junk (i := 2) (x := some (.ref pp)) (by decide) rfl).junk (i := 3) (x := some (.int (x % m))) (by decide) rfl
      have en : drNew (x, y, z) m = (x / m, y, z) := by
        unfold drNew
        rw [show (eqB (x, y, z).2.1 1 && ltB 0 (x, y, z).1) = true from hb]
        rfl
      have ev : drVal (x, y, z) m = x % m := by
        unfold drVal
        rw [show (eqB (x, y, z).2.1 1 && ltB 0 (x, y, z).1) = true from hb]
        rfl
      rw [en] at I2
      have p := p
      rw [en, ev] at p
      exact p B _ _ _ (Same.refl B) I2 (.int _)
    have go2 : (eqB y 1 && ltB 0 x) = false → ∀ u : Option V, u = s3 → (tSeq (tAsg (tOp rAddD (tOp (rIx K) (tVar 2) (tC (V.int 2))) (tC (V.int 1))) (gSub (tVar 2) (tC (V.int 2)) rSetL))
  (tSeq (tAsg (tOp rAddD (tOp (rI (fun _ j => 0 < j) fun i j => V.int (i % j)) (tOp (rIx K) (tVar 2) (tC (V.int 0))) (tC (V.int 162259276829213363391578010288127))) (tOp rMulD (tC (V.int 1299709)) (tOp (rIx K) (tVar 2) (tC (V.int 2))))) (gName 4))
  (tSeq (tAsg (tOp (rI (fun _ j => 0 < j) fun i j => V.int (i % j)) (tOp (rI CPowW fun i j => V.int (i ^ j.toNat)) (tVar 4) (tC (V.int 3))) (tC (V.int 618970019642690137449562111))) (gName 4))
  (tSeq (tAsg (tOp (rI (fun _ j => 0 < j) fun i j => V.int (i % j)) (tOp (rI CPowW fun i j => V.int (i ^ j.toNat)) (tOp rAddD (tVar 4) (tOp rMulD (tC (V.int 15485863)) (tOp (rIx K) (tVar 2) (tC (V.int 2))))) (tC (V.int 3))) (tC (V.int 162259276829213363391578010288127))) (gName 4))
  (tRet (tOp (rI (fun _ j => 0 < j) fun i j => V.int (i % j)) (tOp (rI CDivW fun i j => V.int (i / j)) (tVar 4) (tC (V.int 1048576))) (tVar 1)))))))  E [some (.ref a), some (.int m), some (.ref pp), u, s4] H1 := fun hb u hu => by
      subst hu
      refine ⟨.ref pp, rfl, .inl ⟨pp, _, 2, .int z, rfl, rfl, .inl (.inl g1), rfl, ?_⟩⟩
      refine .inl ⟨z, 1, rfl, rfl, ?_⟩
      refine ⟨.ref pp, rfl, pp, _, 2, 2, rfl, rfl, g1, rfl, ?_⟩
      have g2 : upd H1 pp (.lst [.int x, .int y, .int (z + 1)]) pp = some (.lst [.int x, .int y, .int (z + 1)]) := upd_same
      have x0 := Int.emod_nonneg x (b := 162259276829213363391578010288127) (by omega)
      have x1 := Int.emod_lt_of_pos x (b := 162259276829213363391578010288127) (by omega)
      have e0 := Int.emod_nonneg ((x % 162259276829213363391578010288127 + 1299709 * (z + 1)) ^ 3) (b := 618970019642690137449562111) (by omega)
      have e1 := Int.emod_lt_of_pos ((x % 162259276829213363391578010288127 + 1299709 * (z + 1)) ^ 3) (b := 618970019642690137449562111) (by omega)
      refine ⟨.ref pp, rfl, .inl ⟨pp, _, 0, .int x, rfl, rfl, .inl (.inl g2), rfl, ?_⟩⟩
      refine ⟨x, 162259276829213363391578010288127, rfl, rfl, (show (0 : Int) < 162259276829213363391578010288127 by omega), ?_⟩
      refine ⟨.ref pp, rfl, .inl ⟨pp, _, 2, .int (z + 1), rfl, rfl, .inl (.inl g2), rfl, ?_⟩⟩
      refine .inl ⟨1299709, z + 1, rfl, rfl, mul_small (by omega) (by omega) (by omega) (by omega), ?_⟩
      refine .inl ⟨_, _, rfl, rfl, ?_⟩
      refine ⟨_, rfl, _, 3, rfl, rfl, pow3_ok (by omega) (by omega), ?_⟩
      refine ⟨_, 618970019642690137449562111, rfl, rfl, (show (0 : Int) < 618970019642690137449562111 by omega), ?_⟩
      refine ⟨_, rfl, ?_⟩
      refine ⟨.ref pp, rfl, .inl ⟨pp, _, 2, .int (z + 1), rfl, rfl, .inl (.inl g2), rfl, ?_⟩⟩
      refine .inl ⟨15485863, z + 1, rfl, rfl, mul_small (by omega) (by omega) (by omega) (by omega), ?_⟩
      refine .inl ⟨_, _, rfl, rfl, ?_⟩
      refine ⟨_, 3, rfl, rfl, pow3_ok (show 0 ≤ (x % 162259276829213363391578010288127 + 1299709 * (z + 1)) ^ 3 % 618970019642690137449562111 + 15485863 * (z + 1) by omega) (show (x % 162259276829213363391578010288127 + 1299709 * (z + 1)) ^ 3 % 618970019642690137449562111 + 15485863 * (z + 1) < 2 ^ 200 by omega), ?_⟩
      refine ⟨_, 162259276829213363391578010288127, rfl, rfl, (show (0 : Int) < 162259276829213363391578010288127 by omega), ?_⟩
      refine ⟨_, rfl, _, 1048576, rfl, rfl, ⟨by decide, by decide +kernel⟩, ?_⟩
      refine ⟨.int m, rfl, _, m, rfl, rfl, hm, ?_⟩
      have I2 := ((draw_iv (q' := drNew (x, y, z) m) I rfl rfl h1 h2 h3 h4 hp).junk (i := 2) (x := some (.ref pp)) (by decide) rfl).junk (i := 4) (x := some (.int (drMix x (z + 1)))) (by decide) rfl
      have en : drNew (x, y, z) m = (x, y, z + 1) := by
        unfold drNew
        rw [show (eqB (x, y, z).2.1 1 && ltB 0 (x, y, z).1) = false from hb]
        rfl
      have ev : drVal (x, y, z) m = drMix x (z + 1) / 1048576 % m := by
        unfold drVal
        rw [show (eqB (x, y, z).2.1 1 && ltB 0 (x, y, z).1) = false from hb]
        rfl
      rw [en] at I2
      have p := p
      rw [en, ev] at p
      exact p B _ _ _ (Same.refl B) I2 (.int _)
    have ey : PyData.eqv (.int y) (.int 1) = eqB y 1 := by
      simp only [PyData.eqv]
      exact beq_dec
    rw [ey]
    cases hy : eqB y 1 with
    | false =>
      dsimp only
      rw [if_neg (by decide)]
      rw [if_neg (by decide)]
      exact go2 (by rw [hy]; rfl) s3 rfl
    | true =>
      dsimp only
      rw [if_pos rfl]
      refine ⟨.ref pp, rfl, .inl ⟨pp, _, 0, .int x, rfl, rfl, .inl (.inl g1), rfl, ?_⟩⟩
      refine ⟨x, 0, rfl, rfl, _, rfl, ?_⟩
      cases hx : ltB 0 x with
      | true =>
        rw [if_pos (show decide (0 < x) = true from hx)]
        exact go1 (by rw [hy, hx]; rfl)
      | false =>
        rw [if_neg (by rw [show decide (0 < x) = false from hx]; decide)]
        exact go2 (by rw [hy, hx]; rfl) s3 rfl
  · exact p.elim

/-! the data's side of blocks -/
theorem x_slB {t : Bd} : (Rv.bk t).sl = Sl.bk t := (rfl)
theorem u_bk {t : Bd} {as rs : Env} {r : Sl} : outs (.bk t :: as) (r :: rs) = r :: outs as rs := (rfl)
theorem x_fr4 {t : Bd} : frE (.bk t :: ρ) = frB t :: frE ρ := (rfl)
theorem x_frD {ps : List T3} {n : Int} : frB (.deck ps n) = .no := (rfl)
theorem x_frP {ps : List T3} : frB (.pile ps) = .no := (rfl)
theorem x_frM {xs : List Rt} : frB (.mix false xs) = .im (.lst (xs.map Rt.d)) := (rfl)
theorem x_frT {xs : List Rt} : frB (.mix true xs) = .im (.tup (xs.map Rt.d)) := (rfl)
theorem args_b {i : Nat} {t : Bd} {as : List Av} {bs : Env} (h : ρ[i]? = some (.bk t)) (h2 : argsOf ρ as = some bs) : argsOf ρ (.sl i :: as) = some (.bk t :: bs) := by
  rw [argsOf]
  rw [h]
  simp only [h2, Option.map_some]
section
variable {i : Nat} {t : Bd} {rv : Rv} {d e f g : D}
theorem x_doB {F : Env → R Rv} {b : Sl} (h0 : ρ[i]? = some (.bk t)) (h : F [.bk t] = .ok rv [b]) : doCall 1 F [.sl i] ρ = .ok rv (ρ.set i b) := by
  exact (x_do (n := 1) (avs := [.sl i]) rfl (by simp [slots]) (args_b h0 rfl) h).trans rfl
theorem x_doBI {F : Env → R Rv} {b c : Sl} (h0 : ρ[i]? = some (.bk t)) (h : F [.bk t, .im d] = .ok rv [b, c]) : doCall 2 F [.sl i, .im d] ρ = .ok rv (ρ.set i b) := by
  exact (x_do (n := 2) (avs := [.sl i, .im d]) rfl (by simp [slots]) (args_b h0 rfl) h).trans rfl
theorem x_doBII {F : Env → R Rv} {b c c' : Sl} (h0 : ρ[i]? = some (.bk t)) (h : F [.bk t, .im d, .im e] = .ok rv [b, c, c']) : doCall 3 F [.sl i, .im d, .im e] ρ = .ok rv (ρ.set i b) := by
  exact (x_do (n := 3) (avs := [.sl i, .im d, .im e]) rfl (by simp [slots]) (args_b h0 rfl) h).trans rfl
theorem x_doBIII {F : Env → R Rv} {b c c' c'' : Sl} (h0 : ρ[i]? = some (.bk t)) (h : F [.bk t, .im d, .im e, .im f] = .ok rv [b, c, c', c'']) : doCall 4 F [.sl i, .im d, .im e, .im f] ρ = .ok rv (ρ.set i b) := by
  exact (x_do (n := 4) (avs := [.sl i, .im d, .im e, .im f]) rfl (by simp [slots]) (args_b h0 rfl) h).trans rfl
theorem x_doBIIII {F : Env → R Rv} {b c c' c'' c3 : Sl} (h0 : ρ[i]? = some (.bk t)) (h : F [.bk t, .im d, .im e, .im f, .im g] = .ok rv [b, c, c', c'', c3]) : doCall 5 F [.sl i, .im d, .im e, .im f, .im g] ρ = .ok rv (ρ.set i b) := by
  exact (x_do (n := 5) (avs := [.sl i, .im d, .im e, .im f, .im g]) rfl (by simp [slots]) (args_b h0 rfl) h).trans rfl
end
def setPK (rv : Rv) (i : Nat) (ρ : Env) : Out :=
  match rv with
  | .own [] => .nx (ρ.set i (.bk (.pile [])))
  | _ => .bad
theorem x_setP {i : Nat} {f : Env → R Rv} : sSetP i f ρ = (f ρ).toO fun rv ρ => setPK rv i ρ := (rfl)
theorem x_setPK {i : Nat} : setPK (.own []) i ρ = .nx (ρ.set i (.bk (.pile []))) := (rfl)
theorem x_appP {i : Nat} {f : Env → R Rv} {ps : List T3} {x y z : Int} {ρ' : Env} (h : ρ[i]? = some (.bk (.pile ps))) (hf : f ρ = .ok (.own [.int x, .int y, .int z]) ρ') (h2 : ρ'[i]? = some (.bk (.pile ps))) (hl : ps.length < 1000) :
    sAppP i f ρ = .nx (ρ'.set i (.bk (.pile (ps ++ [(x, y, z)])))) := by
  unfold sAppP
  rw [h]
  show (f ρ).toO _ = _
  rw [hf]
  show (match ρ'[i]?, Rv.own [.int x, .int y, .int z] with | some (.bk (.pile ps)), .own ds => _ | _, _ => Out.bad) = _
  rw [h2]
  exact if_pos hl
theorem x_eDeck {i : Nat} {ps : List T3} (h : ρ[i]? = some (.bk (.pile ps))) : eDeck i ρ = .ok (.bk (.deck ps 0)) (ρ.set i .no) := by
  unfold eDeck
  rw [h]
/-- a deck's piles and its place -/
abbrev Dkt := List T3 × Int
abbrev dkS (δ : Dkt) : Sl := .bk (.deck δ.1 δ.2)
/-- a deck that is drawn from at most N times so far -/
structure Dk (N : Nat) (δ : Dkt) : Prop where
  ne : δ.1 ≠ []
  n0 : 0 ≤ δ.2
  c : ∀ q ∈ δ.1, 0 ≤ q.2.2 ∧ q.2.2 ≤ 3000 + N
theorem Dk.mono {N M : Nat} {δ : Dkt} (S : Dk N δ) (h : N ≤ M) : Dk M δ := ⟨S.ne, S.n0, fun q hq => ⟨(S.c q hq).1, by have := (S.c q hq).2; omega⟩⟩
theorem mem_set_of {α : Type} : ∀ {xs : List α} {i : Nat} {a x : α}, x ∈ xs.set i a → x ∈ xs ∨ x = a
  | [], _, _, _, h => by cases h
  | y :: ys, 0, a, x, h => by
    rcases List.mem_cons.mp h with h | h
    · exact .inr h
    · exact .inl (List.mem_cons_of_mem _ h)
  | y :: ys, i + 1, a, x, h => by
    rcases List.mem_cons.mp h with h | h
    · exact .inl (by rw [h]; exact List.mem_cons_self)
    · rcases mem_set_of (xs := ys) h with h | h
      · exact .inl (List.mem_cons_of_mem _ h)
      · exact .inr h
theorem draw_ok {N : Nat} {δ : Dkt} {m : Int} (S : Dk N δ) (hN : N < 1000000000) (hm : 1 ≤ m) (hm2 : m < 2 ^ 150) :
    ∃ r δ', runDef 5 [0] g_draw [dkS δ, .im (.int m)] = .ok (.im (.int r)) [dkS δ', .im (.int m)] ∧ 0 ≤ r ∧ r < m ∧ Dk (N + 1) δ' := by
  obtain ⟨ps, n⟩ := δ
  obtain ⟨h1, h2, h3⟩ := S
  have hpos : 0 < ps.length := by
    cases ps with
    | nil => exact absurd rfl h1
    | cons _ _ => simp
  have hr0 := Int.emod_nonneg n (b := (ps.length : Int)) (by omega)
  have hr1 := Int.emod_lt_of_pos n (b := (ps.length : Int)) (by omega)
  have hj : (n % (ps.length : Int)).toNat < ps.length := by omega
  generalize ej : (n % (ps.length : Int)).toNat = j at hj
  have hq : ps[j]? = some ps[j] := List.getElem?_eq_getElem hj
  have hqm : ps[j] ∈ ps := List.getElem_mem _
  generalize ps[j] = q at hq hqm
  have ho : drOk ps n m = true := by
    unfold drOk
    simp only [Bool.and_eq_true]
    refine ⟨⟨⟨List.all_eq_true.mpr fun x hx => ?_, decide_eq_true h2⟩, decide_eq_true (by omega)⟩, decide_eq_true (by omega)⟩
    have := h3 x hx
    unfold okT3
    rw [Bool.and_eq_true]
    exact ⟨decide_eq_true this.1, decide_eq_true (show x.2.2 < 2 ^ 100 by have := this.2; omega)⟩
  refine ⟨drVal q m, (ps.set j (drNew q m), n + 1), ?_, ?_, ?_, ?_, ?_, ?_⟩
  · rw [x_run rfl]
    show endOf _ (g_draw [.bk (.deck ps n), .im (.int m), .no, .no, .no]) = _
    show endOf _ (cond (drOk ps n m) (match ps[(n % (ps.length : Int)).toNat]? with | some q => _ | none => Out.bad) .bad) = _
    rw [ho, ej, hq]
    rfl
  · unfold drVal
    cases (eqB q.2.1 1 && ltB 0 q.1) <;> exact Int.emod_nonneg _ (by omega)
  · unfold drVal
    cases (eqB q.2.1 1 && ltB 0 q.1) <;> exact Int.emod_lt_of_pos _ (by omega)
  · intro z
    have := congrArg List.length z
    rw [List.length_set] at this
    exact absurd this (by simp; omega)
  · show 0 ≤ n + 1
    have : 0 ≤ n := h2
    omega
  · intro x hx
    rcases mem_set_of hx with hx | hx
    · have := h3 x hx
      exact ⟨this.1, by have := this.2; omega⟩
    · subst hx
      have := h3 q hqm
      unfold drNew
      cases (eqB q.2.1 1 && ltB 0 q.1)
      · exact ⟨show 0 ≤ q.2.2 + 1 by omega, show q.2.2 + 1 ≤ 3000 + ((N + 1 : Nat) : Int) by have := this.2; omega⟩
      · exact ⟨this.1, by have := this.2; show q.2.2 ≤ _; omega⟩
end
end DL

/-! DL, part l: while -/
namespace DL
open PySem PySem.Spec PyProof.Rows L2
def dWhile (t : Env → R Bool) (g : Env → Out) : Nat → Env → Out
  | 0, _ => .bad
  | n + 1, ρ => (t ρ).toO fun c ρ => cond c
      (match g ρ with
      | .nx ρ' => dWhile t g n ρ'
      | .ct ρ' => dWhile t g n ρ'
      | .brk ρ' => .nx ρ'
      | o => o) (.nx ρ)
/-- while, of at most n turns -/
def sWhile (n : Nat) (t : Env → R Bool) (g : Env → Out) : Env → Out := dWhile t g n
section
variable {K : PySem.W.Frag} {W : WX} {ks : List Nat} {tc : TT} {tb : TS} {t : Env → R Bool} {g : Env → Out}
theorem ds_while {n : Nat} (hc : DT K W tc t) (hb : DS K W ks tb g) : DS K W ks (tWhile tc tb) (sWhile n t g) := fun σ0 Fm B H σ ρ E I p => by
  refine ⟨fun m σ' H' => ∃ B' ρ', IV K ks σ0 Fm B' H' σ' ρ' ∧ PtS K ks σ0 Fm W B' E (dWhile t g m ρ'), ⟨n, B, ρ, I, p⟩, ?_⟩
  rintro m σ' H' ⟨B', ρ', I', p'⟩
  cases m with
  | zero => exact p'.elim
  | succ m =>
    have p' : PtS K ks σ0 Fm W B' E ((t ρ').toO fun c ρ => cond c (match g ρ with | .nx ρ' => dWhile t g m ρ' | .ct ρ' => dWhile t g m ρ' | .brk ρ' => .nx ρ' | o => o) (.nx ρ)) := p'
    refine hc ks σ0 Fm B' H' σ' ρ' _ I' (PtS.step p' fun c ρ1 B1 H1 b s1 I1 v1 p1 => ?_)
    cases (show b = c from v1)
    cases c with
    | false =>
      rw [if_neg Bool.false_ne_true]
      exact p1 B1 H1 σ' (Same.refl B1) I1
    | true =>
      rw [if_pos rfl]
      have p1 : PtS K ks σ0 Fm W B1 E (match g ρ1 with | .nx ρ' => dWhile t g m ρ' | .ct ρ' => dWhile t g m ρ' | .brk ρ' => .nx ρ' | o => o) := p1
      refine ⟨fun σ2 H2 => ∃ B2 ρ2, IV K ks σ0 Fm B2 H2 σ2 ρ2 ∧ PtS K ks σ0 Fm W B2 E (dWhile t g m ρ2), fun σ2 H2 ⟨B2, ρ2, b, c⟩ => ⟨m, Nat.lt_succ_self m, B2, ρ2, b, c⟩, ?_⟩
      · refine hb σ0 Fm B1 H1 σ' ρ1 _ I1 ?_
        cases eg : g ρ1 with
        | nx ρ4 =>
          rw [eg] at p1
          exact fun B4 H4 σ4 s4 I4 => ⟨B4, ρ4, I4, PtS.mono p1 s4⟩
        | ct ρ4 =>
          rw [eg] at p1
          exact fun B4 H4 σ4 s4 I4 => ⟨B4, ρ4, I4, PtS.mono p1 s4⟩
        | brk ρ4 =>
          rw [eg] at p1
          exact fun B4 H4 σ4 s4 I4 => p1 B4 H4 σ4 s4 I4
        | ret rv ρ4 =>
          rw [eg] at p1
          exact fun B4 H4 σ4 v s4 I4 x4 => p1 B4 H4 σ4 v s4 I4 x4
        | exc C dd ρ4 =>
          rw [eg] at p1
          exact fun B4 H4 σ4 dx s4 I4 x4 => p1 B4 H4 σ4 dx s4 I4 x4
        | bad =>
          rw [eg] at p1
          exact p1.elim
/-- what holds ahead of each turn, and a number that falls -/
theorem dWhile_run {P : Nat → Env → Prop} {Q : Env → Prop} (hs : ∀ m ρ, P m ρ → (∃ ρ1, t ρ = .ok false ρ1 ∧ Q ρ1) ∨ ∃ ρ1 ρ2 m', t ρ = .ok true ρ1 ∧ (g ρ1 = .nx ρ2 ∨ g ρ1 = .ct ρ2) ∧ m' < m ∧ P m' ρ2) : ∀ {n m : Nat} {ρ : Env}, P m ρ → m < n → ∃ ρ', dWhile t g n ρ = .nx ρ' ∧ Q ρ'
  | 0, _, _, _, h => absurd h (Nat.not_lt_zero _)
  | n + 1, m, ρ, h, hm => by
    rcases hs m ρ h with ⟨ρ1, e, q⟩ | ⟨ρ1, ρ2, m', e, eg, hm', p⟩
    · refine ⟨ρ1, ?_, q⟩
      show (t ρ).toO _ = _
      rw [e]
      rfl
    · obtain ⟨ρ', e2, q⟩ := dWhile_run hs (n := n) p (by omega)
      refine ⟨ρ', ?_, q⟩
      rw [← e2]
      show (t ρ).toO _ = _
      rw [e]
      show (match g ρ1 with | .nx ρ' => dWhile t g n ρ' | .ct ρ' => dWhile t g n ρ' | .brk ρ' => Out.nx ρ' | o => o) = _
      rcases eg with eg | eg <;> rw [eg]
theorem x_while {n : Nat} {ρ : Env} : sWhile n t g ρ = dWhile t g n ρ := (rfl)
end
end DL

/-! max of a tuple of two numbers -/
namespace DL
open PySem PySem.Spec PyProof.Rows L2
section
variable {K : PySem.W.Frag}
def rMaxT (K : PySem.W.Frag) : List V → Hp → VK → Prop := fun vs H Q => ∃ (a : Addr) (n m : Int), vs = [V.ref a] ∧ SqT K H a [V.int n, V.int m] ∧ Q (.int (if n < m then m else n)) H
theorem cr_maxT {X : Cx} (hc : X.calm = true) (hu : X.A.units + 64 < cLine) : CallR X (.builtin "max") (rMaxT X.K) := by
  intro pins s σ H vs us Q I r h
  obtain ⟨a, n, m, rfl, hs, q⟩ := h
  obtain ⟨its, rv, hl, _⟩ := I.tuple hs
  rw [Vals.ref1 r]
  cases rv with
  | cons r1 rv =>
    cases rv with
    | cons r2 rv =>
      cases rv
      obtain ⟨t1, rfl⟩ := r1
      obtain ⟨t2, rfl⟩ := r2
      refine PySem.W.max_tuple_datum (α := Int) (x := n) (xs := [m]) (I.ok.hd hc) hl ⟨_, .cons (.int n t1) (.cons (.int m t2) .nil)⟩ (by show X.A.units + 1 + 0 < cLine; omega) fun i v h' tk hi hv hk => ?_
      obtain ⟨as, hv⟩ := hv
      have e : PySem.W.maxOf n [m] = if n < m then m else n := by
        show (if decide (n < m) = true then m else n) = _
        by_cases z : n < m
        · rw [if_pos z, if_pos (decide_eq_true z)]
        · rw [if_neg z, if_neg (by rw [decide_eq_false z]; exact Bool.false_ne_true)]
      rw [e] at hv
      have hv : Reads h' v (.int (if n < m then m else n)) as := hv
      cases hv with
      | int _ t => exact ⟨.int _, H, I.kept hk, ⟨_, rfl⟩, q⟩
theorem cr_maxTK {X : Cx} (e : X.K = K) (hc : X.calm = true) (hu : X.A.units + 64 < cLine) : CallR X (.builtin "max") (rMaxT K) := by subst e; exact cr_maxT hc hu
def bMaxT : List D → Option Rv
  | [.tup [.int n, .int m]] => some (.im (.int (if n < m then m else n)))
  | _ => none
theorem x_maxT {n m : Int} : bMaxT [.tup [.int n, .int m]] = some (.im (.int (if n < m then m else n))) := (rfl)
theorem cd_maxT : CbD K (rMaxT K) bMaxT := by
  intro ks σ0 Fm B H σ ρ xs ds rv Q I hx e q
  unfold bMaxT at e
  split at e
  · rename_i n m
    cases e
    obtain ⟨v, rfl, h⟩ := isA_1 hx
    obtain ⟨a, ys, rfl, ha, k⟩ := h.tupV
    have hys : ys = [.int n, .int m] := by
      have := isA_int (ns := [n, m]) k
      exact this
    rw [hys] at ha
    exact ⟨a, n, m, rfl, .inl (.inl (I.ex _ _ ha)), q B H _ (Same.refl B) I (.int _)⟩
  · cases e
end
end DL

/-! DL, part p: except X as e, with e.f in the suite -/
namespace DL
open PySem PySem.Spec PyProof.Rows L2
/-- try: g; except c as (slot i): x (slot j) = what wr makes of e.f -/
def catchF (c : Addr) (i j : Nat) (f : Str) (wr : D → D) (o : Out) : Out :=
  match o with
  | .exc C d ρ =>
    match isC c C, d, ρ[i]? with
    | some true, some (nm, x), some _ => if nm = f then .nx (((ρ.set i .no).set j (.im (wr x))).set i .no) else .bad
    | _, _, _ => .bad
  | o => o
def sTryF (c : Addr) (i j : Nat) (f : Str) (wr : D → D) (g : Env → Out) : Env → Out := fun ρ => catchF c i j f wr (g ρ)
theorem x_tryF {c : Addr} {i j : Nat} {f : Str} {wr : D → D} {g : Env → Out} {ρ : Env} : sTryF c i j f wr g ρ = catchF c i j f wr (g ρ) := (rfl)
theorem x_catchFN {c : Addr} {i j : Nat} {f : Str} {wr : D → D} {ρ : Env} : catchF c i j f wr (.nx ρ) = .nx ρ := (rfl)
theorem x_catchFR {c : Addr} {i j : Nat} {f : Str} {wr : D → D} {ρ : Env} {rv : Rv} : catchF c i j f wr (.ret rv ρ) = .ret rv ρ := (rfl)
theorem x_catchFX {c : Addr} {i j : Nat} {f : Str} {wr : D → D} {ρ : Env} {x : D} {s : Sl} (e : ρ[i]? = some s) : catchF c i j f wr (.exc c (some (f, x)) ρ) = .nx (((ρ.set i .no).set j (.im (wr x))).set i .no) := by
  unfold catchF
  simp only [isC_t, e, if_true]
def wrTag (s : Str) (x : D) : D := .tup [.str s, x]
section
variable {K : PySem.W.Frag} {W : WX} {ks : List Nat}
theorem IV.setNo {σ0 : L2.St} {Fm B H : Hp} {σ : L2.St} {ρ : Env} {i : Nat} (z : Option V) (I : IV K ks σ0 Fm B H σ ρ) (hi : i ∉ ks) : IV K ks σ0 Fm B H (σ.set i z) (ρ.set i .no) := by
  have sub : ∀ {j : Nat} {x : Sl}, x ≠ .no → (ρ.set i .no)[j]? = some x → i ≠ j ∧ ρ[j]? = some x := fun {j x} hx h => by
    rcases set_sub h with ⟨_, e, _⟩ | h
    · exact absurd e.symm hx
    · exact h
  refine ⟨I.ex, I.fr, I.fb, by rw [List.length_set, List.length_set]; exact I.len, fun j e hj => ?_, fun j es hj => ?_, fun j k ds es a hjk h1 h2 h3 h4 => ?_, fun j hj => ?_, I.bs.set (by intro t z; cases z) (by intro ds z; cases z) (Same.refl B)⟩
  · obtain ⟨n, hj⟩ := sub (by intro z; cases z) hj
    rw [List.getElem?_set_ne n]
    exact I.im j e hj
  · obtain ⟨n, hj⟩ := sub (by intro z; cases z) hj
    rw [List.getElem?_set_ne n]
    exact I.own j es hj
  · obtain ⟨n1, h1⟩ := sub (by intro z; cases z) h1
    obtain ⟨n2, h2⟩ := sub (by intro z; cases z) h2
    rw [List.getElem?_set_ne n1] at h3
    rw [List.getElem?_set_ne n2] at h4
    exact I.dj j k ds es a hjk h1 h2 h3 h4
  · have hij : i ≠ j := fun z => hi (by rw [z]; exact hj)
    rw [List.getElem?_set_ne hij]
    exact I.pin j hj
theorem xX_bind {α β : Type} {C : Addr} {d : Option (Str × D)} {ρ : DL.Env} {k : α → DL.Env → R β} : (R.exc C d ρ : R α).bind k = .exc C d ρ := (rfl)
theorem xX_toO {α : Type} {C : Addr} {d : Option (Str × D)} {ρ : DL.Env} {k : α → DL.Env → Out} : (R.exc C d ρ : R α).toO k = .exc C d ρ := (rfl)
theorem xX_seq {C : Addr} {d : Option (Str × D)} {ρ : DL.Env} {k : DL.Env → Out} : (Out.exc C d ρ).seq k = .exc C d ρ := (rfl)
theorem xX_end {C : Addr} {d : Option (Str × D)} {ρ as : DL.Env} : endOf as (.exc C d ρ) = .exc C d (outs as ρ) := (rfl)
theorem xX_do3 {F : DL.Env → R Rv} {d e f : D} {C : Addr} {x : Option (Str × D)} {ρ as' : DL.Env} (h : F [.im d, .im e, .im f] = .exc C x as') : doCall 3 F [.im d, .im e, .im f] ρ = .exc C x ρ := by
  unfold doCall
  rw [if_pos ⟨rfl, by simp [slots]⟩]
  show backTo1 _ _ (F [.im d, .im e, .im f]) = _
  rw [h]
  show R.exc C x (putBack [.im d, .im e, .im f] as' ρ) = _
  rw [pb_ims3]
/-- what the suite makes of a value -/
def WrOk (K : PySem.W.Frag) (tw : TE → TE) (wr : D → D) : Prop := ∀ (te : TE) ks σ0 Fm B H σ ρ v x (Q : VK), IV K ks σ0 Fm B H σ ρ → Is K B v x → (∀ Q' : VK, Q' v H → te σ H Q') →
  (∀ B' H' w, Same B B' → IV K ks σ0 Fm B' H' σ ρ → Is K B' w (wr x) → Q w H') → tw te σ H Q
theorem wr_id : WrOk K (fun te => te) (fun x => x) := fun te ks σ0 Fm B H σ ρ v x Q I h g q => g Q (q B H v (Same.refl B) I h)
theorem wr_tag {s : Str} : WrOk K (fun te => tTup (tCons (tC (.str s)) (tCons te tNil))) (wrTag s) := fun te ks σ0 Fm B H σ ρ v x Q I h g q => by
  refine g _ ⟨by show 2 ≤ sizeLine; decide, fun p hp => ?_⟩
  have s2 := same_upd (o := .tup [.str s, v]) (I.ex.free hp)
  exact q _ _ _ s2 (I.laid hp) (.tup upd_same (.cons (.str s) (.cons (h.mono s2) .nil)))
theorem ds_tryF {tb : WX → TS} {tw : TE → TE} {c : Addr} {i j : Nat} {f : Str} {wr : D → D} {g : Env → Out} (hi : i ∉ ks) (hj : j ∉ ks) (hm : PySem.W.exmOne K (.ref c) (.ref c) = some true) (hw : WrOk K tw wr) (hb : ∀ W, DS K W ks (tb W) g) :
    DS K W ks (fun D σ H => tb (wAs K (.ref c) i (fun a cls d => tAsg (tw (tXf a cls d c f (tVar i))) (gName j)) W D) D σ H) (sTryF c i j f wr g) := fun σ0 Fm B H σ ρ E I p =>
  hb _ σ0 Fm B H σ ρ E I (by
    have p : PtS K ks σ0 Fm W B E (catchF c i j f wr (g ρ)) := p
    cases e : g ρ with
    | exc C d ρ' =>
      rw [e] at p
      unfold catchF at p
      intro B' H' σ' dx s' I' x
      by_cases hC : C = c
      · subst hC
        simp only [isC_t] at p
        cases d with
        | none => exact p.elim
        | some nx =>
          obtain ⟨nm, y⟩ := nx
          cases hr : ρ'[i]? with
          | none => simp only [hr] at p; exact p.elim
          | some sl =>
            simp only [hr] at p
            by_cases hn : nm = f
            · subst hn
              simp only [if_true] at p
              refine ⟨true, hm, fun _ a na => ?_, fun z => by cases z⟩
              obtain ⟨q, v, rfl, hq, hv⟩ := x
              have hl : i < σ'.length := by rw [I'.len]; exact (List.getElem?_eq_some_iff.mp hr).1
              refine hw _ ks σ0 Fm B' H' _ _ v y _ (I'.setNo (some (.ref a)) hi) hv (fun Q' q' => ?_) fun B2 H2 w s2 I2 h2 => ?_
              · exact ⟨.ref a, List.getElem?_set_self hl, rfl, rfl, q, [(nm, v)], v, rfl, I'.ex _ _ hq, by simp [List.lookup], q'⟩
              · exact p B2 H2 _ (s'.trans s2) ((I2.setIm hj h2).setNo none hi)
            · simp only [if_neg hn] at p
              exact p.elim
      · have hc : isC c C = none := by unfold isC; rw [if_neg hC]
        simp only [hc] at p
        exact p.elim
    | nx ρ' => rw [e] at p; exact p
    | ret rv ρ' => rw [e] at p; exact p
    | brk ρ' => rw [e] at p; exact p
    | ct ρ' => rw [e] at p; exact p
    | bad => rw [e] at p; exact p.elim)
end
end DL

/-! min of a list of pairs of numbers -/
namespace DL
open PySem PySem.Spec PyProof.Rows L2
def pairV (H : Hp) (K : PySem.W.Frag) (x : V) (p : Int × Int) : Prop := ∃ b, x = .ref b ∧ SqT K H b [V.int p.1, V.int p.2]
abbrev minP (p : Int × Int) (ps : List (Int × Int)) : Int × Int := PySem.W.minOf p ps
section
variable {K : PySem.W.Frag}
def rMinP (K : PySem.W.Frag) : List V → Hp → VK → Prop := fun vs H Q => ∃ (a : Addr) (xs : List V) (p : Int × Int) (ps : List (Int × Int)), vs = [V.ref a] ∧ SqL K H a xs ∧ Paired (pairV H K) xs (p :: ps) ∧
  ∀ (i : Nat) x, xs[i]? = some x → (p :: ps)[i]? = some (minP p ps) → Q x H
theorem reads_pair {X : Cx} {pins : List (Addr × Obj)} {σ : L2.St} {H : Hp} {s : Shared} (I : Inv X pins σ H s) {b : Addr} {p : Int × Int} (h : SqT X.K H b [V.int p.1, V.int p.2]) : ∃ as, Reads s.heap (.ref b) (.tuple [.int p.1, .int p.2]) as :=
  Dp.reads I (.tuple [.int p.1, .int p.2]) (.ref b) (.ref b) (.tup h (.cons (.int _) (.cons (.int _) .nil))) rfl
theorem pair_of {X : Cx} {pins : List (Addr × Obj)} {σ : L2.St} {H : Hp} {s : Shared} (I : Inv X pins σ H s) {b : Addr} {p q : Int × Int} {as : List Addr} (h : SqT X.K H b [V.int p.1, V.int p.2]) (r : Reads s.heap (.ref b) (.tuple [.int q.1, .int q.2]) as) : p = q := by
  obtain ⟨p1, p2⟩ := p
  obtain ⟨q1, q2⟩ := q
  obtain ⟨its, rv, ⟨o, ho, hc, n, hd⟩, _⟩ := I.tuple h
  cases r with
  | tuple h1 h2 h3 h4 =>
    rw [ho] at h1
    cases h1
    rw [hd] at h3
    cases h3
    cases rv with
    | cons r1 rv =>
      cases rv with
      | cons r2 rv =>
        cases rv
        obtain ⟨t1, rfl⟩ := r1
        obtain ⟨t2, rfl⟩ := r2
        cases h4 with
        | cons g1 g2 =>
          cases g2 with
          | cons g3 g4 =>
            cases g1
            cases g3
            rfl
theorem reads_pairs {X : Cx} {pins : List (Addr × Obj)} {σ : L2.St} {H : Hp} {s : Shared} (I : Inv X pins σ H s) : ∀ {xs : List V} {ps : List (Int × Int)} {us : List Value}, Paired (pairV H X.K) xs ps → Vals xs us → ∃ as, ReadsAll s.heap us (ps.map PySem.W.Datum.toD) as
  | _, _, _, .nil, r => by
    cases r
    exact ⟨_, .nil⟩
  | _, _, _, .cons (b := p) h t, r => by
    cases r with
    | cons r1 r2 =>
      obtain ⟨b, rfl, hb⟩ := h
      cases r1
      obtain ⟨as, k1⟩ := reads_pair I hb
      obtain ⟨bs, k2⟩ := reads_pairs I t r2
      exact ⟨_, .cons k1 k2⟩
theorem pair_get {α β : Type} {R : α → β → Prop} : ∀ {xs : List α} {ys : List β} {i : Nat} {x : α}, Paired R xs ys → xs[i]? = some x → ∃ y, ys[i]? = some y ∧ R x y
  | _, _, _, _, .nil, h => by simp at h
  | _, _, 0, _, .cons h t, e => by
    simp at e
    subst e
    exact ⟨_, rfl, h⟩
  | _, _, i + 1, x, .cons h t, e => by
    obtain ⟨y, h1, h2⟩ := pair_get (i := i) (x := x) t (by simpa using e)
    exact ⟨y, by simpa using h1, h2⟩
theorem cr_minP {X : Cx} (hc : X.calm = true) (hu : X.A.units + 64 < cLine) : CallR X (.builtin "min") (rMinP X.K) := by
  intro pins s σ H vs us Q I r h
  obtain ⟨a, xs, p, ps, rfl, hs, hp, q⟩ := h
  obtain ⟨its, rv, hl, _⟩ := I.list hs
  rw [Vals.ref1 r]
  obtain ⟨as, hr⟩ := reads_pairs I hp rv
  refine PySem.W.min_list_datum (α := Int × Int) (x := p) (xs := ps) (I.ok.hd hc) hl.isList ⟨_, hr⟩ (by show X.A.units + 1 + _ < cLine; simp only [PySem.W.Datum.depth]; omega) fun i v h' tk hi hv hk => ?_
  obtain ⟨as, hv⟩ := hv
  have I' : Inv X pins σ H { s with heap := h', toks := tk } := I.kept hk
  have hi : its[i]? = some v := by simpa using hi
  have hi2 : i < its.length := (List.getElem?_eq_some_iff.mp hi).1
  have hlen : xs.length = its.length := Paired.length rv
  have hix : i < xs.length := by omega
  have hxi : xs[i]? = some xs[i] := List.getElem?_eq_getElem hix
  have hrel : RelV xs[i] v := by
    obtain ⟨w, hw, hr⟩ := Vals.get rv hxi
    rw [hi] at hw
    cases hw
    exact hr
  obtain ⟨z, hz, b, hb, hsq⟩ := pair_get hp (i := i) hxi
  rw [hb] at hrel
  cases hrel
  have e : z = minP p ps := pair_of I' (p := z) (q := minP p ps) hsq hv
  rw [e] at hz
  exact ⟨xs[i], H, I', by rw [hb]; rfl, q i _ hxi hz⟩
theorem cr_minPK {X : Cx} (e : X.K = K) (hc : X.calm = true) (hu : X.A.units + 64 < cLine) : CallR X (.builtin "min") (rMinP K) := by subst e; exact cr_minP hc hu
def pairD (p : Int × Int) : D := .tup [.int p.1, .int p.2]
def pairsOf : List D → Option (List (Int × Int))
  | [] => some []
  | .tup [.int i, .int j] :: r => (pairsOf r).map ((i, j) :: ·)
  | _ => none
theorem pairsOf_map : ∀ ps : List (Int × Int), pairsOf (ps.map pairD) = some ps
  | [] => rfl
  | p :: r => by
    show (pairsOf (r.map pairD)).map ((p.1, p.2) :: ·) = _
    rw [pairsOf_map r]
    rfl
theorem pairsOf_is : ∀ {ds : List D} {ps : List (Int × Int)}, pairsOf ds = some ps → ds = ps.map pairD
  | [], _, h => by cases h; rfl
  | d :: r, ps, h => by
    unfold pairsOf at h
    split at h
    · rename_i h0
      cases h0
    · rename_i i j r' h0
      cases h0
      cases e : pairsOf r with
      | none => rw [e] at h; cases h
      | some qs =>
        rw [e] at h
        cases h
        rw [pairsOf_is e]
        rfl
    · cases h
def bMinP : List D → Option Rv
  | [.lst ds] => (pairsOf ds).bind fun ps => match ps with
    | p :: r => some (.im (pairD (minP p r)))
    | [] => none
  | _ => none
theorem x_minP {p : Int × Int} {ps : List (Int × Int)} : bMinP [.lst ((p :: ps).map pairD)] = some (.im (pairD (minP p ps))) := by
  show (pairsOf ((p :: ps).map pairD)).bind _ = _
  rw [pairsOf_map]
  rfl
theorem minOf_mem (p : Int × Int) : ∀ ps : List (Int × Int), minP p ps ∈ p :: ps := fun ps => by
  induction ps generalizing p with
  | nil => exact List.mem_cons_self
  | cons y ys ih =>
    show PySem.W.minOf (if PySem.W.DatumOrd.lt y p = true then y else p) ys ∈ _
    have h := ih (if PySem.W.DatumOrd.lt y p = true then y else p)
    rcases List.mem_cons.mp h with h | h
    · rw [show PySem.W.minOf (if PySem.W.DatumOrd.lt y p = true then y else p) ys = _ from h]
      split
      · exact List.mem_cons_of_mem _ List.mem_cons_self
      · exact List.mem_cons_self
    · exact List.mem_cons_of_mem _ (List.mem_cons_of_mem _ h)
theorem isPair {B : Hp} : ∀ {xs : List V} {ps : List (Int × Int)}, IsA K B xs (ps.map pairD) → Paired (pairV B K) xs ps
  | _, [], .nil => .nil
  | _, p :: r, .cons h t => by
    refine .cons ?_ (isPair t)
    obtain ⟨a, ys, rfl, ha, k⟩ := (show Is K B _ (.tup [.int p.1, .int p.2]) from h).tupV
    have hys : ys = [.int p.1, .int p.2] := isA_int (ns := [p.1, p.2]) k
    rw [hys] at ha
    exact ⟨a, rfl, .inl (.inl ha)⟩
theorem cd_minP : CbD K (rMinP K) bMinP := by
  intro ks σ0 Fm B H σ ρ xs ds rv Q I hx e q
  unfold bMinP at e
  split at e
  · rename_i ds'
    cases hp : pairsOf ds' with
    | none => rw [hp] at e; cases e
    | some ps =>
      rw [hp] at e
      cases ps with
      | nil => cases e
      | cons p r =>
        cases e
        have hds := pairsOf_is hp
        subst hds
        obtain ⟨v, rfl, h⟩ := isA_1 hx
        obtain ⟨a, ys, rfl, ha, k⟩ := h.lstV
        have kB := isPair k
        have kH : Paired (pairV H K) ys (p :: r) := pair_mono kB fun x y _ ⟨b, h1, h2⟩ => ⟨b, h1, same_t I.ex h2⟩
        refine ⟨a, ys, p, r, rfl, .inl (.inl (I.ex _ _ ha)), kH, fun i x hi hm => q B H _ (Same.refl B) I ?_⟩
        obtain ⟨d, hd, hid⟩ := k.getV hi
        rw [List.getElem?_map, hm] at hd
        cases hd
        exact hid
  · cases e
end
end DL

/-! DL, part z: lists and tuples of one's own, with items of one's own -/
namespace DL
open PySem PySem.Spec PyProof.Rows L2
def rvRt : Rv → Option Rt
  | .im d => some (.im d)
  | .own ds => some (.ow ds)
  | .bk _ => none
section
variable {K : PySem.W.Frag} {ks : List Nat} {σ0 : L2.St} {Fm B H H' : Hp} {σ : L2.St} {ρ : Env} {W : WX}
theorem rt_is {v : V} {rv : Rv} {r : Rt} (h : vE K Fm σ B H ρ v rv) (e : rvRt rv = some r) : RtIs K B H v r ∧ ∀ ds a, r = .ow ds → v = .ref a → B a = none ∧ Fm a = none ∧ Apart H σ ρ a := by
  cases rv with
  | im d => cases e; exact ⟨h, fun ds a z => by cases z⟩
  | own ds =>
    cases e
    obtain ⟨a, zs, rfl, h1, h2, h3, h4, h5⟩ := h
    exact ⟨⟨a, zs, rfl, h1, h4⟩, fun _ a' _ z => by cases z; exact ⟨h2, h3, h5⟩⟩
  | bk t => cases e
/-- the list of a mixed block is written anew -/
theorem mix_wr {i : Nat} {b : Addr} {xs xs' : List Rt} {vs vs' : List V} (I : IV K ks σ0 Fm B H σ ρ) (e : ρ[i]? = some (.bk (.mix false xs))) (hv : σ[i]? = some (some (.ref b))) (hb : H b = some (.lst vs)) (hp : Paired (RtIs K B H) vs' xs')
    (hn : ∀ (j : Nat) ds, xs'[j]? = some (.ow ds) → vs'[j]? ≠ some (.ref b))
    (hf : ∀ (j : Nat) ds a, xs'[j]? = some (.ow ds) → vs'[j]? = some (.ref a) → (∃ (j' : Nat) (ds' : List D), xs[j']? = some (.ow ds') ∧ vs[j']? = some (.ref a)) ∨ (B a = none ∧ Fm a = none ∧ Apart H σ ρ a)) :
    IV K ks σ0 Fm B (upd H b (.lst vs')) σ (ρ.set i (.bk (.mix false xs'))) := by
  refine I.reB e hv (fun p n _ => upd_ne fun z => n ⟨b, rfl, .inl z⟩) ⟨b, vs', rfl, upd_same, paired_idx hp fun j w r e1 e2 g => ?_, hn⟩ fun p f => ?_
  · cases r with
    | im d => exact g
    | ow ds =>
      obtain ⟨a, zs, rfl, g1, g2⟩ := g
      exact ⟨a, zs, rfl, by rw [upd_ne fun z => hn j ds e2 (by rw [e1, z])]; exact g1, g2⟩
  · obtain ⟨b', q, f⟩ := f
    cases q
    rcases f with z | ⟨us, q, j, ds, e1, e2⟩
    · exact .inl ⟨b, rfl, .inl z⟩
    · rw [upd_same] at q
      have q := mkO_inj (tp := false) q
      subst q
      rcases hf j ds p e1 e2 with ⟨j', ds', g1, g2⟩ | g
      · exact .inl ⟨b, rfl, .inr ⟨vs, hb, j', ds', g1, g2⟩⟩
      · exact .inr g
/-- a mixed block in a slot -/
theorem mix_at {i : Nat} {xs : List Rt} (I : IV K ks σ0 Fm B H σ ρ) (e : ρ[i]? = some (.bk (.mix false xs))) : ∃ b vs, σ[i]? = some (some (.ref b)) ∧ H b = some (.lst vs) ∧ Paired (RtIs K B H) vs xs ∧ (∀ (j : Nat) ds, xs[j]? = some (.ow ds) → vs[j]? ≠ some (.ref b)) := by
  obtain ⟨v, h1, ⟨b, vs, rfl, h2, h3, h4⟩, _⟩ := I.bs.bk i _ e
  exact ⟨b, vs, h1, h2, h3, h4⟩
/-- a thing of one's own that stands in no slot is not the block's -/
theorem mix_ne {i : Nat} {xs : List Rt} {b a : Addr} (e : ρ[i]? = some (.bk (.mix false xs))) (hv : σ[i]? = some (some (.ref b))) (h : Apart H σ ρ a) : a ≠ b := fun z => h.b i _ _ e hv ⟨b, rfl, .inl z⟩
/-- x = e: a list of one's own whose items may be one's own -/
def rvM : Rv → Option Sl
  | .own ds => some (.bk (.mix false (ds.map Rt.im)))
  | .bk t => some (.bk t)
  | .im _ => none
def setMK (i : Nat) (rv : Rv) (ρ : Env) : Out :=
  match rvM rv with
  | some s => .nx (ρ.set i s)
  | none => .bad
def sSetM (i : Nat) (f : Env → R Rv) : Env → Out := fun ρ => (f ρ).toO (setMK i)
theorem own_mix {v : V} {ds : List D} (h : vE K Fm σ B H ρ v (.own ds)) : vE K Fm σ B H ρ v (.bk (.mix false (ds.map Rt.im))) := by
  obtain ⟨a, zs, rfl, h1, h2, h3, h4, h5⟩ := h
  have no : ∀ (j : Nat) (es : List D), (ds.map Rt.im)[j]? ≠ some (.ow es) := fun j es z => by
    rw [List.getElem?_map] at z
    cases q : ds[j]? with
    | none => rw [q] at z; cases z
    | some d => rw [q] at z; cases z
  refine ⟨⟨a, zs, rfl, h1, ?_, fun j es z => absurd z (no j es)⟩, fun p f => ?_⟩
  · have : ∀ {zs : List V} {ds : List D}, IsA K B zs ds → Paired (RtIs K B H) zs (ds.map Rt.im) := by
      intro zs ds h
      induction ds generalizing zs with
      | nil => cases h; exact .nil
      | cons d r ih =>
        cases h with
        | cons g t => exact .cons g (ih t)
    exact this h4
  · obtain ⟨b, q, f⟩ := f
    cases q
    rcases f with z | ⟨us, q, j, es, e1, e2⟩
    · rw [z]
      exact ⟨h2, h3, h5⟩
    · exact absurd e1 (no j es)
theorem ds_setM {i : Nat} {te : TE} {f : Env → R Rv} (hi : i ∉ ks) (h : DE K W te f) : DS K W ks (tAsg te (gName i)) (sSetM i f) := fun σ0 Fm B H σ ρ E I p =>
  h ks σ0 Fm B H σ ρ _ I (PtS.step p fun rv ρ1 B1 H1 v s I1 v1 p1 => by
    unfold setMK rvM at p1
    cases rv with
    | im d => exact p1.elim
    | own ds => exact p1 B1 H1 _ (Same.refl B1) (I1.setBk hi (own_mix v1))
    | bk t => exact p1 B1 H1 _ (Same.refl B1) (I1.setBk hi v1))
theorem x_setM {i : Nat} {f : Env → R Rv} {ρ : Env} : sSetM i f ρ = (f ρ).toO (setMK i) := (rfl)
theorem x_setMO {i : Nat} {ds : List D} {ρ : Env} : setMK i (.own ds) ρ = .nx (ρ.set i (.bk (.mix false (ds.map Rt.im)))) := (rfl)
theorem x_setMB {i : Nat} {t : Bd} {ρ : Env} : setMK i (.bk t) ρ = .nx (ρ.set i (.bk t)) := (rfl)
/-! made of values -/
theorem apart_made {q a : Addr} {o : HO} (I : IV K ks σ0 Fm B H σ ρ) (hq : H q = none) (h : Apart H σ ρ a) : Apart (upd H q o) σ ρ a :=
  ⟨h.o, fun i t w e e2 f => h.b i t w e e2 ((Bd.ftEq (fun p g => upd_ne fun z => by
    obtain ⟨v, k1, k2, k3⟩ := I.bs.bk i t e
    rw [e2] at k1
    cases k1
    exact Bd.live k2 g (by rw [z]; exact hq)) a).mp f)⟩
theorem made_mix {tp : Bool} {vs : List V} {xs : List Rt} {q : Addr} (I : IV K ks σ0 Fm B H σ ρ) (hq : H q = none) (hp : Paired (RtIs K B H) vs xs)
    (hf : ∀ (j : Nat) ds a, xs[j]? = some (.ow ds) → vs[j]? = some (.ref a) → B a = none ∧ Fm a = none ∧ Apart H σ ρ a) : vE K Fm σ B (upd H q (mkO tp vs)) ρ (.ref q) (.bk (.mix tp xs)) := by
  have live : ∀ {j : Nat} {ds : List D} {a : Addr}, xs[j]? = some (.ow ds) → vs[j]? = some (.ref a) → a ≠ q := fun {j ds a} e1 e2 z => by
    obtain ⟨w, g1, a', zs, g2, g3, _⟩ := paired_at hp e1
    rw [e2] at g1
    cases g1
    cases g2
    rw [z, hq] at g3
    cases g3
  refine ⟨⟨q, vs, rfl, upd_same, paired_idx hp fun j w r e1 e2 g => ?_, fun j ds e1 e2 => live e1 e2 rfl⟩, fun p f => ?_⟩
  · cases r with
    | im d => exact g
    | ow ds =>
      obtain ⟨a, zs, rfl, g1, g2⟩ := g
      exact ⟨a, zs, rfl, by rw [upd_ne (live e2 e1)]; exact g1, g2⟩
  · obtain ⟨b, z, f⟩ := f
    cases z
    rcases f with z | ⟨us, z, j, ds, e1, e2⟩
    · rw [z]
      refine ⟨I.ex.free hq, I.fr.free hq, fun j es h z => ?_, fun j t w h h' => I.bs.fresh hq h h'⟩
      obtain ⟨c, ys, g1, g2, _⟩ := I.own j es h
      rw [z] at g1
      cases g1
      rw [hq] at g2
      cases g2
    · rw [upd_same] at z
      have z := mkO_inj z
      subst z
      obtain ⟨g1, g2, g3⟩ := hf j ds p e1 e2
      exact ⟨g1, g2, apart_made I hq g3⟩
def lstMK (pre : List Rt) (tp : Bool) (rv : Rv) (ρ : Env) : R Rv :=
  match rvRt rv with
  | some r => .ok (.bk (.mix tp (pre ++ [r]))) ρ
  | none => .bad
/-- [e] -/
def eLstM1 (f : Env → R Rv) : Env → R Rv := fun ρ => (f ρ).bind (lstMK [] false)
/-- [e, f], (e, f) -/
def eLstM2 (f g : Env → R Rv) : Env → R Rv := fun ρ => (f ρ).bind fun x ρ => (g ρ).bind (lstMK [.im x.d] false)
def eTupM2 (f g : Env → R Rv) : Env → R Rv := fun ρ => (f ρ).bind fun x ρ => (g ρ).bind (lstMK [.im x.d] true)
theorem x_lstM1 {f : Env → R Rv} {ρ : Env} : eLstM1 f ρ = (f ρ).bind (lstMK [] false) := (rfl)
theorem x_lstM2 {f g : Env → R Rv} {ρ : Env} : eLstM2 f g ρ = (f ρ).bind fun x ρ => (g ρ).bind (lstMK [.im x.d] false) := (rfl)
theorem x_tupM2 {f g : Env → R Rv} {ρ : Env} : eTupM2 f g ρ = (f ρ).bind fun x ρ => (g ρ).bind (lstMK [.im x.d] true) := (rfl)
theorem x_lstMO {pre : List Rt} {tp : Bool} {ds : List D} {ρ : Env} : lstMK pre tp (.own ds) ρ = .ok (.bk (.mix tp (pre ++ [.ow ds]))) ρ := (rfl)
theorem x_lstMI {pre : List Rt} {tp : Bool} {d : D} {ρ : Env} : lstMK pre tp (.im d) ρ = .ok (.bk (.mix tp (pre ++ [.im d]))) ρ := (rfl)
variable {ta tb : TE} {fa fb : Env → R Rv}
theorem de_lstM1 (h : DE K W ta fa) : DE K W (tLst (tCons ta tNil)) (eLstM1 fa) := fun ks σ0 Fm B H σ ρ Q I p =>
  h ks σ0 Fm B H σ ρ _ I (PtG.step p fun rv ρ1 B1 H1 v s I1 v1 p1 => by
    unfold lstMK at p1
    cases e : rvRt rv with
    | none => rw [e] at p1; exact p1.elim
    | some r =>
      rw [e] at p1
      obtain ⟨g1, g2⟩ := rt_is v1 e
      exact ⟨sz_of (n := 1) (by decide), fun q hq => p1 B1 _ _ (Same.refl B1) (I1.made hq) (made_mix (tp := false) (vs := [v]) (xs := [r]) I1 hq (.cons g1 .nil) fun j ds a e1 e2 => by
        cases j with
        | zero => cases e1; cases e2; exact g2 ds a rfl rfl
        | succ j => cases j <;> cases e1)⟩)
theorem two_mix {tp : Bool} {x v : V} {d : D} {r : Rt} {q : Addr} (I : IV K ks σ0 Fm B H σ ρ) (hq : H q = none) (hx : Is K B x d) (g1 : RtIs K B H v r) (g2 : ∀ ds a, r = .ow ds → v = .ref a → B a = none ∧ Fm a = none ∧ Apart H σ ρ a) :
    vE K Fm σ B (upd H q (mkO tp [x, v])) ρ (.ref q) (.bk (.mix tp ([.im d] ++ [r]))) :=
  made_mix (tp := tp) (vs := [x, v]) (xs := [.im d, r]) I hq (.cons hx (.cons g1 .nil)) fun j ds a e1 e2 => by
    cases j with
    | zero => cases e1
    | succ j =>
      cases j with
      | zero => cases e1; cases e2; exact g2 ds a rfl rfl
      | succ j => cases j <;> cases e1
theorem de_lstM2 (h : DE K W ta fa) (h' : DE K W tb fb) : DE K W (tLst (tCons ta (tCons tb tNil))) (eLstM2 fa fb) := fun ks σ0 Fm B H σ ρ Q I p =>
  h ks σ0 Fm B H σ ρ _ I (PtG.step p fun x ρ1 B1 H1 w s I1 w1 p1 => by
    obtain ⟨B2, s2, I2, i2⟩ := freeze I1 w1
    refine h' ks σ0 Fm B2 H1 σ ρ1 _ I2 (PtG.step (p1.mono s2) fun rv ρ3 B3 H3 v s3 I3 v1 p3 => ?_)
    unfold lstMK at p3
    cases e : rvRt rv with
    | none => rw [e] at p3; exact p3.elim
    | some r =>
      rw [e] at p3
      obtain ⟨g1, g2⟩ := rt_is v1 e
      exact ⟨sz_of (n := 2) (by decide), fun q hq => p3 B3 _ _ (Same.refl B3) (I3.made hq) (two_mix (tp := false) I3 hq (i2.mono s3) g1 g2)⟩)
theorem de_tupM2 (h : DE K W ta fa) (h' : DE K W tb fb) : DE K W (tTup (tCons ta (tCons tb tNil))) (eTupM2 fa fb) := fun ks σ0 Fm B H σ ρ Q I p =>
  h ks σ0 Fm B H σ ρ _ I (PtG.step p fun x ρ1 B1 H1 w s I1 w1 p1 => by
    obtain ⟨B2, s2, I2, i2⟩ := freeze I1 w1
    refine h' ks σ0 Fm B2 H1 σ ρ1 _ I2 (PtG.step (p1.mono s2) fun rv ρ3 B3 H3 v s3 I3 v1 p3 => ?_)
    unfold lstMK at p3
    cases e : rvRt rv with
    | none => rw [e] at p3; exact p3.elim
    | some r =>
      rw [e] at p3
      obtain ⟨g1, g2⟩ := rt_is v1 e
      exact ⟨sz_of (n := 2) (by decide), fun q hq => p3 B3 _ _ (Same.refl B3) (I3.made hq) (two_mix (tp := true) I3 hq (i2.mono s3) g1 g2)⟩)
/-! x.append(e) -/
def appMK (o : Option Sl) (i : Nat) (rv : Rv) (ρ : Env) : Out :=
  match o, rvRt rv with
  | some (.bk (.mix false xs)), some r => if xs.length < 100000 then .nx (ρ.set i (.bk (.mix false (xs ++ [r])))) else .bad
  | _, _ => .bad
def isMix : Option Sl → Bool
  | some (.bk (.mix false _)) => true
  | _ => false
def sAppM (i : Nat) (f : Env → R Rv) : Env → Out := fun ρ => cond (isMix ρ[i]?) ((f ρ).toO fun rv ρ => appMK ρ[i]? i rv ρ) .bad
theorem isMix_of {o : Option Sl} (h : isMix o = true) : ∃ xs, o = some (.bk (.mix false xs)) := by
  unfold isMix at h
  split at h
  · exact ⟨_, rfl⟩
  · cases h
theorem x_isMix {xs : List Rt} : isMix (some (.bk (.mix false xs))) = true := (rfl)
theorem x_sAppM {i : Nat} {f : Env → R Rv} {ρ : Env} : sAppM i f ρ = cond (isMix ρ[i]?) ((f ρ).toO fun rv ρ => appMK ρ[i]? i rv ρ) .bad := (rfl)
theorem x_appMO {xs : List Rt} {i : Nat} {ds : List D} {ρ : Env} (h : xs.length < 100000) : appMK (some (.bk (.mix false xs))) i (.own ds) ρ = .nx (ρ.set i (.bk (.mix false (xs ++ [.ow ds])))) := if_pos h
theorem x_appMI {xs : List Rt} {i : Nat} {d : D} {ρ : Env} (h : xs.length < 100000) : appMK (some (.bk (.mix false xs))) i (.im d) ρ = .nx (ρ.set i (.bk (.mix false (xs ++ [.im d])))) := if_pos h
theorem paired_app {α β : Type} {R : α → β → Prop} : ∀ {xs : List α} {ys : List β} {x : α} {y : β}, Paired R xs ys → R x y → Paired R (xs ++ [x]) (ys ++ [y])
  | _, _, _, _, .nil, h => .cons h .nil
  | _, _, _, _, .cons a t, h => .cons a (paired_app t h)
theorem at_app {α : Type} {xs : List α} {x y : α} {j : Nat} (h : (xs ++ [x])[j]? = some y) : xs[j]? = some y ∨ (j = xs.length ∧ x = y) := by
  by_cases hj : j < xs.length
  · rw [List.getElem?_append_left hj] at h
    exact .inl h
  · rw [List.getElem?_append_right (by omega)] at h
    cases q : j - xs.length with
    | zero =>
      rw [q] at h
      exact .inr ⟨by omega, Option.some.inj h⟩
    | succ k =>
      rw [q] at h
      simp at h
theorem ds_appM {i : Nat} {te : TE} {f : Env → R Rv} (h : DE K W te f) : DS K W ks (tDrop (tBM K "list" rAppend (tVar i) (tCons te tNil))) (sAppM i f) := fun σ0 Fm B H σ ρ E I p => by
  have p : PtS K ks σ0 Fm W B E (cond (isMix ρ[i]?) ((f ρ).toO fun rv ρ => appMK ρ[i]? i rv ρ) .bad) := p
  cases hm : isMix ρ[i]? with
  | false => rw [hm] at p; exact p.elim
  | true =>
    rw [hm] at p
    have p : PtS K ks σ0 Fm W B E ((f ρ).toO fun rv ρ => appMK ρ[i]? i rv ρ) := p
    obtain ⟨xs0, e0⟩ := isMix_of hm
    obtain ⟨b, vs0, h1, h2, _⟩ := mix_at I e0
    refine ⟨.ref b, h1, .inl ⟨rfl, _, .inl (.inl h2)⟩, h ks σ0 Fm B H σ ρ _ I (PtS.step p fun rv ρ1 B1 H1 v s I1 v1 p1 => ?_)⟩
    unfold appMK at p1
    split at p1
    · rename_i xs r e1 er
      by_cases hl : xs.length < 100000
      · rw [if_pos hl] at p1
        obtain ⟨b', vs, g1, g2, g3, g4⟩ := mix_at I1 e1
        rw [h1] at g1
        cases g1
        obtain ⟨r1, r2⟩ := rt_is v1 er
        refine ⟨b, vs, v, rfl, rfl, g2, by rw [Paired.length g3]; exact sz_lt hl, p1 B1 _ σ (Same.refl B1) (mix_wr I1 e1 h1 g2 (paired_app g3 r1) (fun j ds k1 k2 => ?_) fun j ds a k1 k2 => ?_)⟩
        · rcases at_app k1 with z | ⟨z1, z2⟩
          · rcases at_app k2 with y | ⟨y1, _⟩
            · exact g4 j ds z y
            · have := (List.getElem?_eq_some_iff.mp z).1
              have := Paired.length g3
              omega
          · rcases at_app k2 with y | ⟨_, y2⟩
            · have := (List.getElem?_eq_some_iff.mp y).1
              have := Paired.length g3
              omega
            · exact mix_ne e1 h1 (r2 ds b z2 y2).2.2 rfl
        · rcases at_app k1 with z | ⟨z1, z2⟩
          · rcases at_app k2 with y | ⟨y1, _⟩
            · exact .inl ⟨j, ds, z, y⟩
            · have := (List.getElem?_eq_some_iff.mp z).1
              have := Paired.length g3
              omega
          · rcases at_app k2 with y | ⟨_, y2⟩
            · have := (List.getElem?_eq_some_iff.mp y).1
              have := Paired.length g3
              omega
            · exact .inr (r2 ds a z2 y2)
      · rw [if_neg hl] at p1
        exact p1.elim
    · exact p1.elim
/-! x.reverse() -/
def revMK (o : Option Sl) (i : Nat) (ρ : Env) : Out :=
  match o with
  | some (.bk (.mix false xs)) => .nx (ρ.set i (.bk (.mix false xs.reverse)))
  | _ => .bad
def sRevM (i : Nat) : Env → Out := fun ρ => revMK ρ[i]? i ρ
theorem x_sRevM {i : Nat} {ρ : Env} : sRevM i ρ = revMK ρ[i]? i ρ := (rfl)
theorem x_revMK {xs : List Rt} {i : Nat} {ρ : Env} : revMK (some (.bk (.mix false xs))) i ρ = .nx (ρ.set i (.bk (.mix false xs.reverse))) := (rfl)
theorem paired_rev {α β : Type} {R : α → β → Prop} : ∀ {xs : List α} {ys : List β}, Paired R xs ys → Paired R xs.reverse ys.reverse
  | _, _, .nil => .nil
  | _, _, .cons a t => by
    rw [List.reverse_cons, List.reverse_cons]
    exact paired_app (paired_rev t) a
theorem ds_revM {i : Nat} : DS K W ks (tDrop (tBM0 K "list" rReverse (tVar i))) (sRevM i) := fun σ0 Fm B H σ ρ E I p => by
  have p : PtS K ks σ0 Fm W B E (revMK ρ[i]? i ρ) := p
  unfold revMK at p
  split at p
  · rename_i xs e
    obtain ⟨b, vs, h1, h2, h3, h4⟩ := mix_at I e
    have hl := Paired.length h3
    have idx : ∀ {j : Nat} {r : Rt} {w : V}, xs.reverse[j]? = some r → vs.reverse[j]? = some w → ∃ k : Nat, xs[k]? = some r ∧ vs[k]? = some w := fun {j r w} e1 e2 => by
      have hj : j < xs.length := by
        have := (List.getElem?_eq_some_iff.mp e1).1
        rwa [List.length_reverse] at this
      rw [List.getElem?_reverse hj] at e1
      rw [List.getElem?_reverse (by omega), hl] at e2
      exact ⟨_, e1, e2⟩
    refine ⟨.ref b, h1, .inl ⟨rfl, vs, .inl (.inl h2)⟩, b, vs, rfl, rfl, h2, p B _ σ (Same.refl B) (mix_wr I e h1 h2 (paired_rev h3) (fun j ds k1 k2 => ?_) fun j ds a k1 k2 => ?_)⟩
    · obtain ⟨k, q1, q2⟩ := idx k1 k2
      exact h4 k ds q1 q2
    · obtain ⟨k, q1, q2⟩ := idx k1 k2
      exact .inl ⟨k, ds, q1, q2⟩
  · exact p.elim
/-! a block moved, or looked at once more as what stays -/
theorem IV.takeB {i : Nat} {t : Bd} (I : IV K ks σ0 Fm B H σ ρ) (e : ρ[i]? = some (.bk t)) : ∃ v, σ[i]? = some (some v) ∧ vE K Fm σ B H (ρ.set i .no) v (.bk t) := by
  obtain ⟨v, h1, h2, h3⟩ := I.bs.bk i t e
  have hset : ∀ {j : Nat} {y : Sl}, y ≠ .no → (ρ.set i .no)[j]? = some y → i ≠ j ∧ ρ[j]? = some y := fun {j y} hy h => by
    rcases set_sub h with ⟨_, z, _⟩ | h
    · exact absurd z.symm hy
    · exact h
  refine ⟨v, h1, h2, fun p f => ⟨(h3 p f).1, (h3 p f).2, fun j es h r => ?_, fun j u w h h' f' => ?_⟩⟩
  · exact I.bs.bo i j t es v p e (hset (by intro z; cases z) h).2 h1 r f
  · obtain ⟨n, h⟩ := hset (by intro z; cases z) h
    exact I.bs.bb i j t u v w p n e h h1 h' f f'
def moveBK (o : Option Sl) (i : Nat) (ρ : Env) : R Rv :=
  match o with
  | some (.bk t) => .ok (.bk t) (ρ.set i .no)
  | _ => .bad
def eMoveB (i : Nat) : Env → R Rv := fun ρ => moveBK ρ[i]? i ρ
theorem x_moveB {i : Nat} {ρ : Env} : eMoveB i ρ = moveBK ρ[i]? i ρ := (rfl)
theorem x_moveBK {i : Nat} {ρ : Env} {t : Bd} : moveBK (some (.bk t)) i ρ = .ok (.bk t) (ρ.set i .no) := (rfl)
theorem de_moveB {i : Nat} : DE K W (tVar i) (eMoveB i) := fun ks σ0 Fm B H σ ρ Q I p => by
  have p : PtG K ks σ0 Fm W (vE K Fm σ) B σ Q (moveBK ρ[i]? i ρ) := p
  unfold moveBK at p
  split at p
  · rename_i t e
    obtain ⟨v, h1, h2⟩ := I.takeB e
    exact ⟨v, h1, p B H v (Same.refl B) (I.hide i) h2⟩
  · exact p.elim
def varBK (o : Option Sl) (i : Nat) (ρ : Env) : R Rv :=
  match o with
  | some (.bk t) => .ok (.im t.d) (ρ.set i (.im t.d))
  | some (.im d) => .ok (.im d) ρ
  | _ => .bad
def eVarB (i : Nat) : Env → R Rv := fun ρ => varBK ρ[i]? i ρ
theorem x_varB {i : Nat} {ρ : Env} : eVarB i ρ = varBK ρ[i]? i ρ := (rfl)
theorem x_varBK {i : Nat} {ρ : Env} {t : Bd} : varBK (some (.bk t)) i ρ = .ok (.im t.d) (ρ.set i (.im t.d)) := (rfl)
theorem x_varBI {i : Nat} {ρ : Env} {d : D} : varBK (some (.im d)) i ρ = .ok (.im d) ρ := (rfl)
theorem de_varB {i : Nat} : DE K W (tVar i) (eVarB i) := fun ks σ0 Fm B H σ ρ Q I p => by
  have p : PtG K ks σ0 Fm W (vE K Fm σ) B σ Q (varBK ρ[i]? i ρ) := p
  unfold varBK at p
  split at p
  · rename_i t e
    obtain ⟨v, h1, h2⟩ := I.takeB e
    obtain ⟨B', s, I', h3⟩ := freeze (I.hide i) h2
    refine ⟨v, h1, p B' H v s ?_ h3⟩
    have I2 := I'.seen h1 h3
    rw [set_set_own] at I2
    exact I2
  · rename_i d e
    obtain ⟨v, h1, h2⟩ := I.im i d e
    exact ⟨v, h1, p B H v (Same.refl B) I h2⟩
  · exact p.elim
/-! an item of a block that is dropped -/
def itemR (r : Option Rt) (ρ : Env) : R Rv :=
  match r with
  | some (.im d) => .ok (.im d) ρ
  | some (.ow ds) => .ok (.own ds) ρ
  | none => .bad
theorem x_itemI {d : D} {ρ : Env} : itemR (some (.im d)) ρ = .ok (.im d) ρ := (rfl)
theorem x_itemO {ds : List D} {ρ : Env} : itemR (some (.ow ds)) ρ = .ok (.own ds) ρ := (rfl)
def ixTK (k : Int) (rv : Rv) (ρ : Env) : R Rv :=
  match rv with
  | .bk (.mix _ xs) => itemR (atI xs k) ρ
  | _ => .bad
def eIxT (f : Env → R Rv) (k : Int) : Env → R Rv := fun ρ => (f ρ).bind (ixTK k)
theorem x_eIxT {f : Env → R Rv} {k : Int} {ρ : Env} : eIxT f k ρ = (f ρ).bind (ixTK k) := (rfl)
theorem x_ixTK {k : Int} {tp : Bool} {xs : List Rt} {ρ : Env} : ixTK k (.bk (.mix tp xs)) ρ = itemR (atI xs k) ρ := (rfl)
theorem item_v {v : V} {tp : Bool} {xs : List Rt} {r : Rt} {k : Int} (h : vE K Fm σ B H ρ v (.bk (.mix tp xs))) (e : atI xs k = some r) :
    ∃ b vs w, v = .ref b ∧ H b = some (mkO tp vs) ∧ atI vs k = some w ∧ ∀ (Q : V → Hp → Prop) {W : WX}, PtG K ks σ0 Fm W (vE K Fm σ) B σ Q (itemR (some r) ρ) → IV K ks σ0 Fm B H σ ρ → Q w H := by
  obtain ⟨⟨b, vs, rfl, h1, h2, h3⟩, h4⟩ := h
  have hl := Paired.length h2
  unfold atI at e
  cases hj : ixN xs.length k with
  | none => rw [hj] at e; cases e
  | some j =>
    rw [hj] at e
    have e : xs[j]? = some r := e
    obtain ⟨w, g1, g2⟩ := paired_at h2 e
    refine ⟨b, vs, w, rfl, h1, by unfold atI; rw [hl, hj]; exact g1, fun Q W p I => ?_⟩
    cases r with
    | im d => exact p B H w (Same.refl B) I g2
    | ow ds =>
      obtain ⟨a, zs, rfl, q1, q2⟩ := g2
      obtain ⟨f1, f2, f3⟩ := h4 a ⟨b, rfl, .inr ⟨vs, h1, j, ds, e, g1⟩⟩
      exact p B H (.ref a) (Same.refl B) I ⟨a, zs, rfl, q1, f1, f2, q2, f3⟩
theorem de_ixT {k : Int} (h : DE K W ta fa) : DE K W (tOp (rIx K) ta (tC (.int k))) (eIxT fa k) := fun ks σ0 Fm B H σ ρ Q I p =>
  h ks σ0 Fm B H σ ρ _ I (PtG.step p fun rv ρ1 B1 H1 v s I1 v1 p1 => by
    unfold ixTK at p1
    split at p1
    · rename_i tp xs
      cases e : atI xs k with
      | none => rw [e] at p1; exact p1.elim
      | some r =>
        rw [e] at p1
        obtain ⟨b, vs, w, rfl, h1, h2, h3⟩ := item_v (ks := ks) (σ0 := σ0) v1 e
        have q := h3 Q p1 I1
        cases tp with
        | false => exact .inl ⟨b, vs, k, w, rfl, rfl, .inl (.inl h1), h2, q⟩
        | true => exact .inr (.inl ⟨b, vs, k, w, rfl, rfl, .inl (.inl h1), h2, q⟩)
    · exact p1.elim)
/-- x[k], of a block in a slot that is not looked at any more -/
def takeMK (o : Option Sl) (i : Nat) (y : D) (ρ : Env) : R Rv :=
  match o, y with
  | some (.bk (.mix _ xs)), .int k => itemR (atI xs k) (ρ.set i .no)
  | _, _ => .bad
def eTakeM (i : Nat) (f : Env → R Rv) : Env → R Rv := fun ρ => cond (isMix ρ[i]?) ((f ρ).bind fun y ρ => takeMK ρ[i]? i y.d ρ) .bad
theorem x_takeM {i : Nat} {f : Env → R Rv} {ρ : Env} : eTakeM i f ρ = cond (isMix ρ[i]?) ((f ρ).bind fun y ρ => takeMK ρ[i]? i y.d ρ) .bad := (rfl)
theorem x_takeMK {i : Nat} {tp : Bool} {xs : List Rt} {k : Int} {ρ : Env} : takeMK (some (.bk (.mix tp xs))) i (.int k) ρ = itemR (atI xs k) (ρ.set i .no) := (rfl)
theorem de_takeM {i : Nat} (h : DE K W tb fb) : DE K W (tOp (rIx K) (tVar i) tb) (eTakeM i fb) := fun ks σ0 Fm B H σ ρ Q I p => by
  have p : PtG K ks σ0 Fm W (vE K Fm σ) B σ Q (cond (isMix ρ[i]?) ((fb ρ).bind fun y ρ => takeMK ρ[i]? i y.d ρ) .bad) := p
  cases hm : isMix ρ[i]? with
  | false => rw [hm] at p; exact p.elim
  | true =>
    rw [hm] at p
    have p : PtG K ks σ0 Fm W (vE K Fm σ) B σ Q ((fb ρ).bind fun y ρ => takeMK ρ[i]? i y.d ρ) := p
    obtain ⟨xs0, e0⟩ := isMix_of hm
    obtain ⟨b, vs0, h1, _⟩ := mix_at I e0
    refine ⟨.ref b, h1, h ks σ0 Fm B H σ ρ _ I (PtG.step p fun y ρ1 B1 H1 w s I1 w1 p1 => ?_)⟩
    unfold takeMK at p1
    split at p1
    · rename_i tp xs k e1 ey
      cases e : atI xs k with
      | none => rw [e] at p1; exact p1.elim
      | some r =>
        rw [e] at p1
        obtain ⟨v, g1, g2⟩ := I1.takeB e1
        rw [h1] at g1
        cases g1
        obtain ⟨b', vs, u, z, k1, k2, k3⟩ := item_v (ks := ks) (σ0 := σ0) g2 e
        cases z
        have q := k3 Q p1 (I1.hide i)
        have ew : w = .int k := int_of w1 (by rw [ey]; rfl)
        cases tp with
        | false => exact .inl ⟨b, vs, k, u, rfl, ew, .inl (.inl k1), k2, q⟩
        | true => exact .inr (.inl ⟨b, vs, k, u, rfl, ew, .inl (.inl k1), k2, q⟩)
    · exact p1.elim
end
/-! x[k] = e, k a number in a slot -/
def setIxMK (o oj : Option Sl) (i : Nat) (rv : Rv) (ρ : Env) : Out :=
  match o, oj, rvRt rv with
  | some (.bk (.mix false xs)), some (.im (.int k)), some r =>
    match ixN xs.length k with
    | some n => .nx (ρ.set i (.bk (.mix false (xs.set n r))))
    | none => .bad
  | _, _, _ => .bad
def sSetIxM (i j : Nat) (f : Env → R Rv) : Env → Out := fun ρ => (f ρ).toO fun rv ρ => setIxMK ρ[i]? ρ[j]? i rv ρ
theorem x_setIxM {i j : Nat} {f : Env → R Rv} {ρ : Env} : sSetIxM i j f ρ = (f ρ).toO fun rv ρ => setIxMK ρ[i]? ρ[j]? i rv ρ := (rfl)
theorem x_setIxMO {xs : List Rt} {k : Int} {n i : Nat} {ds : List D} {ρ : Env} (h : ixN xs.length k = some n) : setIxMK (some (.bk (.mix false xs))) (some (.im (.int k))) i (.own ds) ρ = .nx (ρ.set i (.bk (.mix false (xs.set n (.ow ds))))) := by
  unfold setIxMK rvRt
  simp only [h]
section
variable {K : PySem.W.Frag} {ks : List Nat} {σ0 : L2.St} {Fm B H H' : Hp} {σ : L2.St} {ρ : Env} {W : WX} {ta tb : TE} {fa fb : Env → R Rv}
theorem ixN_lt {n j : Nat} {k : Int} (h : ixN n k = some j) : j < n := by
  unfold ixN at h
  split at h
  · split at h
    · cases h
      omega
    · cases h
  · split at h
    · cases h
      omega
    · cases h
theorem paired_set {α β : Type} {R : α → β → Prop} : ∀ {xs : List α} {ys : List β} {n : Nat} {x : α} {y : β}, Paired R xs ys → R x y → Paired R (xs.set n x) (ys.set n y)
  | _, _, _, _, _, .nil, _ => .nil
  | _, _, 0, _, _, .cons a t, h => .cons h t
  | _, _, n + 1, _, _, .cons a t, h => .cons a (paired_set t h)
theorem at_set {α : Type} {xs : List α} {n j : Nat} {x y : α} (h : (xs.set n x)[j]? = some y) : (j = n ∧ x = y) ∨ (j ≠ n ∧ xs[j]? = some y) := by
  by_cases e : n = j
  · subst e
    by_cases hl : n < xs.length
    · rw [List.getElem?_set_self hl] at h
      exact .inl ⟨rfl, Option.some.inj h⟩
    · rw [List.getElem?_eq_none (by rw [List.length_set]; omega)] at h
      cases h
  · rw [List.getElem?_set_ne e] at h
    exact .inr ⟨fun z => e z.symm, h⟩
theorem mix_set {i n : Nat} {b : Addr} {xs : List Rt} {vs : List V} {w : V} {r : Rt} (I : IV K ks σ0 Fm B H σ ρ) (e : ρ[i]? = some (.bk (.mix false xs))) (hv : σ[i]? = some (some (.ref b))) (hb : H b = some (.lst vs)) (hp : Paired (RtIs K B H) vs xs)
    (hn : ∀ (j : Nat) ds, xs[j]? = some (.ow ds) → vs[j]? ≠ some (.ref b)) (hr : RtIs K B H w r)
    (hf : ∀ ds a, r = .ow ds → w = .ref a → a ≠ b ∧ ((∃ (j' : Nat) (ds' : List D), xs[j']? = some (.ow ds') ∧ vs[j']? = some (.ref a)) ∨ (B a = none ∧ Fm a = none ∧ Apart H σ ρ a))) :
    IV K ks σ0 Fm B (upd H b (.lst (vs.set n w))) σ (ρ.set i (.bk (.mix false (xs.set n r)))) := by
  refine mix_wr I e hv hb (paired_set hp hr) (fun j ds k1 k2 => ?_) fun j ds a k1 k2 => ?_
  · rcases at_set k1 with ⟨z1, z2⟩ | ⟨z1, z2⟩
    · rcases at_set k2 with ⟨_, y2⟩ | ⟨y1, _⟩
      · exact (hf ds b z2 y2).1 rfl
      · exact y1 z1
    · rcases at_set k2 with ⟨y1, _⟩ | ⟨_, y2⟩
      · exact z1 y1
      · exact hn j ds z2 y2
  · rcases at_set k1 with ⟨z1, z2⟩ | ⟨z1, z2⟩
    · rcases at_set k2 with ⟨_, y2⟩ | ⟨y1, _⟩
      · exact (hf ds a z2 y2).2
      · exact absurd z1 y1
    · rcases at_set k2 with ⟨y1, _⟩ | ⟨_, y2⟩
      · exact absurd y1 z1
      · exact .inl ⟨j, ds, z2, y2⟩
theorem ds_setIxM {i j : Nat} {te : TE} {f : Env → R Rv} (h : DE K W te f) : DS K W ks (tAsg te (gSub (tVar i) (tVar j) rSetL)) (sSetIxM i j f) := fun σ0 Fm B H σ ρ E I p =>
  h ks σ0 Fm B H σ ρ _ I (PtS.step p fun rv ρ1 B1 H1 v s I1 v1 p1 => by
    unfold setIxMK at p1
    split at p1
    · rename_i xs k r e1 e2 er
      cases e3 : ixN xs.length k with
      | none => rw [e3] at p1; exact p1.elim
      | some n =>
        rw [e3] at p1
        obtain ⟨b, vs, g1, g2, g3, g4⟩ := mix_at I1 e1
        obtain ⟨w, w1, w2⟩ := I1.im j _ e2
        cases w2
        obtain ⟨r1, r2⟩ := rt_is v1 er
        refine ⟨.ref b, g1, .int k, w1, b, vs, k, n, rfl, rfl, g2, by rw [Paired.length g3]; exact e3, p1 B1 _ σ (Same.refl B1) (mix_set I1 e1 g1 g2 g3 g4 r1 fun ds a z1 z2 => ?_)⟩
        obtain ⟨f1, f2, f3⟩ := r2 ds a z1 z2
        exact ⟨mix_ne e1 g1 f3, .inr ⟨f1, f2, f3⟩⟩
    · exact p1.elim)
/-! x[j] = x[e] -/
def aliasMK (o oj : Option Sl) (i : Nat) (y : D) (ρ : Env) : Out :=
  match o, oj, y with
  | some (.bk (.mix false xs)), some (.im (.int k)), .int m =>
    match ixN xs.length k, atI xs m with
    | some n, some r => .nx (ρ.set i (.bk (.mix false (xs.set n r))))
    | _, _ => .bad
  | _, _, _ => .bad
def sAliasM (i j : Nat) (f : Env → R Rv) : Env → Out := fun ρ => cond (isMix ρ[i]?) ((f ρ).toO fun y ρ => aliasMK ρ[i]? ρ[j]? i y.d ρ) .bad
theorem x_aliasM {i j : Nat} {f : Env → R Rv} {ρ : Env} : sAliasM i j f ρ = cond (isMix ρ[i]?) ((f ρ).toO fun y ρ => aliasMK ρ[i]? ρ[j]? i y.d ρ) .bad := (rfl)
theorem x_aliasMK {xs : List Rt} {k m : Int} {n i : Nat} {r : Rt} {ρ : Env} (h : ixN xs.length k = some n) (h2 : atI xs m = some r) : aliasMK (some (.bk (.mix false xs))) (some (.im (.int k))) i (.int m) ρ = .nx (ρ.set i (.bk (.mix false (xs.set n r)))) := by
  unfold aliasMK
  simp only [h, h2]
theorem ds_aliasM {i j : Nat} (h : DE K W tb fb) : DS K W ks (tAsg (tOp (rIx K) (tVar i) tb) (gSub (tVar i) (tVar j) rSetL)) (sAliasM i j fb) := fun σ0 Fm B H σ ρ E I p => by
  have p : PtS K ks σ0 Fm W B E (cond (isMix ρ[i]?) ((fb ρ).toO fun y ρ => aliasMK ρ[i]? ρ[j]? i y.d ρ) .bad) := p
  cases hm : isMix ρ[i]? with
  | false => rw [hm] at p; exact p.elim
  | true =>
    rw [hm] at p
    have p : PtS K ks σ0 Fm W B E ((fb ρ).toO fun y ρ => aliasMK ρ[i]? ρ[j]? i y.d ρ) := p
    obtain ⟨xs0, e0⟩ := isMix_of hm
    obtain ⟨b, vs0, h1, _⟩ := mix_at I e0
    refine ⟨.ref b, h1, h ks σ0 Fm B H σ ρ _ I (PtS.step p fun y ρ1 B1 H1 w s I1 w1 p1 => ?_)⟩
    unfold aliasMK at p1
    split at p1
    · rename_i xs k m e1 e2 ey
      split at p1
      · rename_i n r e3 e4
        obtain ⟨b', vs, g1, g2, g3, g4⟩ := mix_at I1 e1
        rw [h1] at g1
        cases g1
        obtain ⟨u, u1, u2⟩ := I1.im j _ e2
        cases u2
        have hl := Paired.length g3
        have ew : w = .int m := int_of w1 (by rw [ey]; rfl)
        unfold atI at e4
        cases hj : ixN xs.length m with
        | none => rw [hj] at e4; cases e4
        | some q =>
          rw [hj] at e4
          have e4 : xs[q]? = some r := e4
          obtain ⟨z, z1, z2⟩ := paired_at g3 e4
          refine .inl ⟨b, vs, m, z, rfl, ew, .inl (.inl g2), by unfold atI; rw [hl, hj]; exact z1, .ref b, h1, .int k, u1, b, vs, k, n, rfl, rfl, g2, by rw [hl]; exact e3, p1 B1 _ σ (Same.refl B1) (mix_set I1 e1 h1 g2 g3 g4 z2 fun ds a y1 y2 => ?_)⟩
          subst y1
          subst y2
          exact ⟨fun y => g4 q ds e4 (by rw [z1, y]), .inl ⟨q, ds, e4, z1⟩⟩
      · exact p1.elim
    · exact p1.elim
/-! a list within a block is changed, no other item of the block being one's own -/
def isIm : Rt → Bool
  | .im _ => true
  | .ow _ => false
def mutMK (o : Option Sl) (i : Nat) (k : Int) (f : List D → Option (List D)) (ρ : Env) : Out :=
  match o with
  | some (.bk (.mix false xs)) =>
    match ixN xs.length k with
    | some n => match xs[n]? with
      | some (.ow ds) => match f ds, (xs.set n (.im .non)).all isIm with
        | some es, true => .nx (ρ.set i (.bk (.mix false (xs.set n (.ow es)))))
        | _, _ => .bad
      | _ => .bad
    | none => .bad
  | _ => .bad
theorem mut_wr {i n : Nat} {b : Addr} {xs : List Rt} {vs : List V} {a : Addr} {ds es : List D} {zs : List V} (I : IV K ks σ0 Fm B H σ ρ) (e : ρ[i]? = some (.bk (.mix false xs))) (hv : σ[i]? = some (some (.ref b))) (hb : H b = some (.lst vs)) (hp : Paired (RtIs K B H) vs xs)
    (hn : ∀ (j : Nat) ds, xs[j]? = some (.ow ds) → vs[j]? ≠ some (.ref b)) (e1 : xs[n]? = some (.ow ds)) (e2 : vs[n]? = some (.ref a)) (ho : (xs.set n (.im .non)).all isIm = true) (k : IsA K B zs es) :
    IV K ks σ0 Fm B (upd H a (.lst zs)) σ (ρ.set i (.bk (.mix false (xs.set n (.ow es))))) := by
  have hab : a ≠ b := fun z => hn n ds e1 (by rw [e2, z])
  have only : ∀ (j : Nat) es', xs[j]? = some (.ow es') → j = n := fun j es' h => by
    by_cases hj : n = j
    · exact hj.symm
    · have h2 : (xs.set n (.im .non))[j]? = some (.ow es') := by rw [List.getElem?_set_ne hj]; exact h
      have := List.all_eq_true.mp ho _ (List.mem_of_getElem? h2)
      cases this
  have hbu : upd H a (.lst zs) b = some (.lst vs) := by rw [upd_ne (fun z => hab z.symm)]; exact hb
  refine I.reB e hv (fun p q _ => upd_ne fun z => q ⟨b, rfl, .inr ⟨vs, hb, n, ds, e1, by rw [z]; exact e2⟩⟩) ⟨b, vs, rfl, hbu, ?_, fun j es' h => ?_⟩ fun p f => ?_
  · have hp2 : Paired (RtIs K B (upd H a (.lst zs))) vs (xs.set n (.ow es)) := by
      have : ∀ {vs : List V} {xs : List Rt} {n : Nat}, Paired (RtIs K B H) vs xs → vs[n]? = some (.ref a) → (∀ (j : Nat) es', xs[j]? = some (.ow es') → j = n) → Paired (RtIs K B (upd H a (.lst zs))) vs (xs.set n (.ow es)) := by
        intro vs xs n h
        induction h generalizing n with
        | nil => intro _ _; exact .nil
        | @cons w r ws rs g t ih =>
          intro g1 g2
          cases n with
          | zero =>
            simp at g1
            subst g1
            refine .cons ⟨a, zs, rfl, upd_same, k⟩ (paired_idx t fun j x y q1 q2 q3 => ?_)
            cases y with
            | im d => exact q3
            | ow es' =>
              have := g2 (j + 1) es' (by simpa using q2)
              omega
          | succ n =>
            refine .cons ?_ (ih (by simpa using g1) fun j es' q => by have := g2 (j + 1) es' (by simpa using q); omega)
            cases r with
            | im d => exact g
            | ow es' =>
              have := g2 0 es' rfl
              omega
      exact this hp e2 only
    exact hp2
  · rcases at_set h with ⟨z1, z2⟩ | ⟨z1, z2⟩
    · rw [z1]
      exact hn n ds e1
    · exact hn j es' z2
  · obtain ⟨b', q, f⟩ := f
    cases q
    rcases f with z | ⟨us, q, j, es', q1, q2⟩
    · exact .inl ⟨b, rfl, .inl z⟩
    · rw [hbu] at q
      have q := mkO_inj (tp := false) q
      subst q
      rcases at_set q1 with ⟨z1, z2⟩ | ⟨z1, z2⟩
      · rw [z1] at q2
        exact .inl ⟨b, rfl, .inr ⟨vs, hb, n, ds, e1, q2⟩⟩
      · exact .inl ⟨b, rfl, .inr ⟨vs, hb, j, es', z2, q2⟩⟩
def sRevIn (i : Nat) (k : Int) : Env → Out := fun ρ => mutMK ρ[i]? i k (fun ds => some ds.reverse) ρ
theorem x_revIn {i : Nat} {k : Int} {ρ : Env} : sRevIn i k ρ = mutMK ρ[i]? i k (fun ds => some ds.reverse) ρ := (rfl)
theorem mut_of {o : Option Sl} {i : Nat} {k : Int} {f : List D → Option (List D)} {E : Ends} (h : PtS K ks σ0 Fm W B E (mutMK o i k f ρ)) :
    ∃ xs n ds es, o = some (.bk (.mix false xs)) ∧ ixN xs.length k = some n ∧ xs[n]? = some (.ow ds) ∧ f ds = some es ∧ (xs.set n (.im .non)).all isIm = true ∧ PtS K ks σ0 Fm W B E (.nx (ρ.set i (.bk (.mix false (xs.set n (.ow es)))))) := by
  unfold mutMK at h
  split at h
  · rename_i xs
    split at h
    · rename_i n e1
      split at h
      · rename_i ds e2
        split at h
        · rename_i es e3 e4
          exact ⟨xs, n, ds, es, rfl, e1, e2, e3, e4, h⟩
        · exact h.elim
      · exact h.elim
    · exact h.elim
  · exact h.elim
theorem x_mutMK {xs : List Rt} {i n : Nat} {k : Int} {ds es : List D} {f : List D → Option (List D)} (h1 : ixN xs.length k = some n) (h2 : xs[n]? = some (.ow ds)) (h3 : f ds = some es) (h4 : (xs.set n (.im .non)).all isIm = true) : mutMK (some (.bk (.mix false xs))) i k f ρ = .nx (ρ.set i (.bk (.mix false (xs.set n (.ow es))))) := by
  unfold mutMK
  simp only [h1, h2, h3, h4]
theorem ds_revIn {i : Nat} {k : Int} : DS K W ks (tDrop (tBM0 K "list" rReverse (tOp (rIx K) (tVar i) (tC (.int k))))) (sRevIn i k) := fun σ0 Fm B H σ ρ E I p => by
  obtain ⟨xs, n, ds, es, e, e1, e2, e3, e4, p⟩ := mut_of (ks := ks) (σ0 := σ0) (show PtS K ks σ0 Fm W B E (mutMK ρ[i]? i k (fun ds => some ds.reverse) ρ) from p)
  obtain ⟨b, vs, g1, g2, g3, g4⟩ := mix_at I e
  obtain ⟨w, w1, a, zs, rfl, w3, w4⟩ := paired_at g3 e2
  cases e3
  exact ⟨.ref b, g1, .inl ⟨b, vs, k, .ref a, rfl, rfl, .inl (.inl g2), by unfold atI; rw [Paired.length g3, e1]; exact w1, .inl ⟨rfl, zs, .inl (.inl w3)⟩, a, zs, rfl, rfl, w3, p B _ σ (Same.refl B) (mut_wr I e g1 g2 g3 g4 e2 w1 e4 w4.rev)⟩⟩
/-- x[k].append(c), c a number -/
def sAppIn (i : Nat) (k c : Int) : Env → Out := fun ρ => mutMK ρ[i]? i k (fun ds => if ds.length < 100000 then some (ds ++ [.int c]) else none) ρ
theorem x_appIn {i : Nat} {k c : Int} {ρ : Env} : sAppIn i k c ρ = mutMK ρ[i]? i k (fun ds => if ds.length < 100000 then some (ds ++ [.int c]) else none) ρ := (rfl)
theorem ds_appIn {i : Nat} {k c : Int} : DS K W ks (tDrop (tBM K "list" rAppend (tOp (rIx K) (tVar i) (tC (.int k))) (tCons (tC (.int c)) tNil))) (sAppIn i k c) := fun σ0 Fm B H σ ρ E I p => by
  obtain ⟨xs, n, ds, es, e, e1, e2, e3, e4, p⟩ := mut_of (ks := ks) (σ0 := σ0) (show PtS K ks σ0 Fm W B E (mutMK ρ[i]? i k (fun ds => if ds.length < 100000 then some (ds ++ [.int c]) else none) ρ) from p)
  obtain ⟨b, vs, g1, g2, g3, g4⟩ := mix_at I e
  obtain ⟨w, w1, a, zs, rfl, w3, w4⟩ := paired_at g3 e2
  by_cases hl : ds.length < 100000
  · rw [if_pos hl] at e3
    cases e3
    exact ⟨.ref b, g1, .inl ⟨b, vs, k, .ref a, rfl, rfl, .inl (.inl g2), by unfold atI; rw [Paired.length g3, e1]; exact w1, .inl ⟨rfl, zs, .inl (.inl w3)⟩, a, zs, _, rfl, rfl, w3, by rw [w4.len]; exact sz_lt hl, p B _ σ (Same.refl B) (mut_wr I e g1 g2 g3 g4 e2 w1 e4 (w4.app (.cons (.int c) .nil)))⟩⟩
  · rw [if_neg hl] at e3
    cases e3
/-- an index that is told with a minus -/
theorem de_ixTn {m : Int} (h : DE K W ta fa) : DE K W (tOp (rIx K) ta (tUn (rU fun i => .int (-i)) (tC (.int m)))) (eIxT fa (-m)) := fun ks σ0 Fm B H σ ρ Q I p =>
  h ks σ0 Fm B H σ ρ _ I (PtG.step p fun rv ρ1 B1 H1 v s I1 v1 p1 => by
    refine ⟨m, rfl, ?_⟩
    unfold ixTK at p1
    split at p1
    · rename_i tp xs
      cases e : atI xs (-m) with
      | none => rw [e] at p1; exact p1.elim
      | some r =>
        rw [e] at p1
        obtain ⟨b, vs, w, rfl, h1, h2, h3⟩ := item_v (ks := ks) (σ0 := σ0) v1 e
        have q := h3 Q p1 I1
        cases tp with
        | false => exact .inl ⟨b, vs, -m, w, rfl, rfl, .inl (.inl h1), h2, q⟩
        | true => exact .inr (.inl ⟨b, vs, -m, w, rfl, rfl, .inl (.inl h1), h2, q⟩)
    · exact p1.elim)
end
end DL

/-! DL, part zp: [x, y][e].pop(0), x and y lists of one's own -/
namespace DL
open PySem PySem.Spec PyProof.Rows L2
section
variable {K : PySem.W.Frag} {ks : List Nat} {σ0 : L2.St} {Fm B H H' : Hp} {σ : L2.St} {ρ : Env} {W : WX} {ta tb : TE} {fa fb : Env → R Rv}
def popOK (o : Option Sl) (i : Nat) (ρ : Env) : R Rv :=
  match o with
  | some (.own (d :: ds)) => .ok (.im d) (ρ.set i (.own ds))
  | _ => .bad
def pop2K (i j : Nat) (y : D) (ρ : Env) : R Rv :=
  match y with
  | .int k => cond (k == 0) (popOK ρ[i]? i ρ) (cond (k == 1) (popOK ρ[j]? j ρ) .bad)
  | _ => .bad
def isOw : Option Sl → Bool
  | some (.own _) => true
  | _ => false
def ePop2 (i j : Nat) (f : Env → R Rv) : Env → R Rv := fun ρ => cond (isOw ρ[i]?) (cond (isOw ρ[j]?) ((f ρ).bind fun y ρ => pop2K i j y.d ρ) .bad) .bad
theorem x_ePop2 {i j : Nat} {f : Env → R Rv} {ρ : Env} : ePop2 i j f ρ = cond (isOw ρ[i]?) (cond (isOw ρ[j]?) ((f ρ).bind fun y ρ => pop2K i j y.d ρ) .bad) .bad := (rfl)
theorem x_isOw {ds : List D} : isOw (some (.own ds)) = true := (rfl)
theorem x_pop2F {i j : Nat} {ρ : Env} : pop2K i j (.int (if false = true then 1 else 0)) ρ = popOK ρ[i]? i ρ := (rfl)
theorem x_pop2T {i j : Nat} {ρ : Env} : pop2K i j (.int (if true = true then 1 else 0)) ρ = popOK ρ[j]? j ρ := (rfl)
theorem x_popOK {i : Nat} {d : D} {ds : List D} {ρ : Env} : popOK (some (.own (d :: ds))) i ρ = .ok (.im d) (ρ.set i (.own ds)) := (rfl)
theorem isOw_of {o : Option Sl} (h : isOw o = true) : ∃ ds, o = some (.own ds) := by
  unfold isOw at h
  split at h
  · exact ⟨_, rfl⟩
  · cases h
theorem popOK_of {o : Option Sl} {i : Nat} {ρ : Env} {Q : V → Hp → Prop} (h : PtG K ks σ0 Fm W (vE K Fm σ) B σ Q (popOK o i ρ)) : ∃ d ds, o = some (.own (d :: ds)) ∧ PtG K ks σ0 Fm W (vE K Fm σ) B σ Q (.ok (.im d) (ρ.set i (.own ds))) := by
  unfold popOK at h
  split at h
  · exact ⟨_, _, rfl, h⟩
  · exact h.elim
theorem pop_own {i : Nat} {a : Addr} {Q : V → Hp → Prop} (I : IV K ks σ0 Fm B H σ ρ) (hv : σ[i]? = some (some (.ref a))) (p : PtG K ks σ0 Fm W (vE K Fm σ) B σ Q (popOK ρ[i]? i ρ)) :
    ∃ zs, H a = some (.lst zs) ∧ rPopAt (.ref a) [.int 0] H Q := by
  obtain ⟨d, ds, e, p⟩ := popOK_of p
  obtain ⟨b, zs, g1, g2, g3, g4, g5⟩ := I.own i _ e
  rw [hv] at g1
  cases g1
  cases g5 with
  | @cons y _ ys _ k1 k2 =>
    refine ⟨_, g2, a, _, 0, 0, _, rfl, rfl, g2, by decide, by decide, ?_, rfl, p B _ _ (Same.refl B) (I.wr e hv k2) k1⟩
    unfold seqIndex?
    simp
theorem de_pop2 {i j : Nat} (h : DE K W ta fa) : DE K W (tBM K "list" rPopAt (tOp (rIx K) (tLst (tCons (tVar i) (tCons (tVar j) tNil))) ta) (tCons (tC (.int 0)) tNil)) (ePop2 i j fa) := fun ks σ0 Fm B H σ ρ Q I p => by
  have p : PtG K ks σ0 Fm W (vE K Fm σ) B σ Q (cond (isOw ρ[i]?) (cond (isOw ρ[j]?) ((fa ρ).bind fun y ρ => pop2K i j y.d ρ) .bad) .bad) := p
  cases hi : isOw ρ[i]? with
  | false => rw [hi] at p; exact p.elim
  | true =>
    cases hj : isOw ρ[j]? with
    | false => rw [hi, hj] at p; exact p.elim
    | true =>
      rw [hi, hj] at p
      have p : PtG K ks σ0 Fm W (vE K Fm σ) B σ Q ((fa ρ).bind fun y ρ => pop2K i j y.d ρ) := p
      obtain ⟨xs, ei⟩ := isOw_of hi
      obtain ⟨ys, ej⟩ := isOw_of hj
      obtain ⟨a, zs, a1, a2, _⟩ := I.own i _ ei
      obtain ⟨b, us, b1, b2, _⟩ := I.own j _ ej
      refine ⟨.ref a, a1, .ref b, b1, sz_of (n := 2) (by decide), fun q hq => ?_⟩
      have sB : Same B (upd B q (.lst [.ref a, .ref b])) := fun c u e => by
        rw [upd_ne fun z => by rw [z, I.ex.free hq] at e; cases e]
        exact e
      refine h ks σ0 Fm _ _ σ ρ _ (I.laid hq) (PtG.step (p.mono sB) fun y ρ1 B1 H1 w s1 I1 w1 p1 => ?_)
      have hq1 : H1 q = some (.lst [.ref a, .ref b]) := I1.ex q _ (s1 q _ upd_same)
      unfold pop2K at p1
      split at p1
      · rename_i k ey
        have ew : w = .int k := int_of w1 (by rw [ey]; rfl)
        by_cases k0 : k = 0
        · subst k0
          obtain ⟨ws, g1, g2⟩ := pop_own I1 a1 p1
          exact .inl ⟨q, _, 0, .ref a, rfl, ew, .inl (.inl hq1), rfl, .inl ⟨rfl, ws, .inl (.inl g1)⟩, g2⟩
        · by_cases k1 : k = 1
          · subst k1
            obtain ⟨ws, g1, g2⟩ := pop_own I1 b1 p1
            exact .inl ⟨q, _, 1, .ref b, rfl, ew, .inl (.inl hq1), rfl, .inl ⟨rfl, ws, .inl (.inl g1)⟩, g2⟩
          · rw [show (k == 0) = false from by simp [k0], show (k == 1) = false from by simp [k1]] at p1
            exact p1.elim
      · exact p1.elim
/-! list(range(e)) -/
def rgK (rv : Rv) (ρ : Env) : R Rv :=
  match rv.d with
  | .int n => if 0 ≤ n ∧ n ≤ 100000 then .ok (.own (rngD 0 n.toNat)) ρ else .bad
  | _ => .bad
def eListRg (f : Env → R Rv) : Env → R Rv := fun ρ => (f ρ).bind rgK
theorem x_eListRg {f : Env → R Rv} {ρ : Env} : eListRg f ρ = (f ρ).bind rgK := (rfl)
theorem x_rgK {n : Int} {ρ : Env} (h : 0 ≤ n ∧ n ≤ 100000) : rgK (.im (.int n)) ρ = .ok (.own (rngD 0 n.toNat)) ρ := if_pos h
theorem isA_rng {n : Nat} : IsA K B ((List.range n).map fun i => V.int (0 + (i : Nat))) (rngD 0 n) := by
  have h := isA_ints (K := K) (B := B) ((List.range n).map fun (k : Nat) => (0 : Int) + (k : Int))
  unfold rngD
  rw [List.map_map, List.map_map] at h
  exact h
theorem de_listRg (h : DE K W ta fa) : DE K W (tLstRg (tRg1 ta)) (eListRg fa) := fun ks σ0 Fm B H σ ρ Q I p =>
  h ks σ0 Fm B H σ ρ _ I (PtG.step p fun rv ρ1 B1 H1 v s I1 v1 p1 => by
    obtain ⟨B2, s2, I2, i2⟩ := freeze I1 v1
    unfold rgK at p1
    split at p1
    · rename_i n e
      rw [e] at i2
      by_cases hn : 0 ≤ n ∧ n ≤ 100000
      · rw [if_pos hn] at p1
        have ev : v = .int n := int_of v1 (by rw [e]; rfl)
        refine ⟨n, ev, RgOk.of_le (by omega) (by omega) (by omega) (by omega), fun q hq => ?_⟩
        have e0 : rgV 0 n = (List.range n.toNat).map fun i => V.int (0 + (i : Nat)) := by
          unfold rgV
          rw [show (n - 0).toNat = n.toNat by omega]
        rw [e0]
        exact p1 B2 _ _ s2 (I2.made hq) (I2.madeV hq isA_rng)
      · rw [if_neg hn] at p1
        exact p1.elim
    · exact p1.elim)
/-- a method of what is built in, K by name -/
theorem pe_bmK {X : Cx} {K' : PySem.W.Frag} {T : String} {name : Str} {id : String} {r : V → List V → Hp → VK → Prop} {o e : Expr} {es : List Expr} {to : TE} {t : TA} {apos cpos : Pos} (hK : X.K = K') (pa : PlainAttrs T) (slot : Slot T name id) (hty : typeOf (.builtin id) = pure (.type "method_descriptor")) (hm : MtR X id r) (ho : PE X o to) (ha : PA X (e :: es) t)
    (hbase : attributeBase o name X.env (eval o X.env) = eval o X.env := by rfl)
    (hfew : ((backTo cpos (starEach (e :: es) X.env)).all (fun x => !x.1) && (backToKw cpos (keywordEach [] X.env)).all (fun x => x.1.isSome)
      && decide ((e :: es).length + ([] : List Keyword).length + (if ([] : List Keyword).isEmpty then 0 else 1) < 30)) = true := by rfl)
    (hline : (apos.endLine == cpos.line) = true := by rfl) (hs : starEach (e :: es) X.env = (false, eval e X.env) :: starEach es X.env := by rfl) (hplain : (backTo cpos (starEach es X.env)).any (·.1) = false := by rfl) :
    PE X (.Call (.Attribute o name apos) (e :: es) [] cpos) (tBM K' T r to t) := hK ▸ pe_bm pa slot hty hm ho ha hbase hfew hline hs hplain
/-! x.pop(e), x a list of one's own -/
def popIK (o : Option Sl) (i : Nat) (y : D) (ρ : Env) : R Rv :=
  match o, y with
  | some (.own ds), .int k => if 0 ≤ k ∧ k < 100000 then match ds[k.toNat]? with
    | some d => .ok (.im d) (ρ.set i (.own (ds.eraseIdx k.toNat)))
    | none => .bad
    else .bad
  | _, _ => .bad
def ePopI (i : Nat) (f : Env → R Rv) : Env → R Rv := fun ρ => cond (isOw ρ[i]?) ((f ρ).bind fun y ρ => popIK ρ[i]? i y.d ρ) .bad
theorem x_ePopI {i : Nat} {f : Env → R Rv} {ρ : Env} : ePopI i f ρ = cond (isOw ρ[i]?) ((f ρ).bind fun y ρ => popIK ρ[i]? i y.d ρ) .bad := (rfl)
theorem x_popIK {i : Nat} {k : Nat} {d : D} {ds : List D} {ρ : Env} (hk : k < 100000) (h : ds[k]? = some d) : popIK (some (.own ds)) i (.int (k : Int)) ρ = .ok (.im d) (ρ.set i (.own (ds.eraseIdx k))) := by
  unfold popIK
  simp only
  rw [if_pos (by omega), Int.toNat_natCast, h]
theorem isA_at : ∀ {zs : List V} {ds : List D} {k : Nat} {d : D}, IsA K B zs ds → ds[k]? = some d → ∃ z, zs[k]? = some z ∧ Is K B z d
  | _, _, _, _, .nil, h => by cases h
  | _, _, 0, _, .cons a t, h => by
    cases h
    exact ⟨_, rfl, a⟩
  | _, _, k + 1, _, .cons a t, h => isA_at (k := k) t h
theorem isA_erase : ∀ {zs : List V} {ds : List D} {k : Nat}, IsA K B zs ds → IsA K B (zs.eraseIdx k) (ds.eraseIdx k)
  | _, _, _, .nil => .nil
  | _, _, 0, .cons a t => t
  | _, _, k + 1, .cons a t => .cons a (isA_erase t)
theorem de_popI {i : Nat} (h : DE K W ta fa) : DE K W (tBM K "list" rPopAt (tVar i) (tCons ta tNil)) (ePopI i fa) := fun ks σ0 Fm B H σ ρ Q I p => by
  have p : PtG K ks σ0 Fm W (vE K Fm σ) B σ Q (cond (isOw ρ[i]?) ((fa ρ).bind fun y ρ => popIK ρ[i]? i y.d ρ) .bad) := p
  cases hi : isOw ρ[i]? with
  | false => rw [hi] at p; exact p.elim
  | true =>
    rw [hi] at p
    have p : PtG K ks σ0 Fm W (vE K Fm σ) B σ Q ((fa ρ).bind fun y ρ => popIK ρ[i]? i y.d ρ) := p
    obtain ⟨xs, ei⟩ := isOw_of hi
    obtain ⟨a, zs, a1, a2, _⟩ := I.own i _ ei
    refine ⟨.ref a, a1, .inl ⟨rfl, zs, .inl (.inl a2)⟩, h ks σ0 Fm B H σ ρ _ I (PtG.step p fun y ρ1 B1 H1 w s1 I1 w1 p1 => ?_)⟩
    obtain ⟨B2, s2, I2, i2⟩ := freeze I1 w1
    unfold popIK at p1
    split at p1
    · rename_i ds k e1 e2
      rw [e2] at i2
      have ew : w = .int k := int_of w1 (by rw [e2]; rfl)
      by_cases hk : 0 ≤ k ∧ k < 100000
      · rw [if_pos hk] at p1
        cases hd : ds[k.toNat]? with
        | none => rw [hd] at p1; exact p1.elim
        | some d =>
          rw [hd] at p1
          obtain ⟨b, us, g1, g2, g3, g4, g5⟩ := I1.own i _ e1
          rw [a1] at g1
          cases g1
          obtain ⟨u, k1, k2⟩ := isA_at g5 hd
          have hl : k.toNat < us.length := (List.getElem?_eq_some_iff.mp k1).1
          refine ⟨a, us, k, k.toNat, u, rfl, by rw [ew], g2, by omega, by omega, ?_, k1, p1 B1 _ _ (Same.refl B1) (I1.wr e1 a1 (isA_erase g5)) k2⟩
          have h1 : ¬ k < 0 := by omega
          have h2 : k < us.length := by omega
          simp [seqIndex?, h1, h2, hk.1]
      · rw [if_neg hk] at p1
        exact p1.elim
    · exact p1.elim
end
end DL

/-! DL, part zn: zip of two lists, its tuple kept by a name -/
namespace L2
open PySem PySem.Spec PyProof.Rows PySem.W
/-- a zip's state: o, the tuple it owns -/
abbrev ZS (h : Heap) (z TI TO : Addr) (o : Value) (f : Bool) : Prop :=
  h.get? z = some { cls := .type "zip", dict := none, data := .fields #[o, .bool f, .bool false, .ref TI, .ref TO], slots := #[] }
def OwnV (o : Value) : Prop := o = .none ∨ ∃ T : Addr, o = rawInt T
def DeadV (h : Heap) (o : Value) : Prop := o = .none ∨ ∃ T : Addr, o = rawInt T ∧ h.get? T = none
section
variable {prog : Program} {w : World} {A : Around} {E : Value → Shared → Prop} {s : Shared} {z TI TO i1 i2 l1 l2 : Addr} {k1 k2 : Nat} {xs ys : Array Value} {x y a b o : Value} {f : Bool}
theorem zn_dead {c : Addr} {Q : Option Obj → Shared → Prop} (hc : s.heap.get? c = none) (h : Q none s) : wpAny (model prog w) A (loadIfAlive c) Q E s := by
  have h' : Q (s.heap.get? c) s := by rw [hc]; exact h
  exact fun _ _ _ => h'
theorem zn_isFree {Q : Bool → Shared → Prop} (hz : ZS s.heap z TI TO o f) (ho : DeadV s.heap o) (h : Q true s) : wpAny (model prog w) A (Builtin.SmallTypes.ownedTupleIsFree (.ref z)) Q E s := by
  unfold Builtin.SmallTypes.ownedTupleIsFree
  rcases ho with rfl | ⟨T, rfl, hT⟩
  · exact wpAny_bind (wpAny_field hz rfl (x := .none) rfl (wpAny_pure h))
  · refine wpAny_bind (wpAny_field hz rfl (x := rawInt T) rfl ?_)
    show wpAny _ _ (loadIfAlive ((T : Int).toNat) >>= _) _ _ _
    rw [Int.toNat_natCast]
    exact wpAny_bind (zn_dead hT (by simp only [Option.isNone_none, if_true]; exact wpAny_pure h))
/-- ahead of the drawing -/
theorem zn_head {Q : Fin → Shared → Prop} (hz : ZS s.heap z TI TO o f) (ho : DeadV s.heap o) (hTI : IsPair s.heap TI (.ref i1) (.ref i2)) {k : Bool → Sem Fin}
    (hk : wpAny (model prog w) A (k true) Q E s) : wpAny (model prog w) A (Builtin.SmallTypes.ownedTupleIsFree (.ref z) >>= k) Q E s := wpAny_bind (zn_isFree hz ho hk)
theorem zn_item_free {Q : Value → Shared → Prop} (D : ZipApart z TI TO i1 i2 l1 l2) (hz : ZS s.heap z TI TO o f) (ho : DeadV s.heap o) (hTI : IsPair s.heap TI (.ref i1) (.ref i2)) (hTO : IsPair s.heap TO a b)
    (h1 : s.heap.IsListIter i1 l1 k1) (h2 : s.heap.IsListIter i2 l2 k2) (hl1 : s.heap.IsList l1 xs) (hl2 : s.heap.IsList l2 ys) (hx : xs[k1]? = some x) (hy : ys[k2]? = some y)
    (hQ : ∀ h', ZS h' z TI TO (rawInt s.heap.objs.size) false → IsPair h' TO x y → h'.IsListIter i1 l1 (k1 + 1) → h'.IsListIter i2 l2 (k2 + 1) → IsPair h' s.heap.objs.size x y → h'.objs.size = s.heap.objs.size + 1 →
      (∀ c o, c ≠ z → c ≠ TO → c ≠ i1 → c ≠ i2 → s.heap.get? c = some o → h'.get? c = some o) → Q (.ref s.heap.objs.size) { s with heap := h' }) :
    wpAny (model prog w) A (Builtin.«zip.__next__» ⟨[.ref z], []⟩) (fun fin s' => ∃ v, fin = .done (.ret v) ∧ Q v s') E s := by
  refine wpAny_bind (m := field (.ref z) 2) (wpAny_field hz rfl (x := .bool false) rfl (wpAny_bind (m := field (.ref z) 3) (wpAny_field hz rfl (x := .ref TI) rfl (wpAny_bind (wpAny_seqItems hTI rfl ?_)))))
  refine zn_head hz ho hTI ?_
  simp only [if_true]
  refine wpAny_bind (wpAny_rule (wpAny_bind (wpAny_field hz rfl (x := .ref TO) rfl (wpAny_bind (wpAny_setField_rec hz (by simp) fun g1 z1 b1 => ?_)))))
  have z1 : ZS g1 z TI TO .ellipsis f := z1
  refine wpAny_bind ?_
  simp only [List.zipIdx_cons, List.zipIdx_nil, List.forIn_cons, List.forIn_nil]
  have L1 := h1.extBut b1.extBut D.i1z
  have M1 := hl1.extBut b1.extBut D.l1z
  refine wpAny_bind (wpAny_bind (wpAny_onRaise (wpAny_bind (m := Builtin.SmallTypes.nextOf (.ref i1)) (wpAny_nextOf_list_item (s := { s with heap := g1 }) L1 M1 hx fun g2 L2 b2 => wpAny_pure ?_))))
  have P2 : IsPair g2 TO a b := b2.extBut _ _ D.TOi1 (b1.extBut _ _ D.TOz hTO)
  refine wpAny_bind (wpAny_seqItems P2 rfl (wpAny_bind (wpAny_updateSeq_pair P2 fun g3 P3 b3 => wpAny_bind (wpAny_letGo (wpAny_pure ?_)))))
  have P3 : IsPair g3 TO x b := P3
  have L3 : g3.IsListIter i2 l2 k2 := ((h2.extBut b1.extBut D.i2z).extBut b2.extBut D.i12.symm).extBut b3.extBut D.TOi2.symm
  have M3 : g3.IsList l2 ys := ((hl2.extBut b1.extBut D.l2z).extBut b2.extBut D.l2i1).extBut b3.extBut D.l2TO
  refine wpAny_bind (wpAny_bind (wpAny_onRaise (wpAny_bind (m := Builtin.SmallTypes.nextOf (.ref i2)) (wpAny_nextOf_list_item (s := { s with heap := g3 }) L3 M3 hy fun g4 L4 b4 => wpAny_pure ?_))))
  have P4 : IsPair g4 TO x b := b4.extBut _ _ D.TOi2 P3
  refine wpAny_bind (wpAny_seqItems P4 rfl (wpAny_bind (wpAny_updateSeq_pair P4 fun g5 P5 b5 => wpAny_bind (wpAny_letGo (wpAny_pure (wpAny_pure ?_))))))
  have P5 : IsPair g5 TO x y := P5
  refine wpAny_bind (wpAny_seqItems P5 rfl (wpAny_bind (wpAny_newTuple ?_)))
  have hsz : g5.objs.size = s.heap.objs.size := by rw [b5.1, b4.1, b3.1, b2.1, b1.1]
  have z5 : ZS g5 z TI TO .ellipsis f := b5.extBut _ _ D.TOz.symm (b4.extBut _ _ D.i2z.symm (b3.extBut _ _ D.TOz.symm (b2.extBut _ _ D.i1z.symm z1)))
  have L5 : g5.IsListIter i1 l1 (k1 + 1) := ((L2.extBut b3.extBut D.TOi1.symm).extBut b4.extBut D.i12).extBut b5.extBut D.TOi1.symm
  have R5 : g5.IsListIter i2 l2 (k2 + 1) := L4.extBut b5.extBut D.TOi2.symm
  have hzlt : z < g5.objs.size := Heap.lt_size z5
  show wpAny _ _ (Builtin.SmallTypes.ownedTupleHandOut (.ref z) (.ref g5.objs.size) >>= _) _ _ _
  unfold Builtin.SmallTypes.ownedTupleHandOut
  have z6 : ZS (g5.push { cls := .type "tuple", data := .seq #[x, y] }) z TI TO .ellipsis f := Heap.get?_push_of_some _ z5
  refine wpAny_bind (wpAny_bind (wpAny_setField_rec z6 (by simp) fun g7 z7 b7 => ?_))
  have z7 : ZS g7 z TI TO (rawInt g5.objs.size) f := z7
  refine wpAny_setField_rec z7 (by simp) fun g8 z8 b8 => ?_
  have z8 : ZS g8 z TI TO (rawInt g5.objs.size) false := z8
  have up : ∀ c o, c ≠ z → g5.get? c = some o → g8.get? c = some o := fun c o c1 e => b8.extBut _ _ c1 (b7.extBut _ _ c1 (Heap.get?_push_of_some _ e))
  have T8 : IsPair g8 g5.objs.size x y := b8.extBut _ _ (Nat.ne_of_gt hzlt) (b7.extBut _ _ (Nat.ne_of_gt hzlt) (Heap.get?_push_size _ rfl))
  have s8 : g8.objs.size = g5.objs.size + 1 := by rw [b8.1, b7.1, Heap.size_push]
  rw [hsz] at z8 T8 s8
  refine wpAny_pure ⟨_, rfl, ?_⟩
  show Q (.ref g5.objs.size) _
  rw [hsz]
  exact hQ g8 z8 (up _ _ D.TOz P5) (L5.at fun o e => up _ o D.i1z e) (R5.at fun o e => up _ o D.i2z e) T8 s8 fun c o c1 c2 c3 c4 e =>
    up c o c1 (b5.extBut _ _ c2 (b4.extBut _ _ c4 (b3.extBut _ _ c2 (b2.extBut _ _ c3 (b1.extBut _ _ c1 e)))))
theorem zn_end_free {Q : Fin → Shared → Prop} (hh : A.handled = none) (D : ZipApart z TI TO i1 i2 l1 l2) (hz : ZS s.heap z TI TO o f) (ho : DeadV s.heap o) (hTI : IsPair s.heap TI (.ref i1) (.ref i2)) (hTO : IsPair s.heap TO a b)
    (h1 : s.heap.IsListIter i1 l1 k1) (h2 : s.heap.IsListIter i2 l2 k2) (hl1 : s.heap.IsList l1 xs) (hl2 : s.heap.IsList l2 ys) (hend : xs[k1]? = none ∨ ys[k2]? = none)
    (hE : ∀ h' e, (∀ c o, c ≠ z → c ≠ TO → c ≠ i1 → c ≠ i2 → s.heap.get? c = some o → h'.get? c = some o) → (∃ o, h'.get? e = some o ∧ o.cls = .type "StopIteration") → E (.ref e) { s with heap := h' }) :
    wpAny (model prog w) A (Builtin.«zip.__next__» ⟨[.ref z], []⟩) Q E s := by
  refine wpAny_bind (m := field (.ref z) 2) (wpAny_field hz rfl (x := .bool false) rfl (wpAny_bind (m := field (.ref z) 3) (wpAny_field hz rfl (x := .ref TI) rfl (wpAny_bind (wpAny_seqItems hTI rfl ?_)))))
  refine zn_head hz ho hTI ?_
  simp only [if_true]
  refine wpAny_bind (wpAny_rule (wpAny_bind (wpAny_field hz rfl (x := .ref TO) rfl (wpAny_bind (wpAny_setField_rec hz (by simp) fun g1 z1 b1 => ?_)))))
  have z1 : ZS g1 z TI TO .ellipsis f := z1
  refine wpAny_bind ?_
  simp only [List.zipIdx_cons, List.zipIdx_nil, List.forIn_cons, List.forIn_nil]
  have L1 := h1.extBut b1.extBut D.i1z
  have M1 := hl1.extBut b1.extBut D.l1z
  have fin : ∀ {g : Heap} {e : Addr}, ZS g z TI TO .ellipsis f → (∃ o, g.get? e = some o ∧ o.cls = .type "StopIteration") → (∀ c o, c ≠ z → c ≠ TO → c ≠ i1 → c ≠ i2 → s.heap.get? c = some o → g.get? c = some o) →
      wpAny (model prog w) A (setField (.ref z) 0 .none) (fun _ s2 => E (.ref e) s2) E { s with heap := g } := fun {g e} zg he hk => by
    obtain ⟨oe, hoe, hce⟩ := he
    have hez : e ≠ z := fun q => by subst q; rw [zg] at hoe; cases hoe; simp at hce
    exact wpAny_setField_rec zg (by simp) fun g' _ b' => hE g' e (fun c o c1 c2 c3 c4 q => b'.extBut _ _ c1 (hk c o c1 c2 c3 c4 q)) ⟨oe, b'.extBut _ _ hez hoe, hce⟩
  refine wpAny_bind (wpAny_bind (wpAny_onRaise ?_))
  show wpAny _ _ (Builtin.SmallTypes.nextOf (.ref i1) >>= _) _ _ _
  cases hx : xs[k1]? with
  | none =>
    exact wpAny_bind (wpAny_nextOf_list_end (s := { s with heap := g1 }) hh L1 M1 hx fun g2 e b2 he => fin (b2 _ _ D.i1z.symm z1) he fun c o c1 _ c3 _ q => b2 _ _ c3 (b1.extBut _ _ c1 q))
  | some x =>
    have hy : ys[k2]? = none := by rcases hend with q | q; rw [hx] at q; cases q; exact q
    refine wpAny_bind (wpAny_nextOf_list_item (s := { s with heap := g1 }) L1 M1 hx fun g2 L2 b2 => wpAny_pure ?_)
    have P2 : IsPair g2 TO a b := b2.extBut _ _ D.TOi1 (b1.extBut _ _ D.TOz hTO)
    refine wpAny_bind (wpAny_seqItems P2 rfl (wpAny_bind (wpAny_updateSeq_pair P2 fun g3 P3 b3 => wpAny_bind (wpAny_letGo (wpAny_pure ?_)))))
    refine wpAny_bind (wpAny_bind (wpAny_onRaise ?_))
    show wpAny _ _ (Builtin.SmallTypes.nextOf (.ref i2) >>= _) _ _ _
    exact wpAny_bind (wpAny_nextOf_list_end (s := { s with heap := g3 }) hh (((h2.extBut b1.extBut D.i2z).extBut b2.extBut D.i12.symm).extBut b3.extBut D.TOi2.symm) (((hl2.extBut b1.extBut D.l2z).extBut b2.extBut D.l2i1).extBut b3.extBut D.l2TO) hy fun g4 e b4 he =>
      fin (b4 _ _ D.i2z.symm (b3.extBut _ _ D.TOz.symm (b2.extBut _ _ D.i1z.symm z1))) he fun c o c1 c2 c3 c4 q => b4 _ _ c4 (b3.extBut _ _ c2 (b2.extBut _ _ c3 (b1.extBut _ _ c1 q))))
theorem zn_cases (ho : OwnV o) : DeadV s.heap o ∨ ∃ (T : Addr) (oT : Obj), o = rawInt T ∧ s.heap.get? T = some oT := by
  rcases ho with rfl | ⟨T, rfl⟩
  · exact .inl (.inl rfl)
  · cases h : s.heap.get? T with
    | none => exact .inl (.inr ⟨T, rfl, h⟩)
    | some oT => exact .inr ⟨T, oT, rfl, h⟩
theorem zn_next {Q : Option Value → Shared → Prop} (D : ZipApart z TI TO i1 i2 l1 l2) (hz : ZS s.heap z TI TO o f) (ho : OwnV o) (hTI : IsPair s.heap TI (.ref i1) (.ref i2)) (hTO : ∃ a b, IsPair s.heap TO a b)
    (h1 : s.heap.IsListIter i1 l1 k1) (h2 : s.heap.IsListIter i2 l2 k2) (hl1 : s.heap.IsList l1 xs) (hl2 : s.heap.IsList l2 ys) (hx : xs[k1]? = some x) (hy : ys[k2]? = some y)
    (hQ : ∀ h' o' f', ZS h' z TI TO o' f' → OwnV o' → (∃ a b, IsPair h' TO a b) → h'.IsListIter i1 l1 (k1 + 1) → h'.IsListIter i2 l2 (k2 + 1) → IsPair h' s.heap.objs.size x y → h'.objs.size = s.heap.objs.size + 1 →
      (∀ c o, c ≠ z → c ≠ TO → c ≠ i1 → c ≠ i2 → s.heap.get? c = some o → h'.get? c = some o) → Q (some (.ref s.heap.objs.size)) { s with heap := h' }) :
    wpAny (model prog w) A (pyNext (.ref z)) Q E s := by
  obtain ⟨a, b, hTO⟩ := hTO
  rcases zn_cases (s := s) ho with hd | ⟨T, oT, rfl, hT⟩
  · have hTy : s.TypeIs (.ref z) "zip" := ⟨_, hz, rfl⟩
    unfold pyNext
    exact wpAny_bind (wpAny_attempt (wpAny_callSpecial?_slot (name := Str.ofString "__next__") hTy F.slot_zip_next (wpAny_call_entry F.slot_zip_next hTy F.entry_zip_next
      (zn_item_free D hz hd hTI hTO h1 h2 hl1 hl2 hx hy fun h' a1 a2 a3 a4 a5 a6 a7 => wpAny_pure (hQ h' _ _ a1 (.inr ⟨_, rfl⟩) ⟨_, _, a2⟩ a3 a4 a5 a6 a7)) (F.args_zip_next_1 _))))
  · exact wpAny_pyNext_zip_item_held D hz hT hTI h1 h2 hl1 hl2 hx hy fun h' a1 a2 a3 a4 a5 a6 =>
      hQ h' _ _ a1 (.inr ⟨_, rfl⟩) ⟨_, _, a6 _ _ D.TOz D.TOi1 D.TOi2 hTO⟩ a2 a3 a4 a5 fun c o c1 _ c3 c4 e => a6 c o c1 c3 c4 e
theorem zn_end {Q : Option Value → Shared → Prop} (hh : A.handled = none) (D : ZipApart z TI TO i1 i2 l1 l2) (hz : ZS s.heap z TI TO o f) (ho : OwnV o) (hTI : IsPair s.heap TI (.ref i1) (.ref i2)) (hTO : ∃ a b, IsPair s.heap TO a b)
    (h1 : s.heap.IsListIter i1 l1 k1) (h2 : s.heap.IsListIter i2 l2 k2) (hl1 : s.heap.IsList l1 xs) (hl2 : s.heap.IsList l2 ys) (hend : xs[k1]? = none ∨ ys[k2]? = none)
    (hQ : ∀ h', (∀ c o, c ≠ z → c ≠ TO → c ≠ i1 → c ≠ i2 → s.heap.get? c = some o → h'.get? c = some o) → Q none { s with heap := h' }) : wpAny (model prog w) A (pyNext (.ref z)) Q E s := by
  obtain ⟨a, b, hTO⟩ := hTO
  rcases zn_cases (s := s) ho with hd | ⟨T, oT, rfl, hT⟩
  · have hTy : s.TypeIs (.ref z) "zip" := ⟨_, hz, rfl⟩
    unfold pyNext
    refine wpAny_bind (wpAny_attempt (wpAny_callSpecial?_slot (name := Str.ofString "__next__") hTy F.slot_zip_next (wpAny_call_entry F.slot_zip_next hTy F.entry_zip_next
      (zn_end_free hh D hz hd hTI hTO h1 h2 hl1 hl2 hend fun h' e hk he => ?_) (F.args_zip_next_1 _))))
    obtain ⟨o, ho, hc⟩ := he
    exact wpAny_bind (wpAny_isInstance (T := "StopIteration") (b := true) ⟨o, ho, hc⟩ isSubtype_stop (wpAny_pure (hQ _ hk)))
  · exact wpAny_pyNext_zip_end_held hh D hz hT hTI h1 h2 hl1 hl2 hend fun h' hk => hQ h' fun c o c1 _ c3 c4 e => hk c o c1 c3 c4 e
end
end L2
namespace L2
open PySem PySem.Spec PyProof.Rows PySem.W
theorem zn_self {prog : Program} {w : World} {A : Around} {E : Value → Shared → Prop} {s : Shared} {z TI TO : Addr} {o : Value} {f : Bool} {Q : Value → Shared → Prop} (hz : ZS s.heap z TI TO o f) (h : Q (.ref z) s) : wpAny (model prog w) A (pyIter (.ref z)) Q E s := by
  have hT : s.TypeIs (.ref z) "zip" := ⟨_, hz, rfl⟩
  refine wpAny_pyIter_slot hT F.slot_zip_iter (wpAny_call_entry F.slot_zip_iter hT F.entry_zip_iter ?_ (F.args_zip_iter_1 _))
  exact wpAny_pure (a := Fin.done (.ret (.ref z))) ⟨_, rfl, "zip", _, hT, F.slot_zip_next.lookup, h⟩
theorem zn_turn {P : Program} {w : World} {K : PySem.W.Frag} {n : Str} {tpos : Pos} {a b z TI TO i1 i2 : Addr} (D : ZipApart z TI TO i1 i2 a b) :
    Turn P w K (.Name n tpos) (Itz K a b) [z, TI, TO, i1, i2] z (fun i h => (∃ o f, ZS h z TI TO o f ∧ OwnV o) ∧ IsPair h TI (.ref i1) (.ref i2) ∧ (∃ x y, IsPair h TO x y) ∧ h.IsListIter i1 a i ∧ h.IsListIter i2 b i) where
  mem := List.mem_cons_self
  obj := fun i h st c hc => by
    obtain ⟨⟨_, _, hz, _⟩, hTI, ⟨_, _, hTO⟩, ⟨o1, e1, _, d1⟩, ⟨o2, e2, _, d2⟩⟩ := st
    simp only [List.mem_cons, List.not_mem_nil, or_false] at hc
    rcases hc with rfl | rfl | rfl | rfl | rfl
    · exact ⟨_, hz, fun v q => nomatch q⟩
    · exact ⟨_, hTI, fun v q => nomatch q⟩
    · exact ⟨_, hTO, fun v q => nomatch q⟩
    · exact ⟨o1, e1, fun v q => by rw [d1] at q; cases q⟩
    · exact ⟨o2, e2, fun v q => by rw [d2] at q; cases q⟩
  keep := fun i h h' st k => by
    obtain ⟨⟨o, f, hz, ho⟩, hTI, ⟨x, y, hTO⟩, h1, h2⟩ := st
    exact ⟨⟨o, f, k z (by simp) _ hz, ho⟩, k TI (by simp) _ hTI, ⟨x, y, k TO (by simp) _ hTO⟩, h1.at fun o q => k i1 (by simp) o q, h2.at fun o q => k i2 (by simp) o q⟩
  item := by
    intro X hP hw hK hc i pins s σ H E I hf st hg
    subst hP hw hK
    obtain ⟨⟨o, f, hz, ho⟩, hTI, hTO, h1, h2⟩ := st
    obtain ⟨xs, ys, x, y, hqx, hqy, hx, hy⟩ := hg
    obtain ⟨its, rv, p, _⟩ := I.list hqx
    obtain ⟨its2, rv2, p2, _⟩ := I.list hqy
    obtain ⟨u, hu, ru⟩ := rv.get hx
    obtain ⟨u2, hu2, ru2⟩ := rv2.get hy
    refine zn_next D hz ho hTI hTO h1 h2 p.isList p2.isList (x := u) (y := u2) (by simpa using hu) (by simpa using hu2) fun h' o' f' z' ho' TO' h1' h2' hT hsz hk => ?_
    refine ⟨_, rfl, ?_⟩
    unfold letOwnedTupleGo
    refine wpAny_pure ?_
    have new : ObjOk X.prog X.w (upd H s.heap.objs.size (.tup [x, y])) h' s.heap.objs.size (.tup [x, y]) :=
      ⟨by show 2 ≤ sizeLine; decide, [u, u2], .cons ru (.cons ru2 .nil), ⟨_, hT, rfl, _, rfl⟩⟩
    have I1 : Inv X pins σ (upd H s.heap.objs.size (.tup [x, y])) { s with heap := h' } :=
      I.turnedNew (t' := s.toks) (ch := [z, TI, TO, i1, i2]) (fun c o hb q => hk c o (fun q' => hb (by simp [q'])) (fun q' => hb (by simp [q'])) (fun q' => hb (by simp [q'])) (fun q' => hb (by simp [q'])) q) hf (Nat.le_refl _) new
    refine ⟨.ref s.heap.objs.size, _, I1, rfl, ⟨_, x, y, rfl, I.hok.fresh (Nat.le_refl _), rfl, fun l hl => by rw [I.list_inj hl hqx]; exact hx, fun l hl => by rw [I.list_inj hl hqy]; exact hy⟩, ⟨⟨o', f', z', ho'⟩, hk _ _ D.TIz D.TITO D.TIi1 D.TIi2 hTI, TO', h1', h2'⟩, fun c hcm => ?_⟩
    have hlt : c < s.heap.objs.size := by
      simp only [List.mem_cons, List.not_mem_nil, or_false] at hcm
      rcases hcm with q | q | q | q | q
      · rw [q]; exact Heap.lt_size hz
      · rw [q]; exact Heap.lt_size hTI
      · rw [q]; obtain ⟨_, _, e⟩ := hTO; exact Heap.lt_size e
      · rw [q]; obtain ⟨_, e1, _⟩ := h1; exact Heap.lt_size e1
      · rw [q]; obtain ⟨_, e2, _⟩ := h2; exact Heap.lt_size e2
    rw [upd_ne (Nat.ne_of_lt hlt)]
    exact (hf c hcm).1
  done := by
    intro X hP hw hK hc i pins s σ H E I hf st hg
    subst hP hw hK
    obtain ⟨⟨o, f, hz, ho⟩, hTI, hTO, h1, h2⟩ := st
    obtain ⟨xs, ys, hqx, hqy, hend⟩ := hg
    obtain ⟨its, rv, p, _⟩ := I.list hqx
    obtain ⟨its2, rv2, p2, _⟩ := I.list hqy
    have l1 := rv.length
    have l2 := rv2.length
    have he : its.toArray[i]? = none ∨ its2.toArray[i]? = none := by
      rcases hend with q | q
      · exact .inl (by simp; omega)
      · exact .inr (by simp; omega)
    exact zn_end (I.ok.hd hc) D hz ho hTI hTO h1 h2 p.isList p2.isList he fun h' hk => ⟨rfl, I.turnedL (t' := s.toks) (ch := [z, TI, TO, i1, i2]) (fun c o hb q =>
      hk c o (fun q' => hb (by simp [q'])) (fun q' => hb (by simp [q'])) (fun q' => hb (by simp [q'])) (fun q' => hb (by simp [q'])) q) hf⟩
  self := fun A i s Q E st h => by
    obtain ⟨⟨o, f, hz, _⟩, _⟩ := st
    exact zn_self hz h
/-- zip, one name as the target -/
theorem pi_zipN {X : Cx} {e e2 : Expr} {ta : TA} {p pos tpos : Pos} {n : Str} (hg : Gl X "zip") (hm : X.mg "zip" = none) (ha : PA X [e, e2] ta)
    (hs : starEach [e, e2] X.env = (false, eval e X.env) :: starEach [e2] X.env := by rfl) (hpl : (backTo pos (starEach [e2] X.env)).any (·.1) = false := by rfl) :
    PI X (.Name n tpos) (.Call (.Name "zip" p) [e, e2] [] pos) (iZip X.K ta) := by
  refine ⟨fun pins s σ H R I h => ?_⟩
  refine Call_ (ld_blt I hg hm PyProof.Rows.boot_zip (PyProof.Rows.callWith_type1 (thn (ha.run pos pins s σ H _ I h) fun us s1 ⟨vs, H1, I1, r1, q1⟩ => ?_) hs hpl))
  obtain ⟨a, b, xs, ys, ex, hqx, hqy, q⟩ := q1
  subst ex
  obtain ⟨u, us, rfl, ru, r2⟩ : ∃ u us', us = u :: us' ∧ RelV (.ref a) u ∧ Vals [.ref b] us' := by cases r1 with | cons r rr => exact ⟨_, _, rfl, r, rr⟩
  obtain ⟨u2, rfl, ru2⟩ := vals1 r2
  cases ru
  cases ru2
  obtain ⟨its, rv, p1, _⟩ := I1.list hqx
  obtain ⟨its2, rv2, p2, _⟩ := I1.list hqy
  refine call_zip_2 p1.isList p2.isList fun h' hz hTI hTO h1 h2 hsz hk => zn_self hz ?_
  have I2 : Inv X pins σ H1 { s1 with heap := h' } := I1.kept (t' := s1.toks) hk
  refine ⟨s1.heap.objs.size + 4, [s1.heap.objs.size + 4, s1.heap.objs.size + 2, s1.heap.objs.size + 3, s1.heap.objs.size, s1.heap.objs.size + 1], _, _, H1, rfl, I2, zn_turn (PySem.W.ktu_apart s1.heap.objs.size a b p1.lt p2.lt), ⟨⟨_, _, hz, .inl rfl⟩, hTI, ⟨_, _, hTO⟩, h1, h2⟩, fun c hcm => ?_, q⟩
  have hle : s1.heap.objs.size ≤ c := by
    simp only [List.mem_cons, List.not_mem_nil, or_false] at hcm
    rcases hcm with rfl | rfl | rfl | rfl | rfl <;> first | exact Nat.le_add_right _ _ | exact Nat.le_refl _
  exact I1.fpOk hle (I1.hok.fresh hle)
theorem pi_zipNK {X : Cx} {K : PySem.W.Frag} {e e2 : Expr} {ta : TA} {p pos tpos : Pos} {n : Str} (hK : X.K = K) (hg : Gl X "zip") (hm : X.mg "zip" = none) (ha : PA X [e, e2] ta)
    (hs : starEach [e, e2] X.env = (false, eval e X.env) :: starEach [e2] X.env := by rfl) (hpl : (backTo pos (starEach [e2] X.env)).any (·.1) = false := by rfl) :
    PI X (.Name n tpos) (.Call (.Name "zip" p) [e, e2] [] pos) (iZip K ta) := hK ▸ pi_zipN hg hm ha hs hpl
end L2
namespace L2
open PySem PySem.Spec PyProof.Rows
/-- is not, of a number or a truth and a truth -/
def rIsNotIB : R2 := fun x y H Q => (∃ a b, x = .bl a ∧ y = .bl b ∧ Q (.bl (!decide (a = b))) H) ∨ ∃ i b, x = .int i ∧ y = .bl b ∧ Q (.bl true) H
theorem op_isnot_ib {X : Cx} : OpR X (compareOp .IsNot) rIsNotIB := by
  intro pins s σ H x y v u Q I rx ry h
  rcases h with h | ⟨i, b, rfl, rfl, q⟩
  · exact op_isnot_bl pins s σ H x y v u Q I rx ry h
  · obtain ⟨t, rfl⟩ := rx
    cases (show u = Value.bool b from ry)
    exact wpAny_isNot_other rfl (fun z => nomatch z) ⟨.bl true, H, I, rfl, q⟩
end L2
namespace DL
open PySem PySem.Spec PyProof.Rows L2
def cIsNotIB : D → D → Option Rv
  | .bl a, .bl b => some (.im (.bl (!decide (a = b))))
  | .int _, .bl _ => some (.im (.bl true))
  | _, _ => none
theorem x_isNotIB1 {p q : Bool} : cIsNotIB (.bl p) (.bl q) = some (.im (.bl (!decide (p = q)))) := (rfl)
theorem x_isNotIB2 {i : Int} {q : Bool} : cIsNotIB (.int i) (.bl q) = some (.im (.bl true)) := (rfl)
theorem od_isNotIB {K : PySem.W.Frag} : OpD K rIsNotIB cIsNotIB := by
  intro ks σ0 Fm B H σ ρ x y dx dy rv Q I hx hy e q
  unfold cIsNotIB at e
  split at e
  · cases e
    exact .inl ⟨_, _, hx.blV, hy.blV, q B H _ (Same.refl B) I (.bl _)⟩
  · cases e
    exact .inr ⟨_, _, hx.intV, hy.blV, q B H _ (Same.refl B) I (.bl _)⟩
  · cases e
end DL

/-! DL, part zd: {} -/
namespace DL
open PySem PySem.Spec PyProof.Rows L2
section
variable {K : PySem.W.Frag} {W : WX}
def eDct0 : Env → R Rv := fun ρ => .ok (.im (.dic [])) ρ
theorem x_eDct0 {ρ : Env} : eDct0 ρ = .ok (.im (.dic [])) ρ := (rfl)
theorem de_dct0 : DE K W tDNewK eDct0 := fun ks σ0 Fm B H σ ρ Q I p q hq =>
  p (upd B q (.dK [])) _ (.ref q) (fun c u e => by
    rw [upd_ne fun z => by rw [z, I.ex.free hq] at e; cases e]
    exact e) (I.laid hq) (.dic upd_same .nil)
end
end DL

/-! DL, part ze: an exception caught as a name, kept as another name -/
namespace DL
open PySem PySem.Spec PyProof.Rows L2
section
variable {X : Cx} {ps : List (Addr × Obj)} {τ : L2.St} {G : Hp} {t : Shared} {q : Addr}
/-- an exception's object that stands in the heap is followed from here on -/
theorem layE {ob : Obj} {fs : Array Value} {C : Addr} {dd : Option Addr} (J : Inv X ps τ G t) (e1 : t.heap.get? q = some ob) (e2 : Zc (.ref C) dd ob)
    (e3 : ob.data = .fields fs) (n0 : G q = none) (n1 : q ∈ X.ex ∨ X.s_0.heap.get? q = none) (n2 : q ≠ X.env.locals) (n3 : ∀ r ∈ X.pn ++ ps, r.1 ≠ q) : Inv X ps τ (upd G q (ExK C dd q)) t := by
  have off : ∀ {b : Addr} {u : HO}, G b = some u → upd G q (ExK C dd q) b = some u := fun {b u} e =>
    (upd_ne (ne_of_none e n0)).trans e
  refine ⟨J.ok, J.os, J.bare, ⟨J.base.keep, J.base.slot, fun b u h1 h2 h3 => ?_, J.base.there, fun b u h => off (J.base.tups b u h), fun b u v h => off (J.base.frzs b u v h), fun b u h => ?_⟩,
    J.loc, J.cell, ?_, fun x c h => ?_, fun r hr => ?_, fun b u h => ?_, J.len⟩
  · have hb : b ≠ q := fun z => by
      rcases n1 with n1 | n1
      · exact h3 (by rw [z]; exact n1)
      · rw [z, n1] at h1
        cases h1
    rw [upd_ne hb]
    exact J.base.free b u h1 h2 h3
  · obtain ⟨m, h2⟩ := J.base.tbls b u h
    exact ⟨m, off h2⟩
  · rw [upd_ne (Ne.symm n2)]
    exact J.free
  · have hc : c ≠ q := fun z => by
      obtain ⟨v, o, h1, h2⟩ := J.cell x c h
      rw [z, e1] at h1
      cases h1
      rw [e3] at h2
      cases h2
    rw [upd_ne hc]
    exact J.freeC x c h
  · obtain ⟨h1, h2, h3, h4, h5⟩ := J.pin r hr
    exact ⟨h1, (upd_ne (n3 r hr)).trans h2, h3, h4, h5⟩
  · by_cases hb : b = q
    · subst hb
      rw [upd_same] at h
      cases h
      exact ⟨⟨ob, fs, e1, e2, e3⟩, ⟨ob, e1⟩, fun h1 h2 ⟨o, v, z, y⟩ k => ⟨o, v, k o z, y⟩⟩
    · rw [upd_ne hb] at h
      exact (J.hok b u h).stay (fun c v _ z => z) (fun c z => off z) (fun c xs z => off z)
/-- what the clause wishes: the suite is one that goes on -/
def wKeep (K : PySem.W.Frag) (c : Value) (i : Nat) (ts : Addr → Value → Option Addr → TS) (D : Ends) : WX := fun cls d σ H =>
  PySem.W.exmOne K cls c = some true ∧ ∃ C, cls = .ref C ∧ ∀ a, H a = none →
    ts a cls d { nx := fun σ' H' => H' a = none → D.nx (σ'.set i none) (upd H' a (ExK C d a)), rt := fun _ _ => False, bk := fun _ _ => False, ct := fun _ _ => False } (σ.set i (some (.ref a))) H
theorem sky_off {Bh h : Heap} {l : List PySem.Env} {Z : Obj → Prop} (f : HandSPX.FlyingZ Bh l q Z h) : q ∉ frs l := fun m => by
  obtain ⟨_, g2, g3, g4⟩ := f
  obtain ⟨ob, fs, T, oT, ts, k1, k2, k3, _⟩ := g4
  obtain ⟨_, o', k4, k5⟩ := g3.mem m
  rw [k1] at k4
  cases k4
  exact k5 _ k3
theorem ps_try_keep {x n : Str} {c : Value} {i : Nat} {body rest : List Stmt} {first : Stmt} {p1 p2 p3 : Pos} {tb : WX → TS} {ts : Addr → Value → Option Addr → TS} (hs : X.stack = X.env :: X.outer) (hf : X.env.frame = some X.env.locals)
    (hN : X.N.Nodup) (hi : X.N[i]? = some n) (hln : X.env.kindOf n = some .local) (hc : Names X x c)
    (hb : ∀ (W : WX) (pn : List (Addr × Obj)) (xe : Value → Shared → Prop), Takes (X.tr pn xe) W → PassesOwn (model X.prog X.w) X.A X.env xe → PSs (X.tr pn xe) body (tb W))
    (hsu : ∀ (a : Addr) (oe : Obj) (cls : Value) (d : Option Addr) (pn : List (Addr × Obj)), Zc cls d oe → (∃ vs, oe.data = .fields vs) → PSs (X.suite a ((a, oe) :: pn)) (first :: rest) (ts a cls d)) :
    PS X (.Try body [.ExceptHandler (some (.Name x p1)) (some n) (first :: rest) p2] [] [] p3) (fun D σ H => tb (wKeep X.K c i ts D) D σ H) := by
  refine ⟨fun pins s σ H D I h => ?_⟩
  have ok := I.ok
  have hst : X.A.frames = some (X.env :: X.outer) := by rw [ok.frames, hs]
  refine wpAny_Try_except ?_
  let land : Value → Shared → Prop := fun e s₁ => wpAny (model X.prog X.w) X.A (noteFrame e X.env)
    (fun _ s₂ => wpAny (model X.prog X.w) X.A (setFlight e none)
      (fun _ s₃ => wpAny (model X.prog X.w) X.A (handleBy e X.env [.ExceptHandler (some (.Name x p1)) (some n) (first :: rest) p2]) (SP X pins D) X.xe s₃) X.xe s₂) X.xe s₁
  refine wpAny_mono ((hb (wKeep X.K c i ts D) (X.pn ++ pins) land (fun u s' xx => ?_) PassesOwn.looking).run [] s σ H D (I.toTry _) h) (fun f s1 hsp => ?_) (fun e s1 he => he)
  · obtain ⟨a, Bh, sI, pins', σ', H', cls, d, rfl, J', nb, up, sky, na, hos, ag, hb1, C, rfl, hyes⟩ := xx
    have J : Inv X pins σ' H' sI := J'.ofTry ok
    rw [show (X.tr (X.pn ++ pins) land).stack = X.env :: X.outer from hs] at sky
    show wpAny (model X.prog X.w) X.A (noteFrame (.ref a) X.env) _ _ _
    refine Sky.land Zc.steady hst hf sky fun g fl up3 => ?_
    obtain ⟨ob, fs, k1, k2, k3⟩ := fl.there
    have nfr := sky_off fl
    have J3 : Inv X pins σ' H' { s' with heap := g } := J.landed nb fl.1 (up.trans up3) hos ag
    have nL : a ≠ X.env.locals := fun z => nfr (List.mem_filterMap.mpr ⟨X.env, List.mem_cons_self, (by rw [hf, z])⟩)
    have nF : a ∉ X.fs := fun hm => by
      obtain ⟨e, he, z⟩ := List.mem_filterMap.mp hm
      exact nfr (List.mem_filterMap.mpr ⟨e, .tail _ he, z⟩)
    have nI : sI.heap.get? a = none := by
      cases z : sI.heap.get? a with
      | none => rfl
      | some o =>
        have y := nb a o z (by rw [show (X.tr (X.pn ++ pins) land).stack = X.env :: X.outer from hs]; exact nfr)
        rw [fl.2.1] at y
        cases y
    have n0 : a ∈ X.ex ∨ X.s_0.heap.get? a = none := by
      by_cases hx : a ∈ X.ex
      · exact .inl hx
      · cases z : X.s_0.heap.get? a with
        | none => exact .inr rfl
        | some o =>
          obtain ⟨o', y⟩ := J.base.there a o z hx
          rw [nI] at y
          cases y
    have np : ∀ r ∈ X.pn ++ pins, r.1 ≠ a := fun r hr z => by
      have y := (J.pin r hr).1
      rw [z, nI] at y
      cases y
    have S3 := J3.suite k1 k3 na nL nF
    refine wpAny_handleBy_cons (codeAny_handlers_test ?_) (by intro z; cases z)
    have LT : PySem.W.Looks (model X.prog X.w) g (typeOf (.ref a)) (.ref C) := fun A Q E s k z => wpAny_typeOf_ref (k _ _ k1) (by rw [k2.1]; exact z)
    have LM := PySem.W.exm_one (M := model X.prog X.w) J3.kIn LT hb1
    have named : ∀ {Q : Value → Shared → Prop} {E : Value → Shared → Prop}, Q c { s' with heap := g } →
        wpAny (model X.prog X.w) (X.A.mark (some (.ref a))) (eval (.Name x p1) X.env) Q E { s' with heap := g } := fun {Q E} z => by
      obtain ⟨y1, y2, y3 | ⟨y3, y4, y5⟩⟩ := hc
      · exact ld_glob (X := X.suite a ((a, ob) :: (X.pn ++ pins))) S3 y1 y3 z y2
      · exact ld_blt (X := X.suite a ((a, ob) :: (X.pn ++ pins))) S3 y1 y3 y4 z y5 y2
    refine named (LM.here (codeAny_handlers_suite_as ?_))
    refine HandSPX.lands_againZ fl fun g4 fl4 up4 => ?_
    have J4 : Inv X pins σ' H' { s' with heap := g4 } := J.landed nb fl4.1 ((up.trans up3).trans up4) hos ag
    obtain ⟨ob4, fs4, m1, m2, m3⟩ := fl4.there
    have S4 := J4.suite m1 m3 na nL nF
    refine store_ok (X := X.suite a ((a, ob4) :: (X.pn ++ pins))) (v := .ref a) S4 hN hi (.inl hln) rfl (fun s5 S5 => ?_) (.inr hln)
    refine wpAny_mono ((hsu a ob4 (.ref C) d (X.pn ++ pins) m2 ⟨_, m3⟩).run [] s5 _ H' _ S5 (hyes a na)) (fun f s6 z => ?_) (fun _ _ y => False.elim y)
    cases f with
    | next =>
      obtain ⟨σ6, H6, S6, z6⟩ := z
      refine gone_ok (X := X.suite a ((a, ob4) :: (X.pn ++ pins))) (pins := []) S6 hN hi hln fun s7 S7 => ?_
      obtain ⟨y1, y2, _⟩ := S7.pin (a, ob4) (List.mem_append.mpr (.inl List.mem_cons_self))
      exact ⟨_, _, layE (S7.unsuite ok) y1 m2 m3 y2 n0 nL np, z6 y2⟩
    | brk =>
      obtain ⟨σ6, H6, S6, z6⟩ := z
      exact z6.elim
    | cont =>
      obtain ⟨σ6, H6, S6, z6⟩ := z
      exact z6.elim
    | ret u =>
      obtain ⟨v6, σ6, H6, S6, r6, z6⟩ := z
      exact z6.elim
  · cases f with
    | next =>
      obtain ⟨σ', H', J', z⟩ := hsp
      exact wpAny_execs_nil ⟨σ', H', J'.ofTry ok, z⟩
    | ret u =>
      obtain ⟨v, σ', H', J', r, z⟩ := hsp
      exact ⟨v, σ', H', J'.ofTry ok, r, z⟩
    | brk =>
      obtain ⟨σ', H', J', z⟩ := hsp
      exact ⟨σ', H', J'.ofTry ok, z⟩
    | cont =>
      obtain ⟨σ', H', J', z⟩ := hsp
      exact ⟨σ', H', J'.ofTry ok, z⟩
end
end DL

/-! DL, part zf: repr of what holds dicts -/
namespace DL
open PySem PySem.Spec PyProof.Rows L2
def keyP : Key → PyData
  | .inl i => .int i
  | .inr x => .str x
mutual
def D.pyR : D → Option PyData
  | .non => some .none
  | .bl b => some (.bool b)
  | .int i => some (.int i)
  | .str x => some (.str x)
  | .lst xs => (pyRA xs).map .list
  | .tup xs => (pyRA xs).map .tuple
  | .dic kvs => (pyRK kvs).map .dict
  | .scr _ => none
  | .ref _ => none
  | .ty _ => none
  | .any => none
  | .exn _ => none
  | .exf _ _ _ => none
def pyRA : List D → Option (List PyData)
  | [] => some []
  | x :: xs => (D.pyR x).bind fun a => (pyRA xs).map (a :: ·)
def pyRK : List (Key × D) → Option (List (PyData × PyData))
  | [] => some []
  | (k, d) :: r => (D.pyR d).bind fun a => (pyRK r).map ((keyP k, a) :: ·)
end
section
variable {X : Cx} {pins : List (Addr × Obj)} {σ : L2.St} {H : Hp} {s : Shared}
theorem seqL_of {H : Hp} {a : Addr} {xs : List V} {K : PySem.W.Frag} (h : H a = some (.lst xs)) : SqL K H a xs := .inl (.inl h)
theorem seqT_of {H : Hp} {a : Addr} {xs : List V} {K : PySem.W.Frag} (h : H a = some (.tup xs)) : SqT K H a xs := .inl (.inl h)
theorem read_key {h : Heap} {k : Key} {v : Value} (e : keyIs k v = true) : Reads h v (keyP k) [] := by
  rcases keyIs_shape e with ⟨i, t, e1, e2⟩ | ⟨x, t, e1, e2⟩
  · rw [e1, e2]
    exact Reads.int i t
  · rw [e1, e2]
    exact Reads.str x t
/-- what is read, and how its text is made -/
def Shw (X : Cx) (h : Heap) (u : Value) (p : PyData) : Prop := (∃ as, Reads h u p as) ∧ (p.showable = true → p.shown.length ≤ sizeLine → ∃ bs, ReadAtMost h p.depth bs ∧ ReprK X.prog X.w bs h p.depth u p.shown)
def ShwA (X : Cx) (h : Heap) (us : List Value) (ps : List PyData) : Prop := (∃ as, ReadsAll h us ps as) ∧ (PyData.showableAll ps = true → (∀ t ∈ PyData.shownAll ps, t.length ≤ sizeLine) →
  ∃ bs, ReadAtMost h (PyData.depthAll ps) bs ∧ ReprAllK X.prog X.w bs h (PyData.depthAll ps) us (PyData.shownAll ps))
def ShwK (X : Cx) (h : Heap) (es : List DictEntry) (ps : List (PyData × PyData)) : Prop := (∃ as, ReadsAll h (es.map (·.key)) (ps.map (·.1)) as ∧ sysModules ∉ as) ∧ ShwA X h (es.map (·.val)) (ps.map (·.2))
theorem atMost0 {h : Heap} {n : Nat} : ReadAtMost h n [] := fun b hb => absurd hb List.not_mem_nil
theorem atMost_or {h : Heap} {m n : Nat} {as bs : List Addr} (h1 : ReadAtMost h m as) (h2 : ReadAtMost h n bs) : ReadAtMost h (max m n) (as ++ bs) := fun b hb => by
  rcases List.mem_append.mp hb with z | z
  · obtain ⟨d, cs, r, k⟩ := h1 b z
    exact ⟨d, cs, r, by omega⟩
  · obtain ⟨d, cs, r, k⟩ := h2 b z
    exact ⟨d, cs, r, by omega⟩
/-- .. of a list, a tuple, a dict that stand at a -/
theorem shw_lst {h : Heap} {a : Addr} {o : Obj} {l : List Value} {n : Nat} {ps : List PyData} (h1 : h.get? a = some o) (h2 : o.cls = .type "list") (h3 : o.data = .seq l.toArray n) (k : ShwA X h l ps) : Shw X h (.ref a) (.list ps) := by
  obtain ⟨⟨as, hr⟩, hk⟩ := k
  have r : Reads h (.ref a) (.list ps) _ := Reads.list h1 h2 h3 hr
  refine ⟨⟨_, r⟩, fun hs hz => ?_⟩
  have hz2 : (listText (PyData.shownAll ps)).length ≤ sizeLine := by simpa only [PyData.shown] using hz
  obtain ⟨bs, g1, g2⟩ := hk (by simpa [PyData.showable] using hs) fun t ht => Nat.le_trans (listText_mem_le ht) hz2
  have far : a ∉ bs := not_mem_of_deeper r (by simp only [PyData.depth]; omega) g1
  refine ⟨a :: bs, .cons r (by simp only [PyData.depth]; omega) g1, ?_⟩
  simp only [PyData.depth, PyData.shown]
  cases l with
  | nil =>
    cases (show ReadsAll h [] ps _ from hr)
    simp only [PyData.shownAll, listText_nil]
    exact .listEmpty h1 h2 h3
  | cons x l => exact .list h1 h2 h3 far (by simpa using g2.length_eq) fun i y e => g2.item i y (by simpa using e)
theorem shw_tup {h : Heap} {a : Addr} {o : Obj} {l : Array Value} {n : Nat} {ps : List PyData} (h1 : h.get? a = some o) (h2 : o.cls = .type "tuple") (h3 : o.data = .seq l n) (k : ShwA X h l.toList ps) : Shw X h (.ref a) (.tuple ps) := by
  obtain ⟨⟨as, hr⟩, hk⟩ := k
  have r : Reads h (.ref a) (.tuple ps) _ := Reads.tuple h1 h2 h3 hr
  refine ⟨⟨_, r⟩, fun hs hz => ?_⟩
  have hz2 : (tupleText (PyData.shownAll ps)).length ≤ sizeLine := by simpa only [PyData.shown] using hz
  obtain ⟨bs, g1, g2⟩ := hk (by simpa [PyData.showable] using hs) fun t ht => Nat.le_trans (tupleText_mem_le ht) hz2
  have far : a ∉ bs := not_mem_of_deeper r (by simp only [PyData.depth]; omega) g1
  refine ⟨a :: bs, .cons r (by simp only [PyData.depth]; omega) g1, ?_⟩
  simp only [PyData.depth, PyData.shown]
  exact .tuple h1 h2 h3 far g2
theorem shw_keys {h : Heap} {es : List DictEntry} {ps : List (PyData × PyData)} (k : ShwK X h es ps) (hs : PyData.showableKv ps = true) (hz : ∀ t ∈ PyData.shownKv ps, t.length ≤ sizeLine) :
    ∃ b1 b2, ReadAtMost h (PyData.depthKv ps) (b1 ++ b2) ∧ ReprAllK X.prog X.w (b1 ++ b2) h (PyData.depthKv ps) (es.map (·.key)) (PyData.shownAll (ps.map (·.1))) ∧ ReprAllK X.prog X.w (b1 ++ b2) h (PyData.depthKv ps) (es.map (·.val)) (PyData.shownAll (ps.map (·.2))) := by
  obtain ⟨⟨as, r1, n1⟩, ⟨bs, r2⟩, k2⟩ := k
  obtain ⟨s1, s2⟩ := PyData.showableKv_split ps hs
  obtain ⟨b1, g1, g2⟩ := ReprAllK.of_readsAll (prog := X.prog) (w := X.w) r1 s1 (fun _ => n1) fun t ht => by
    obtain ⟨p, hp, hl⟩ := PyData.shownKv_key_le ps t ht
    exact Nat.le_trans hl (hz p hp)
  obtain ⟨b2, g3, g4⟩ := k2 s2 fun t ht => by
    obtain ⟨p, hp, hl⟩ := PyData.shownKv_val_le ps t ht
    exact Nat.le_trans hl (hz p hp)
  refine ⟨b1, b2, .append (g1.mono (PyData.depthAll_keys_le ps)) (g3.mono (PyData.depthAll_vals_le ps)), ?_, ?_⟩
  · exact g2.more_le (fun b => List.mem_append_left _) (PyData.depthAll_keys_le ps)
  · exact g4.more_le (fun b => List.mem_append_right _) (PyData.depthAll_vals_le ps)
theorem shw_dic {h : Heap} {a : Addr} {o : Obj} {es : Array DictEntry} {n : Nat} {ps : List (PyData × PyData)} (h1 : h.get? a = some o) (h2 : o.cls = .type "dict") (h3 : o.data = .dict es n) (hne : (a == sysModules) = false) (k : ShwK X h es.toList ps) :
    Shw X h (.ref a) (.dict ps) := by
  have k0 := k
  obtain ⟨⟨as, r1, n1⟩, ⟨bs, r2⟩, k2⟩ := k
  have r : Reads h (.ref a) (.dict ps) _ := Reads.dict h1 h2 h3 r1 r2
  refine ⟨⟨_, r⟩, fun hs hz => ?_⟩
  have hz2 : (dictText (PyData.shownKv ps)).length ≤ sizeLine := by simpa only [PyData.shown] using hz
  obtain ⟨b1, b2, g1, g2, g3⟩ := shw_keys k0 (by simpa [PyData.showable] using hs) fun t ht => Nat.le_trans (dictText_mem_le ht) hz2
  have far : a ∉ b1 ++ b2 := not_mem_of_deeper r (by simp only [PyData.depth]; omega) g1
  refine ⟨a :: (b1 ++ b2), .cons r (by simp only [PyData.depth]; omega) g1, ?_⟩
  simp only [PyData.depth, PyData.shown, PyData.shownKv_eq]
  exact .dict h1 h2 h3 hne far (.of_two es.toList _ _ g2 g3)
mutual
theorem Is.shw (I : Inv X pins σ H s) : ∀ {v : V} {d : D} {p : PyData} {u : Value}, Is X.K H v d → d.pyR = some p → RelV v u → Shw X s.heap u p
  | _, _, _, _, .non, e, r => by
    rw [D.pyR] at e; cases e; cases r
    exact ⟨⟨_, .none⟩, fun _ _ => ⟨[], atMost0, by simp only [PyData.shown]; exact .of_is .none _ _ _⟩⟩
  | _, _, _, _, .bl b, e, r => by
    rw [D.pyR] at e; cases e; cases r
    exact ⟨⟨_, .bool b⟩, fun _ _ => ⟨[], atMost0, by simp only [PyData.shown]; exact .of_is (.bool b) _ _ _⟩⟩
  | _, _, _, _, .int i, e, r => by
    rw [D.pyR] at e; cases e; obtain ⟨t, rfl⟩ := r
    exact ⟨⟨_, .int i t⟩, fun hs _ => ⟨[], atMost0, by simp only [PyData.shown]; exact .of_is (.int t (by simpa [PyData.showable] using hs)) _ _ _⟩⟩
  | _, _, _, _, .str x, e, r => by
    rw [D.pyR] at e; cases e; obtain ⟨t, rfl⟩ := r
    exact ⟨⟨_, .str x t⟩, fun _ hz => ⟨[], atMost0, by simp only [PyData.shown]; exact .of_is (.str x t (by simpa only [PyData.shown] using hz)) _ _ _⟩⟩
  | _, .lst ds, _, _, .lst h k, e, r => by
    rw [D.pyR] at e
    cases q : pyRA ds with
    | none => rw [q] at e; cases e
    | some ps =>
      rw [q] at e
      cases e
      cases r
      obtain ⟨its, rv, ⟨o, n, ho, hc, _, hd⟩, _⟩ := I.list (seqL_of h)
      exact shw_lst ho hc hd (IsA.shw I k q rv)
  | _, .tup ds, _, _, .tup h k, e, r => by
    rw [D.pyR] at e
    cases q : pyRA ds with
    | none => rw [q] at e; cases e
    | some ps =>
      rw [q] at e
      cases e
      cases r
      obtain ⟨its, rv, ⟨o, ho, hc, n, hd⟩, _⟩ := I.tuple (seqT_of h)
      exact shw_tup ho hc hd (IsA.shw I k q rv)
  | _, .dic ds, _, _, .dic h k, e, r => by
    rw [D.pyR] at e
    cases q : pyRK ds with
    | none => rw [q] at e; cases e
    | some ps =>
      rw [q] at e
      cases e
      cases r
      obtain ⟨_, hne, vs, rel, o, es, ep, ho, hx, hd, _, hp, _⟩ := dk_of I.hok h
      exact shw_dic ho hx.1 hd hne (IsK.shw I k q rel hp)
  | _, _, _, _, .scr h, e, _ => by rw [D.pyR] at e; cases e
  | _, _, _, _, .ref a, e, _ => by rw [D.pyR] at e; cases e
  | _, _, _, _, .ty n, e, _ => by rw [D.pyR] at e; cases e
  | _, _, _, _, .any a, e, _ => by rw [D.pyR] at e; cases e
  | _, _, _, _, .exn h k, e, _ => by rw [D.pyR] at e; cases e
  | _, _, _, _, .exf h k i, e, _ => by rw [D.pyR] at e; cases e
theorem IsA.shw (I : Inv X pins σ H s) : ∀ {vs : List V} {ds : List D} {ps : List PyData} {us : List Value}, IsA X.K H vs ds → pyRA ds = some ps → Vals vs us → ShwA X s.heap us ps
  | _, _, _, _, .nil, e, r => by
    rw [pyRA] at e; cases e; cases r
    exact ⟨⟨_, .nil⟩, fun _ _ => ⟨[], atMost0, by simp only [PyData.shownAll]; exact .nil⟩⟩
  | _, d :: ds, _, _, .cons h k, e, r => by
    rw [pyRA] at e
    cases q : d.pyR with
    | none => rw [q] at e; cases e
    | some p =>
      rw [q] at e
      cases q2 : pyRA ds with
      | none => rw [q2] at e; cases e
      | some ps =>
        rw [q2] at e
        cases e
        cases r with
        | cons r1 r2 =>
          obtain ⟨⟨as, h1⟩, k1⟩ := Is.shw I h q r1
          obtain ⟨⟨bs, h2⟩, k2⟩ := IsA.shw I k q2 r2
          refine ⟨⟨_, .cons h1 h2⟩, fun hs hz => ?_⟩
          rw [PyData.showableAll, Bool.and_eq_true] at hs
          rw [PyData.shownAll] at hz
          obtain ⟨c1, g1, g2⟩ := k1 hs.1 (hz _ List.mem_cons_self)
          obtain ⟨c2, g3, g4⟩ := k2 hs.2 fun t ht => hz t (.tail _ ht)
          refine ⟨c1 ++ c2, ?_, ?_⟩
          · rw [PyData.depthAll]
            exact atMost_or g1 g3
          · rw [PyData.depthAll, PyData.shownAll]
            exact .cons ((g2.more fun b => List.mem_append_left _).level_le (Nat.le_max_left _ _)) (g4.more_le (fun b => List.mem_append_right _) (Nat.le_max_right _ _))
theorem IsK.shw (I : Inv X pins σ H s) : ∀ {kvs : List (Key × V)} {ds : List (Key × D)} {ps : List (PyData × PyData)} {vs : List (Key × Value)} {es : List DictEntry}, IsK X.K H kvs ds → pyRK ds = some ps → KV kvs vs →
    Pairs (mixKind X.prog X.w) es vs → ShwK X s.heap es ps
  | _, _, _, _, _, .nil, e, r, p => by
    rw [pyRK] at e; cases e; cases r; cases p
    exact ⟨⟨[], .nil, List.not_mem_nil⟩, ⟨_, .nil⟩, fun _ _ => ⟨[], atMost0, by simp only [List.map_nil, PyData.shownAll]; exact .nil⟩⟩
  | _, (key, d) :: ds, _, _, _, .cons h k, e, r, p => by
    rw [pyRK] at e
    cases q : d.pyR with
    | none => rw [q] at e; cases e
    | some a =>
      rw [q] at e
      cases q2 : pyRK ds with
      | none => rw [q2] at e; cases e
      | some ps =>
        rw [q2] at e
        cases e
        cases r with
        | cons r1 r2 =>
          cases p with
          | cons p1 p2 p3 =>
            obtain ⟨g1, g2⟩ := r1
            obtain ⟨⟨as, h1⟩, k1⟩ := Is.shw I h q g2
            obtain ⟨⟨bs, h2, n2⟩, ⟨cs, h3⟩, k3⟩ := IsK.shw I k q2 r2 p3
            dsimp only at g1
            rw [← p2] at h1 k1
            rw [← g1] at p1
            refine ⟨⟨_, ReadsAll.cons (read_key (h := s.heap) p1) h2, fun z => n2 (by simpa using z)⟩, ⟨_, .cons h1 h3⟩, fun hs hz => ?_⟩
            rw [List.map_cons, PyData.showableAll, Bool.and_eq_true] at hs
            rw [List.map_cons, PyData.shownAll] at hz
            obtain ⟨c1, g1, g2⟩ := k1 hs.1 (hz _ List.mem_cons_self)
            obtain ⟨c2, g3, g4⟩ := k3 hs.2 fun t ht => hz t (.tail _ ht)
            refine ⟨c1 ++ c2, ?_, ?_⟩
            · rw [List.map_cons, PyData.depthAll]
              exact atMost_or g1 g3
            · rw [List.map_cons, PyData.depthAll, PyData.shownAll]
              exact .cons ((g2.more fun b => List.mem_append_left _).level_le (Nat.le_max_left _ _)) (g4.more_le (fun b => List.mem_append_right _) (Nat.le_max_right _ _))
end
end
def reprOkX (p : PyData) : Bool := p.showable && Nat.ble p.depth 20 && Nat.ble p.shown.length 1000000
def bReprX : List D → Option Rv
  | [d] => d.pyR.bind fun p => if reprOkX p = true then some (.im (.str p.shown)) else none
  | _ => none
def rReprX (K : PySem.W.Frag) : List V → Hp → VK → Prop := fun xs H Q => ∃ v d p, xs = [v] ∧ Is K H v d ∧ d.pyR = some p ∧ reprOkX p = true ∧ Q (.str p.shown) H
theorem reprOkX_of {p : PyData} (h : reprOkX p = true) : p.showable = true ∧ p.depth ≤ 20 ∧ p.shown.length ≤ sizeLine := by
  unfold reprOkX at h
  simp only [Bool.and_eq_true, Nat.ble_eq] at h
  exact ⟨h.1.1, h.1.2, Nat.le_trans h.2 (by decide)⟩
theorem cr_reprX {X : Cx} {K : PySem.W.Frag} (e : X.K = K) (hgd : X.A.guards = some []) (hu : X.A.units + 64 < cLine) : CallR X (.builtin "repr") (rReprX K) := by
  subst e
  intro pins s σ H xs us Q I r h
  obtain ⟨v, d, p, rfl, hd, hp, hok, q⟩ := h
  obtain ⟨h1, h3, h4⟩ := reprOkX_of hok
  cases r with
  | cons ru rn =>
    rename_i u us'
    cases rn
    cases hd with
    | non =>
      rw [D.pyR] at hp; cases hp; cases ru
      simp only [PyData.shown] at q
      exact PySem.P.repr_of_none ⟨.str _, H, I.tok _, ⟨_, rfl⟩, q⟩
    | bl b =>
      rw [D.pyR] at hp; cases hp; cases ru
      simp only [PyData.shown] at q
      exact PySem.P.repr_of_bool ⟨.str _, H, I.tok _, ⟨_, rfl⟩, q⟩
    | int i =>
      rw [D.pyR] at hp; cases hp; obtain ⟨t, rfl⟩ := ru
      simp only [PyData.shown] at q
      exact PySem.P.repr_of_int (by simpa [PyData.showable] using h1) ⟨.str _, H, I.tok _, ⟨_, rfl⟩, q⟩
    | str x =>
      rw [D.pyR] at hp; cases hp; obtain ⟨t, rfl⟩ := ru
      simp only [PyData.shown] at q
      exact PySem.P.repr_of_str ⟨.str _, H, I.tok _, ⟨_, rfl⟩, q⟩ (by simpa only [PyData.shown] using h4)
    | @lst a xs ds h k =>
      rw [D.pyR] at hp
      cases q1 : pyRA ds with
      | none => rw [q1] at hp; cases hp
      | some ps =>
        rw [q1] at hp; cases hp; cases ru
        obtain ⟨its, rv, ⟨o, n, ho, hc, _, hd⟩, _⟩ := I.list (seqL_of h)
        obtain ⟨⟨as, hr⟩, hk⟩ := IsA.shw I k q1 rv
        have hz2 : (listText (PyData.shownAll ps)).length ≤ sizeLine := by simpa only [PyData.shown] using h4
        obtain ⟨bs, g1, g2⟩ := hk (by simpa [PyData.showable] using h1) fun t ht => Nat.le_trans (listText_mem_le ht) hz2
        have far : a ∉ bs := not_mem_of_deeper (Reads.list ho hc hd hr) (by simp only [PyData.depth]; omega) g1
        simp only [PyData.depth] at h3
        simp only [PyData.shown] at q
        refine call_repr_slot (T := "list") (idr := "list.__repr__") (by omega) ⟨o, ho, hc⟩ F.slot_list_repr.toG ?_
        cases its with
        | nil =>
          cases (show ReadsAll s.heap [] ps _ from hr)
          simp only [PyData.shownAll, listText_nil] at q
          exact call_list_repr_empty ⟨o, ho, hc⟩ ho hd ⟨_, _, rfl, .str _, H, I.tok _, ⟨_, rfl⟩, q⟩
        | cons x l =>
          exact call_list_reprK ho hc hd far (by simpa using g2.length_eq) (fun i y e => g2.item i y (by simpa using e)) hgd (fun b _ => Clear.nil b) (by show X.A.units + 1 + _ < cLine; omega) (fun b o e => e)
            (fun h' u tk hk => ⟨_, _, rfl, .str _, H, I.kept hk, ⟨_, rfl⟩, q⟩) hz2
    | @tup a xs ds h k =>
      rw [D.pyR] at hp
      cases q1 : pyRA ds with
      | none => rw [q1] at hp; cases hp
      | some ps =>
        rw [q1] at hp; cases hp; cases ru
        obtain ⟨its, rv, ⟨o, ho, hc, n, hd⟩, _⟩ := I.tuple (seqT_of h)
        obtain ⟨⟨as, hr⟩, hk⟩ := IsA.shw I k q1 rv
        have hz2 : (tupleText (PyData.shownAll ps)).length ≤ sizeLine := by simpa only [PyData.shown] using h4
        obtain ⟨bs, g1, g2⟩ := hk (by simpa [PyData.showable] using h1) fun t ht => Nat.le_trans (tupleText_mem_le ht) hz2
        have far : a ∉ bs := not_mem_of_deeper (Reads.tuple ho hc hd hr) (by simp only [PyData.depth]; omega) g1
        simp only [PyData.depth] at h3
        simp only [PyData.shown] at q
        refine call_repr_slot (T := "tuple") (idr := "tuple.__repr__") (by omega) ⟨o, ho, hc⟩ F.slot_tuple_repr ?_
        exact call_tuple_reprK ho hc hd far g2 hgd (fun b _ => Clear.nil b) (by show X.A.units + 1 + _ < cLine; omega) (fun b o e => e) (fun h' u tk hk => ⟨_, _, rfl, .str _, H, I.kept hk, ⟨_, rfl⟩, q⟩) hz2
    | @dic a xs ds h k =>
      rw [D.pyR] at hp
      cases q1 : pyRK ds with
      | none => rw [q1] at hp; cases hp
      | some ps =>
        rw [q1] at hp; cases hp; cases ru
        obtain ⟨_, hne, vs, rel, o, es, ep, ho, hx, hd, _, hp, _⟩ := dk_of I.hok h
        have k0 := IsK.shw I k q1 rel hp
        have hz2 : (dictText (PyData.shownKv ps)).length ≤ sizeLine := by simpa only [PyData.shown] using h4
        obtain ⟨b1, b2, g1, g2, g3⟩ := shw_keys k0 (by simpa [PyData.showable] using h1) fun t ht => Nat.le_trans (dictText_mem_le ht) hz2
        obtain ⟨⟨as, r1, n1⟩, ⟨bs, r2⟩, _⟩ := k0
        have far : a ∉ b1 ++ b2 := not_mem_of_deeper (Reads.dict ho hx.1 hd r1 r2) (by simp only [PyData.depth]; omega) g1
        simp only [PyData.depth] at h3
        simp only [PyData.shown, PyData.shownKv_eq] at q
        refine call_repr_slot (T := "dict") (idr := "dict.__repr__") (by omega) ⟨o, ho, hx.1⟩ F.slot_dict_repr ?_
        exact call_dict_reprK ho hx.1 hd hne far (.of_two es.toList _ _ g2 g3) hgd (fun b _ => Clear.nil b) (by show X.A.units + 1 + _ < cLine; omega) (fun b o e => e) (fun h' u tk hk => ⟨_, _, rfl, .str _, H, I.kept hk, ⟨_, rfl⟩, q⟩) (by rw [← PyData.shownKv_eq]; exact hz2)
    | scr _ => rw [D.pyR] at hp; cases hp
    | ref _ => rw [D.pyR] at hp; cases hp
    | ty _ => rw [D.pyR] at hp; cases hp
    | any _ => rw [D.pyR] at hp; cases hp
    | exn _ _ => rw [D.pyR] at hp; cases hp
    | exf _ _ _ => rw [D.pyR] at hp; cases hp
section
variable {K : PySem.W.Frag}
theorem cd_reprX : CbD K (rReprX K) bReprX := by
  intro ks σ0 Fm B H σ ρ xs ds rv Q I hx e q
  unfold bReprX at e
  split at e
  · rename_i d
    obtain ⟨v, rfl, h1⟩ := isA_1 hx
    cases e1 : d.pyR with
    | none => rw [e1] at e; cases e
    | some p =>
      rw [e1] at e
      have e : (if reprOkX p = true then some (Rv.im (.str p.shown)) else none) = some rv := e
      by_cases ho : reprOkX p = true
      · rw [if_pos ho] at e
        cases e
        exact ⟨v, d, p, rfl, h1.mono I.ex, e1, ho, q B H _ (Same.refl B) I (.str _)⟩
      · rw [if_neg ho] at e
        cases e
  · cases e
end
/-! how long the texts are -/
def rpX (d : D) : Str := (d.pyR.map PyData.shown).getD ⟨#[]⟩
def rpOkX (d : D) : Bool := (d.pyR.map reprOkX).getD false
theorem x_reprX {d : D} (h : rpOkX d = true) : bReprX [d] = some (.im (.str (rpX d))) := by
  unfold rpOkX at h
  unfold bReprX rpX
  cases e : d.pyR with
  | none => rw [e] at h; cases h
  | some p =>
    rw [e] at h
    have h : reprOkX p = true := h
    show (d.pyR.bind fun p => if reprOkX p = true then some (Rv.im (.str p.shown)) else none) = _
    rw [e]
    exact if_pos h
/-- a bound for whole numbers' texts, of texts, of depth and of parts -/
structure RpX (dep n : Nat) (d : D) : Prop where
  ex : ∃ p, d.pyR = some p ∧ p.showable = true ∧ p.depth ≤ dep ∧ p.leavesShort 210 = true ∧ p.bulk ≤ n
structure RpXA (dep n : Nat) (ds : List D) : Prop where
  ex : ∃ ps, pyRA ds = some ps ∧ PyData.showableAll ps = true ∧ PyData.depthAll ps ≤ dep ∧ PyData.leavesShortAll 210 ps = true ∧ PyData.bulkAll ps ≤ n
theorem RpX.int {i : Int} (h1 : -(2 ^ 200) < i) (h2 : i < 2 ^ 200) : RpX 0 0 (.int i) := by
  obtain ⟨p, e, g1, g2, g3, g4, g5⟩ := (Rp.int h1 h2).ex
  rw [D.py] at e
  cases e
  exact ⟨_, by rw [D.pyR], g1, g3, g4, g5⟩
theorem RpX.bl (b : Bool) : RpX 0 0 (.bl b) := ⟨.bool b, by rw [D.pyR], by simp only [PyData.showable], by simp only [PyData.depth]; omega, by simp only [PyData.leavesShort], by simp only [PyData.bulk]; omega⟩
theorem RpX.non : RpX 0 0 .non := ⟨.none, by rw [D.pyR], by simp only [PyData.showable], by simp only [PyData.depth]; omega, by simp only [PyData.leavesShort], by simp only [PyData.bulk]; omega⟩
theorem RpX.str {x : Str} (h : (x.cps.toList.all fun c => decide (c < 16 ^ 8)) = true) : RpX 0 x.cps.size (.str x) := ⟨.str x, by rw [D.pyR], by simp only [PyData.showable], by simp only [PyData.depth]; omega, by simp only [PyData.leavesShort]; exact h, by simp only [PyData.bulk]; omega⟩
theorem RpX.dic0 : RpX 1 0 (.dic []) := ⟨.dict [], by rw [D.pyR, pyRK]; rfl, by simp only [PyData.showable, PyData.showableKv], by simp only [PyData.depth, PyData.depthKv]; omega, by simp only [PyData.leavesShort, PyData.leavesShortKv], by simp only [PyData.bulk, PyData.bulkKv]; omega⟩
theorem RpXA.nil : RpXA 0 0 [] := ⟨[], by rw [pyRA], by simp only [PyData.showableAll], by simp only [PyData.depthAll]; omega, by simp only [PyData.leavesShortAll], by simp only [PyData.bulkAll]; omega⟩
theorem RpXA.cons {a b m n : Nat} {d : D} {ds : List D} (h : RpX a m d) (t : RpXA b n ds) : RpXA (max a b) (m + 1 + n) (d :: ds) := by
  obtain ⟨p, h1, h2, h4, h5, h6⟩ := h.ex
  obtain ⟨ps, g1, g2, g4, g5, g6⟩ := t.ex
  refine ⟨p :: ps, by rw [pyRA, h1, g1]; rfl, by simp only [PyData.showableAll, h2, g2, Bool.and_self], ?_, by simp only [PyData.leavesShortAll, h5, g5, Bool.and_self], ?_⟩
  · simp only [PyData.depthAll]
    omega
  · simp only [PyData.bulkAll]
    omega
theorem RpX.lst {a n : Nat} {ds : List D} (t : RpXA a n ds) : RpX (a + 1) n (.lst ds) := by
  obtain ⟨ps, g1, g2, g4, g5, g6⟩ := t.ex
  exact ⟨.list ps, by rw [D.pyR, g1]; rfl, by simp only [PyData.showable, g2], by simp only [PyData.depth]; omega, by simp only [PyData.leavesShort, g5], by simp only [PyData.bulk]; omega⟩
theorem RpX.tup {a n : Nat} {ds : List D} (t : RpXA a n ds) : RpX (a + 1) n (.tup ds) := by
  obtain ⟨ps, g1, g2, g4, g5, g6⟩ := t.ex
  exact ⟨.tuple ps, by rw [D.pyR, g1]; rfl, by simp only [PyData.showable, g2], by simp only [PyData.depth]; omega, by simp only [PyData.leavesShort, g5], by simp only [PyData.bulk]; omega⟩
theorem RpX.mono {a b m n : Nat} {d : D} (h : RpX a m d) (h1 : a ≤ b) (h2 : m ≤ n) : RpX b n d := by
  obtain ⟨ps, g1, g2, g4, g5, g6⟩ := h.ex
  exact ⟨ps, g1, g2, by omega, g5, by omega⟩
theorem RpX.ok {a n : Nat} {d : D} (h : RpX a n d) (h1 : a ≤ 20 := by omega) (h2 : n ≤ 4000 := by omega) : rpOkX d = true := by
  obtain ⟨p, g1, g2, g4, g5, g6⟩ := h.ex
  unfold rpOkX
  rw [g1]
  show reprOkX p = true
  have e := PyData.shown_le_bulk 210 (by decide) p g5
  unfold reprOkX
  rw [g2, Nat.ble_eq_true_of_le (show p.depth ≤ 20 by omega), Nat.ble_eq_true_of_le (show p.shown.length ≤ 1000000 by omega)]
  rfl
theorem RpXA.ints : ∀ {ns : List Int}, (∀ i ∈ ns, -(2 ^ 200) < i ∧ i < 2 ^ 200) → RpXA 0 ns.length (ns.map D.int)
  | [], _ => RpXA.nil
  | n :: r, h => by
    have t := RpXA.cons (RpX.int (h n List.mem_cons_self).1 (h n List.mem_cons_self).2) (RpXA.ints (ns := r) fun i hi => h i (List.mem_cons_of_mem _ hi))
    have e : 0 + 1 + r.length = (n :: r).length := by rw [List.length_cons]; omega
    rw [e] at t
    exact t
theorem RpX.ints {ns : List Int} (h : ∀ i ∈ ns, -(2 ^ 200) < i ∧ i < 2 ^ 200) : RpX 1 ns.length (.lst (ns.map D.int)) := .lst (.ints h)
/- small things -/
mutual
def smallD : D → Bool
  | .non => true
  | .bl _ => true
  | .int i => decide (-(2 ^ 180) < i ∧ i < 2 ^ 180)
  | .str x => decide (x.cps.size ≤ 100) && x.cps.toList.all fun c => decide (c < 16 ^ 8)
  | .lst xs => smallA xs
  | .tup xs => smallA xs
  | .dic kvs => smallK kvs
  | _ => false
def smallA : List D → Bool
  | [] => true
  | x :: xs => smallD x && smallA xs
def smallK : List (Key × D) → Bool
  | [] => true
  | (.inl i, d) :: r => decide (-(2 ^ 180) < i ∧ i < 2 ^ 180) && smallD d && smallK r
  | (.inr _, _) :: _ => false
end
mutual
def depD : D → Nat
  | .lst xs => depA xs + 1
  | .tup xs => depA xs + 1
  | .dic kvs => depK kvs + 1
  | _ => 0
def depA : List D → Nat
  | [] => 0
  | x :: xs => max (depD x) (depA xs)
def depK : List (Key × D) → Nat
  | [] => 0
  | (_, d) :: r => max (depD d) (depK r)
end
mutual
def blkD : D → Nat
  | .str _ => 100
  | .lst xs => blkA xs
  | .tup xs => blkA xs
  | .dic kvs => blkK kvs
  | _ => 0
def blkA : List D → Nat
  | [] => 0
  | x :: xs => blkD x + 1 + blkA xs
def blkK : List (Key × D) → Nat
  | [] => 0
  | (_, d) :: r => blkD d + 2 + blkK r
end
mutual
theorem small_rp : ∀ {d : D}, smallD d = true → RpX (depD d) (blkD d) d
  | .non, _ => by rw [depD, blkD]; exact RpX.non; all_goals (intros; contradiction)
  | .bl b, _ => by rw [depD, blkD]; exact RpX.bl b; all_goals (intros; contradiction)
  | .int i, h => by
    rw [smallD, decide_eq_true_eq] at h
    rw [depD, blkD]
    exact RpX.int (by omega) (by omega)
    all_goals (intros; contradiction)
  | .str x, h => by
    rw [smallD, Bool.and_eq_true, decide_eq_true_eq] at h
    rw [depD, blkD]
    exact (RpX.str h.2).mono (Nat.le_refl _) h.1
    all_goals (intros; contradiction)
  | .lst xs, h => by
    rw [smallD] at h
    rw [depD, blkD]
    exact RpX.lst (small_rpA h)
  | .tup xs, h => by
    rw [smallD] at h
    rw [depD, blkD]
    exact RpX.tup (small_rpA h)
  | .dic kvs, h => by
    rw [smallD] at h
    rw [depD, blkD]
    obtain ⟨ps, g1, g2, g3, g4, g5⟩ := small_rpK h
    exact ⟨.dict ps, by rw [D.pyR, g1]; rfl, by simp only [PyData.showable, g2], by simp only [PyData.depth]; omega, by simp only [PyData.leavesShort, g4], by simp only [PyData.bulk]; omega⟩
  | .scr _, h => by simp [smallD] at h
  | .ref _, h => by simp [smallD] at h
  | .ty _, h => by simp [smallD] at h
  | .any, h => by simp [smallD] at h
  | .exn _, h => by simp [smallD] at h
  | .exf _ _ _, h => by simp [smallD] at h
theorem small_rpA : ∀ {ds : List D}, smallA ds = true → RpXA (depA ds) (blkA ds) ds
  | [], _ => by rw [depA, blkA]; exact RpXA.nil
  | d :: ds, h => by
    rw [smallA, Bool.and_eq_true] at h
    rw [depA, blkA]
    exact RpXA.cons (small_rp h.1) (small_rpA h.2)
theorem small_rpK : ∀ {kvs : List (Key × D)}, smallK kvs = true → ∃ ps, pyRK kvs = some ps ∧ PyData.showableKv ps = true ∧ PyData.depthKv ps ≤ depK kvs ∧ PyData.leavesShortKv 210 ps = true ∧ PyData.bulkKv ps ≤ blkK kvs
  | [], _ => ⟨[], by rw [pyRK], by simp only [PyData.showableKv], by simp only [PyData.depthKv]; omega, by simp only [PyData.leavesShortKv], by simp only [PyData.bulkKv]; omega⟩
  | (.inl i, d) :: r, h => by
    rw [smallK, Bool.and_eq_true, Bool.and_eq_true, decide_eq_true_eq] at h
    obtain ⟨ps, g1, g2, g3, g4, g5⟩ := small_rpK h.2
    obtain ⟨p, h1, h2, h3, h4, h5⟩ := (small_rp h.1.2).ex
    obtain ⟨pi, k1, k2, k3, k4, k5⟩ := (RpX.int (i := i) (by omega) (by omega)).ex
    rw [D.pyR] at k1
    cases k1
    refine ⟨(.int i, p) :: ps, by rw [pyRK, h1, g1]; rfl, by simp only [PyData.showableKv, k2, h2, g2, Bool.and_self], ?_, by simp only [PyData.leavesShortKv, k4, h4, g4, Bool.and_self], ?_⟩
    · rw [depK]
      simp only [PyData.depthKv]
      omega
    · rw [blkK]
      simp only [PyData.bulkKv]
      omega
  | (.inr _, _) :: _, h => by simp [smallK] at h
end
theorem small_ok {d : D} (h : smallD d = true) (h1 : depD d ≤ 20) (h2 : blkD d ≤ 4000) : rpOkX d = true := (small_rp h).ok h1 h2
end DL

/-! DL, part zg: own classes of exceptions without __init__; an exception kept and asked for its class -/
namespace DL
open PySem PySem.Spec PyProof.Rows L2
def AllC (P : Addr → Prop) : List Addr → Prop
  | [] => True
  | c :: cs => P c ∧ AllC P cs
theorem AllC.mem {P : Addr → Prop} : ∀ {l : List Addr}, AllC P l → ∀ {c : Addr}, c ∈ l → P c
  | _ :: _, h, c, hc => by
    rcases List.mem_cons.mp hc with e | hc
    · rw [e]
      exact h.1
    · exact AllC.mem h.2 hc
def isOne (xs : List Addr) (C : Addr) : D → Option Bool
  | .ref Y => cond (xs.contains Y) (some (C == Y)) none
  | .ty n => cond (n == "ValueError") (some true) none
  | _ => none
def isAny (xs : List Addr) (C : Addr) : List D → Option Bool
  | [] => some false
  | c :: cs => (isOne xs C c).bind fun b => (isAny xs C cs).map fun r => b || r
def isAll (xs : List Addr) (C : Addr) : D → Option Bool
  | .tup cs => isAny xs C cs
  | c => isOne xs C c
def bIsE (kn xs : List Addr) : List D → Option Rv
  | [.exn C, c] => cond (kn.contains C) ((isAll xs C c).map fun b => .im (.bl b)) none
  | _ => none
theorem x_isE {kn xs : List Addr} {C : Addr} {c : D} : bIsE kn xs [.exn C, c] = cond (kn.contains C) ((isAll xs C c).map fun b => .im (.bl b)) none := (rfl)
/-- what the classes say: kn may be raised, xs are asked for -/
structure ExKn (K : PySem.W.Frag) (kn xs : List Addr) : Prop where
  c : AllC (fun C => ExcC K C) kn
  s : AllC (fun C => AllC (fun Y => PySem.W.subIn K (.ref C) (.ref Y) = some (C == Y)) xs) kn
  v : AllC (fun C => PySem.W.subIn K (.ref C) (.type "ValueError") = some true) kn
  m : AllC (fun Y => PySem.W.typeIn K (.ref Y) = some (.type "type") ∧ PySem.W.hasDictIn K Y = true) xs
section
variable {K : PySem.W.Frag} {kn xs : List Addr} {B : Hp}
theorem has_cls {Y : Addr} (h : PySem.W.hasDictIn K Y = true) : (PySem.W.clsIn K Y).isSome = true := by
  obtain ⟨cd, hc, _⟩ := PySem.W.any_some h
  rw [hc]
  rfl
theorem kit_one (E : ExKn K kn xs) {C : Addr} (hC : C ∈ kn) {d : D} {v : V} {b : Bool} (hv : Is K B v d) (h : isOne xs C d = some b) : ∃ u, ClsV v u ∧ PySem.W.kitOne K (.ref C) u = some b := by
  unfold isOne at h
  split at h
  · rename_i Y
    cases hv
    cases q : xs.contains Y with
    | false => rw [q] at h; cases h
    | true =>
      rw [q] at h
      cases h
      have hY : Y ∈ xs := by simpa using q
      refine ⟨.ref Y, .own Y, ?_⟩
      have h1 := (E.s.mem hC).mem hY
      obtain ⟨h2, h3⟩ := E.m.mem hY
      unfold PySem.W.kitOne
      by_cases z : C = Y
      · subst z
        rw [if_pos (beq_self_eq_true _), beq_self_eq_true]
      · have z1 : ((Value.ref C) == (Value.ref Y)) = false := beq_eq_false_iff_ne.mpr fun y => z (Value.ref.inj y)
        rw [if_neg (by rw [z1]; exact Bool.false_ne_true)]
        show (if ((PySem.W.clsIn K Y).isSome && PySem.W.typeIn K (.ref Y) == some (.type "type")) = true then PySem.W.subIn K (.ref C) (.ref Y) else none) = _
        rw [if_pos (by rw [has_cls h3, h2]; rfl), h1]
  · rename_i n
    cases hv
    cases q : n == "ValueError" with
    | false => rw [q] at h; cases h
    | true =>
      rw [q] at h
      cases h
      have e : n = "ValueError" := by simpa using q
      subst e
      refine ⟨.type "ValueError", .ty _, ?_⟩
      have h1 := E.v.mem hC
      unfold PySem.W.kitOne
      have z1 : ((Value.ref C) == (Value.type "ValueError")) = false := rfl
      rw [if_neg (by rw [z1]; exact Bool.false_ne_true)]
      show (if PySem.W.kitMeta "ValueError" = true then PySem.W.subIn K (.ref C) (.type "ValueError") else none) = _
      rw [if_pos (by decide +kernel), h1]
  · cases h
theorem kit_any (E : ExKn K kn xs) {C : Addr} (hC : C ∈ kn) : ∀ {ds : List D} {vs : List V} {b : Bool}, IsA K B vs ds → isAny xs C ds = some b → ∃ us, Paired ClsV vs us ∧ PySem.W.kitAny K (.ref C) us = some b
  | [], _, b, .nil, e => by
    cases e
    exact ⟨[], .nil, kitAny_nil⟩
  | c :: cs, _, b, .cons h k, e => by
    rw [isAny] at e
    cases q : isOne xs C c with
    | none => rw [q] at e; cases e
    | some b1 =>
      rw [q] at e
      cases q2 : isAny xs C cs with
      | none => rw [q2] at e; cases e
      | some b2 =>
        rw [q2] at e
        cases e
        obtain ⟨u, g1, g2⟩ := kit_one E hC h q
        obtain ⟨us, h1, h2⟩ := kit_any E hC k q2
        refine ⟨u :: us, .cons g1 h1, kitAny_cons g2 (fun z => ?_) fun z => ?_⟩
        · rw [z, h2]
          rfl
        · rw [z]
          rfl
end
def rIsX (K : PySem.W.Frag) (xs : List Addr) : List V → Hp → VK → Prop := fun vs H Q => ∃ (x c : V) (C : Addr) (d : D) (kn : List Addr) (b : Bool), vs = [x, c] ∧ Is K H x (.exn C) ∧ Is K H c d ∧ ExKn K kn xs ∧ C ∈ kn ∧ isAll xs C d = some b ∧ Q (.bl b) H
theorem inst_of {X : Cx} {pins : List (Addr × Obj)} {σ : L2.St} {H : Hp} {s : Shared} (I : Inv X pins σ H s) {v : V} {C : Addr} (h : Is X.K H v (.exn C)) : ∃ a oe od, v = .ref a ∧ PySem.W.InstAt s.heap a oe C od := by
  obtain ⟨a, d, rfl, h1, h2⟩ := h.exnV
  obtain ⟨⟨oe, vs, k1, k2, k3⟩, _, _⟩ := I.hok a _ h1
  obtain ⟨oc, od, da, sl⟩ := oe
  obtain ⟨e1, e2⟩ := k2
  dsimp only at e1 e2 k3
  subst e1 e2 k3
  rcases h2 with rfl | ⟨q, fs, rfl, h2⟩
  · exact ⟨a, _, none, rfl, k1, rfl, rfl, trivial⟩
  · obtain ⟨o, ho⟩ := objOk_get (I.hok q _ h2)
    exact ⟨a, _, some o, rfl, k1, rfl, rfl, ho⟩
theorem cr_isE {X : Cx} {K : PySem.W.Frag} {xs : List Addr} (e : X.K = K) : CallR X (.builtin "isinstance") (rIsX K xs) := by
  subst e
  intro pins s σ H vs us Q I r h
  obtain ⟨x, c, C, d, kn, b, rfl, hx, hc, E, hC, hb, q⟩ := h
  obtain ⟨u1, u2, rfl, r1, r2⟩ := vals2 r
  obtain ⟨a, oe, od, rfl, J⟩ := inst_of I hx
  cases (show u1 = Value.ref a from r1)
  have F := E.c.mem hC
  have Z : PySem.W.KitX X.K (.ref a) (.ref C) (fun h => PySem.W.InstAt h a oe C od) := PySem.W.kitx_exc (has_cls F.hd) F.hg F.hk F.hs F.ha F.hn F.ht F.hm
  unfold isAll at hb
  split at hb
  · rename_i cs
    obtain ⟨tp, ys, rfl, h1, h2⟩ := hc.tupV
    cases (show u2 = Value.ref tp from r2)
    obtain ⟨ws, g1, g2⟩ := kit_any E hC h2 hb
    obtain ⟨_, its, rv, o, k1, k2, n, k3⟩ := (show ObjOk X.prog X.w H s.heap tp (.tup ys) from I.hok tp _ h1)
    have e3 := ClsV.all g1 rv
    subst e3
    obtain ⟨oc, od2, dt, sl⟩ := o
    simp only at k2 k3
    subst k2 k3
    exact PySem.W.kia_tup Z I.kIn J k1 g2 (fun z => nomatch z) fun tk => ⟨.bl b, H, I.tok tk, rfl, q⟩
  · obtain ⟨u, g1, g2⟩ := kit_one E hC hc hb
    have e3 := g1.eq r2
    subst e3
    exact PySem.W.kia_one Z I.kIn J g2 (fun z => nomatch z) fun tk => ⟨.bl b, H, I.tok tk, rfl, q⟩
section
variable {K : PySem.W.Frag} {W : WX} {ks : List Nat}
theorem cd_isE {kn xs : List Addr} (E : ExKn K kn xs) : CbD K (rIsX K xs) (bIsE kn xs) := by
  intro ks σ0 Fm B H σ ρ vs ds rv Q I hx e q
  unfold bIsE at e
  split at e
  · rename_i C c
    obtain ⟨v, w, rfl, h1, h2⟩ := isA_2 hx
    cases e1 : kn.contains C with
    | false => rw [e1] at e; cases e
    | true =>
      rw [e1] at e
      cases e2 : isAll xs C c with
      | none => rw [e2] at e; cases e
      | some b =>
        rw [e2] at e
        cases e
        exact ⟨v, w, C, c, kn, b, rfl, h1.mono I.ex, h2.mono I.ex, E, by simpa using e1, e2, q B H _ (Same.refl B) I (.bl b)⟩
  · cases e
theorem de_refC {a : Addr} : DE K W (tC (.ref a)) (eC (.ref a)) := DE.c fun _ => .ref a
/-- an own class of exceptions over ValueError, without __init__ -/
structure Ex0 (K : PySem.W.Frag) (C : Addr) : Prop where
  exi : PySem.W.excIn K C [.type "ValueError", .type "Exception", .type "BaseException", .type "object"] "ValueError.__new__" = true
  kp : PySem.W.keepIn K (.ref C) = true
  sb : PySem.W.subIn K (.ref C) (.type "BaseException") = some true
  ty : PySem.W.typeIn K (.ref C) = some (.type "type")
theorem pmk_own0 {X : Cx} {C : Addr} {x m : Str} {j : Nat} {p p2 pos : Pos} (e : Ex0 X.K C) (g : X.mg x = some (.ref C)) (hg : Gl X x) (hdb : (x == ("__debug__" : Str)) = false := by decide) :
    PMk X (.Call (.Name x p) [.Constant (.str m) j p2] [] pos) (fun _ H Q => Q (.ref C) none H) := pmk_own PySem.F.excBase_ValueError e.exi g e.kp (raises_own e.sb e.ty) hg hdb
/-! try: g; except c as (slot i): (slot j) = it -/
def catchK (kn : List Addr) (i j : Nat) (o : Out) : Out :=
  match o with
  | .exc C _ ρ => cond (kn.contains C && Nat.blt i ρ.length) (.nx (((ρ.set i .no).set j (.im (.exn C))).set i .no)) .bad
  | o => o
def sKeep (kn : List Addr) (i j : Nat) (g : Env → Out) : Env → Out := fun ρ => catchK kn i j (g ρ)
theorem x_keep {kn : List Addr} {i j : Nat} {g : Env → Out} {ρ : Env} : sKeep kn i j g ρ = catchK kn i j (g ρ) := (rfl)
theorem x_catchKN {kn : List Addr} {i j : Nat} {ρ : Env} : catchK kn i j (.nx ρ) = .nx ρ := (rfl)
theorem x_catchKR {kn : List Addr} {i j : Nat} {ρ : Env} {rv : Rv} : catchK kn i j (.ret rv ρ) = .ret rv ρ := (rfl)
theorem x_catchKX {kn : List Addr} {i j : Nat} {ρ : Env} {C : Addr} {d : Option (Str × D)} : catchK kn i j (.exc C d ρ) = cond (kn.contains C && Nat.blt i ρ.length) (.nx (((ρ.set i .no).set j (.im (.exn C))).set i .no)) .bad := (rfl)
theorem ds_keep {tb : WX → TS} {c : Addr} {kn : List Addr} {i j : Nat} {g : Env → Out} (hi : i ∉ ks) (hj : j ∉ ks) (hm : AllC (fun C => PySem.W.exmOne K (.ref C) (.ref c) = some true) kn) (hb : ∀ W, DS K W ks (tb W) g) :
    DS K W ks (fun D σ H => tb (wKeep K (.ref c) i (fun _ _ _ => tAsg (tVar i) (gName j)) D) D σ H) (sKeep kn i j g) := fun σ0 Fm B H σ ρ E I p =>
  hb _ σ0 Fm B H σ ρ E I (by
    have p : PtS K ks σ0 Fm W B E (catchK kn i j (g ρ)) := p
    cases e : g ρ with
    | exc C d ρ' =>
      rw [e, x_catchKX] at p
      intro B' H' σ' dx s' I' x
      cases q : kn.contains C && Nat.blt i ρ'.length with
      | false => rw [q] at p; exact p.elim
      | true =>
        rw [q] at p
        rw [Bool.and_eq_true] at q
        have hC : C ∈ kn := by simpa using q.1
        have hl : i < ρ'.length := by simpa [Nat.blt_eq] using q.2
        refine ⟨hm.mem hC, C, rfl, fun a na => ⟨.ref a, List.getElem?_set_self (by rw [I'.len]; exact hl), fun na' => ?_⟩⟩
        have s2 := same_upd (o := ExK C dx a) (I'.ex.free na)
        have hx : dx = none ∨ ∃ q fs, dx = some q ∧ upd B' a (ExK C dx a) q = some (.xd fs) := by
          cases d with
          | none => exact .inl x
          | some nx =>
            obtain ⟨y, v, e1, e2, _⟩ := x
            exact .inr ⟨y, _, e1, s2 _ _ e2⟩
        have I2 := (((I'.setNo (some (.ref a)) hi).laid (o := ExK C dx a) na).setIm (v := .ref a) (d := .exn C) hj (.exn upd_same hx)).setNo none hi
        exact p _ _ _ (s'.trans s2) I2
    | nx ρ' => rw [e] at p; exact p
    | ret rv ρ' => rw [e] at p; exact p
    | brk ρ' => rw [e] at p; exact p
    | ct ρ' => rw [e] at p; exact p
    | bad => rw [e] at p; exact p.elim)
end
end DL

/-! DL, part zh: {k: v} of whole numbers -/
namespace DL
open PySem PySem.Spec PyProof.Rows L2
section
variable {K : PySem.W.Frag} {W : WX}
def eDct1 (k v : Int) : Env → R Rv := fun ρ => .ok (.im (.dic [(.inl k, .int v)])) ρ
theorem x_eDct1 {k v : Int} {ρ : Env} : eDct1 k v ρ = .ok (.im (.dic [(.inl k, .int v)])) ρ := (rfl)
theorem upd_upd {H : Hp} {p : Addr} {a b : HO} : upd (upd H p a) p b = upd H p b := by
  funext q
  by_cases e : q = p
  · rw [e, upd_same, upd_same]
  · rw [upd_ne e, upd_ne e, upd_ne e]
theorem de_dct1 {k v : Int} : DE K W (tDisp [(tC (.int k), tC (.int v))]) (eDct1 k v) := fun ks σ0 Fm B H σ ρ Q I p q hq =>
  ⟨upd_same, [(.inl k, .int v)], rfl, by show 1 ≤ 15; decide, by
    rw [upd_upd]
    exact p (upd B q (.dK [(.inl k, .int v)])) _ (.ref q) (fun c u e => by
      rw [upd_ne fun z => by rw [z, I.ex.free hq] at e; cases e]
      exact e) (I.laid hq) (.dic upd_same (.cons (.int v) .nil))⟩
end
end DL

/-! DL, part zi: tuples put together and cut -/
namespace DL
open PySem PySem.Spec PyProof.Rows L2
def opCatT : D → D → Option Rv
  | .tup (x :: xs), .tup (y :: ys) => if xs.length + ys.length ≤ 10000 then some (.im (.tup (x :: xs ++ y :: ys))) else none
  | _, _ => none
theorem x_catT {x y : D} {xs ys : List D} (h : xs.length + ys.length ≤ 10000) : opCatT (.tup (x :: xs)) (.tup (y :: ys)) = some (.im (.tup (x :: xs ++ y :: ys))) := if_pos h
theorem op_catK {X : Cx} {K : PySem.W.Frag} (e : X.K = K) : OpR X (binaryOp .Add) (rCatT K) := by subst e; exact op_catT
def slT (x : D) (lo hi : Option Int) : Option Rv :=
  match x with
  | .tup xs => if HT.sIx xs.length 0 lo = 0 ∧ HT.sIx xs.length xs.length hi = xs.length then none else some (.im (.tup (cutD xs lo hi)))
  | _ => none
theorem slT_tup {xs : List D} {lo hi : Option Int} : slT (.tup xs) lo hi = if HT.sIx xs.length 0 lo = 0 ∧ HT.sIx xs.length xs.length hi = xs.length then none else some (.im (.tup (cutD xs lo hi))) := (rfl)
def eSlT (a : Env → R Rv) (lo hi : Env → R (Option Int)) : Env → R Rv := fun ρ => (a ρ).bind fun x ρ => (lo ρ).bind fun l ρ => (hi ρ).bind fun u ρ => lift (slT x.d l u) ρ
theorem x_eSlT {f : Env → R Rv} {lo hi : Env → R (Option Int)} {ρ : Env} : eSlT f lo hi ρ = (f ρ).bind fun x ρ => (lo ρ).bind fun l ρ => (hi ρ).bind fun u ρ => lift (slT x.d l u) ρ := (rfl)
theorem sl_tupK {X : Cx} {K : PySem.W.Frag} (e : X.K = K) : SlR X (rSlT K) := by subst e; exact sl_tup
section
variable {K : PySem.W.Frag} {W : WX}
theorem od_catT : OpD K (rCatT K) opCatT := by
  intro ks σ0 Fm B H σ ρ x y dx dy rv Q I hx hy e q
  unfold opCatT at e
  split at e
  · rename_i d ds f fs
    by_cases hl : ds.length + fs.length ≤ 10000
    · rw [if_pos hl] at e
      cases e
      obtain ⟨a, xs, rfl, ha, k⟩ := hx.tupV
      obtain ⟨b, ys, rfl, hb, k2⟩ := hy.tupV
      have h1 := k.len
      have h2 := k2.len
      rw [List.length_cons] at h1 h2
      refine ⟨a, b, xs, ys, rfl, rfl, .inl (.inl (I.ex _ _ ha)), .inl (.inl (I.ex _ _ hb)), fun z => by rw [z] at h1; simp at h1, by rw [h1, h2]; exact sz_of (by omega), fun z => by rw [z] at h2; simp at h2, fun _ p hp => ?_⟩
      have s := same_upd (o := .tup (xs ++ ys)) (I.ex.free hp)
      exact q _ _ _ s (I.laid hp) (.tup upd_same ((k.app k2).mono s))
    · rw [if_neg hl] at e
      cases e
  · cases e
variable {ta : TE} {fa : Env → R Rv} {tl th : TO} {fl fh : Env → R (Option Int)}
theorem de_slT (ha : DE K W ta fa) (hl : DO K W tl fl) (hh : DO K W th fh) : DE K W (L2.tSl (rSlT K) ta tl th) (eSlT fa fl fh) := fun ks σ0 Fm B H σ ρ Q I p =>
  ha ks σ0 Fm B H σ ρ _ I (PtG.step p fun x ρ1 B1 H1 v s1 I1 v1 p1 => by
    obtain ⟨B2, s2, I2, i2⟩ := freeze I1 v1
    exact hl ks σ0 Fm B2 H1 σ ρ1 _ I2 (PtG.step (p1.mono s2) fun l ρ3 B3 H3 l' s3 I3 e3 p3 => by
      cases e3
      exact hh ks σ0 Fm B3 H3 σ ρ3 _ I3 (PtG.step p3 fun u ρ4 B4 H4 u' s4 I4 e4 p4 => by
        cases e4
        cases hx : x.d with
        | tup ds =>
          rw [hx] at i2 p4
          rw [slT_tup] at p4
          obtain ⟨a, xs, rfl, h1, k⟩ := i2.tupV
          by_cases hw : HT.sIx ds.length 0 l = 0 ∧ HT.sIx ds.length ds.length u = ds.length
          · rw [if_pos hw] at p4
            exact p4.elim
          · rw [if_neg hw] at p4
            refine ⟨a, xs, rfl, .inl (.inl (I4.ex _ _ ((s3.trans s4) _ _ h1))), by rw [k.len]; exact hw, fun p hp => ?_⟩
            have s := same_upd (o := .tup (cutV xs l u)) (I4.ex.free hp)
            exact p4 _ _ (.ref p) s (I4.laid hp) (.tup upd_same ((cut_is (k.mono (s3.trans s4)) l u).mono s))
        | _ => rw [hx] at p4; exact p4.elim)))
end
end DL

/-! DL, part zj: dict(zip(xs, ys)), xs whole numbers that differ -/
namespace DL
open PySem PySem.Spec PyProof.Rows L2
def tDictZip (K : PySem.W.Frag) (ta : TA) : TE := fun σ H Q => ta σ H fun vs H1 => ∃ (a b : Addr) (ns : List Int) (ys : List V), vs = [.ref a, .ref b] ∧ SqL K H1 a (ns.map V.int) ∧ SqL K H1 b ys ∧ ns.length = ys.length ∧
  ∀ p, H1 p = none → Q (.ref p) (upd H1 p (.dK (mergeK [] (List.zip (ns.map Sum.inl) ys))))
theorem kv_zip : ∀ {ns : List Int} {ys : List V} {us : List Value}, Vals ys us → KV (List.zip (ns.map (Sum.inl : Int → Key)) ys) (List.zip (ns.map (Sum.inl : Int → Key)) us)
  | [], _, _, _ => .nil
  | n :: ns, _, _, .nil => .nil
  | n :: ns, _, _, .cons r t => .cons ⟨rfl, r⟩ (kv_zip t)
theorem pe_dictZip {X : Cx} {e e2 : Expr} {ta : TA} {p p2 pos pos2 : Pos} (hc : X.calm = true) (hg : Gl X "dict") (hm : X.mg "dict" = none) (hg2 : Gl X "zip") (hm2 : X.mg "zip" = none) (ha : PA X [e, e2] ta)
    (hs : starEach [e, e2] X.env = (false, eval e X.env) :: starEach [e2] X.env := by rfl) (hpl : (backTo pos2 (starEach [e2] X.env)).any (·.1) = false := by rfl)
    (na : starEach [.Call (.Name "zip" p2) [e, e2] [] pos2] X.env = (false, eval (.Call (.Name "zip" p2) [e, e2] [] pos2) X.env) :: starEach [] X.env := by rfl) :
    PE X (.Call (.Name "dict" p) [.Call (.Name "zip" p2) [e, e2] [] pos2] [] pos) (tDictZip X.K ta) := by
  refine ⟨fun pins s σ H Q I h => ?_⟩
  refine Call_ (ld_blt I hg hm PyProof.Rows.boot_dict (PyProof.Rows.callWith_type1 (args_cons ?_ na) na))
  refine Call_ (ld_blt I hg2 hm2 PyProof.Rows.boot_zip (PyProof.Rows.callWith_type1 (thn (ha.run pos2 pins s σ H _ I h) fun us s1 ⟨vs, H1, I1, r1, q1⟩ => ?_) hs hpl))
  obtain ⟨a, b, ns, ys, ex, hqx, hqy, hl, q⟩ := q1
  subst ex
  obtain ⟨u, us, rfl, ru, r2⟩ : ∃ u us', us = u :: us' ∧ RelV (.ref a) u ∧ Vals [.ref b] us' := by cases r1 with | cons r rr => exact ⟨_, _, rfl, r, rr⟩
  obtain ⟨u2, rfl, ru2⟩ := vals1 r2
  cases ru
  cases ru2
  obtain ⟨its, rv, w1, z1⟩ := I1.list hqx
  obtain ⟨its2, rv2, w2, z2⟩ := I1.list hqy
  have l1 := rv.length
  have l2 := rv2.length
  rw [List.length_map] at l1
  refine call_zip_2 w1.isList w2.isList fun h' hz hTI hTO h1 h2 hsz hk => args_nil ?_
  have D := PySem.W.ktu_apart s1.heap.objs.size a b w1.lt w2.lt
  have nth : ∀ (i : Nat) (key v : Value), its.toArray[i]? = some key ∧ its2.toArray[i]? = some v → ∃ k, (List.zip (ns.map (Sum.inl : Int → Key)) its2)[i]? = some (k, v) ∧ (mixKind X.prog X.w).is k key = true := fun i key v e => by
    have e1 : its[i]? = some key := by simpa using e.1
    have e2 : its2[i]? = some v := by simpa using e.2
    have hi : i < ns.length := by
      rw [l1]
      exact (List.getElem?_eq_some_iff.mp e1).1
    obtain ⟨u, hu, ru⟩ := rv.get (i := i) (x := V.int ns[i]) (by rw [List.getElem?_map, List.getElem?_eq_getElem hi]; rfl)
    rw [e1] at hu
    cases hu
    obtain ⟨t, rfl⟩ := ru
    refine ⟨.inl ns[i], ?_, mixKind_int X.prog X.w _ _⟩
    rw [List.getElem?_zip_eq_some]
    exact ⟨by rw [List.getElem?_map, List.getElem?_eq_getElem hi]; rfl, e2⟩
  have len : (List.zip (ns.map (Sum.inl : Int → Key)) its2).length = min its.toArray.size its2.toArray.size := by
    rw [List.length_zip, List.length_map, l1, List.size_toArray, List.size_toArray]
  refine PySem.call_dict_pairs (knd := mixKind X.prog X.w) (PairArg.zip _ _ _ _ _ a b D its.toArray its2.toArray) (I1.ok.hd hc) ⟨hz, hTI, ⟨_, _, hTO⟩, h1, h2, w1.isList.at (fun o => hk _ o), w2.isList.at (fun o => hk _ o)⟩ ⟨len, nth⟩ (by rw [List.size_toArray]; exact Nat.le_trans (Nat.min_le_left _ _) (by rw [← l1]; rw [List.length_map] at z1; exact z1)) fun h'' tk hd' hk' => ?_
  have keep : ∀ c o, s1.heap.get? c = some o → h''.get? c = some o := fun c o e => hk' c o (fun m => by
    have := Heap.lt_size e
    simp only [List.mem_cons, List.not_mem_nil, or_false] at m
    rcases m with rfl | rfl | rfl | rfl <;> first | exact absurd this (Nat.not_lt.mpr (Nat.le_add_right _ _)) | exact absurd this (Nat.lt_irrefl _)) (hk c o e)
  have hle : s1.heap.objs.size ≤ h'.objs.size := by omega
  have hms : (h'.objs.size == sysModules) = false := beq_eq_false_iff_ne.mpr (Nat.ne_of_gt (Nat.lt_of_lt_of_le I1.big hle))
  have hlen : (mergeK [] (List.zip (ns.map (Sum.inl : Int → Key)) ys)).length ≤ sizeLine := by
    refine Nat.le_trans (length_mergeK _ []) ?_
    rw [List.length_nil, Nat.zero_add, List.length_zip, List.length_map]
    rw [List.length_map] at z1
    exact Nat.le_trans (Nat.min_le_left _ _) z1
  refine ⟨.ref h'.objs.size, upd H1 h'.objs.size (.dK (mergeK [] (List.zip (ns.map Sum.inl) ys))), I1.laid (t' := tk) keep hle (show ObjOk X.prog X.w _ _ _ (.dK (mergeK [] (List.zip (ns.map Sum.inl) ys))) from ⟨hlen, hms, _, KV.merge (kv_zip rv2) .nil, hd'⟩), rfl, q _ (I1.hok.fresh hle)⟩
theorem pe_dictZipK {X : Cx} {K : PySem.W.Frag} {e e2 : Expr} {ta : TA} {p p2 pos pos2 : Pos} (hK : X.K = K) (hc : X.calm = true) (hg : Gl X "dict") (hm : X.mg "dict" = none) (hg2 : Gl X "zip") (hm2 : X.mg "zip" = none) (ha : PA X [e, e2] ta)
    (hs : starEach [e, e2] X.env = (false, eval e X.env) :: starEach [e2] X.env := by rfl) (hpl : (backTo pos2 (starEach [e2] X.env)).any (·.1) = false := by rfl)
    (na : starEach [.Call (.Name "zip" p2) [e, e2] [] pos2] X.env = (false, eval (.Call (.Name "zip" p2) [e, e2] [] pos2) X.env) :: starEach [] X.env := by rfl) :
    PE X (.Call (.Name "dict" p) [.Call (.Name "zip" p2) [e, e2] [] pos2] [] pos) (tDictZip K ta) := hK ▸ pe_dictZip hc hg hm hg2 hm2 ha hs hpl na
def iOf : List D → Option (List Int)
  | [] => some []
  | .int i :: r => (iOf r).map (i :: ·)
  | _ :: _ => none
theorem iOf_map : ∀ ns : List Int, iOf (ns.map D.int) = some ns
  | [] => rfl
  | n :: r => by
    show (iOf (r.map D.int)).map (n :: ·) = _
    rw [iOf_map r]
    rfl
theorem iOf_some : ∀ {ds : List D} {ns : List Int}, iOf ds = some ns → ds = ns.map D.int
  | [], _, e => by
    cases e
    rfl
  | .int i :: r, ns, e => by
    rw [show iOf (.int i :: r) = (iOf r).map (i :: ·) from rfl] at e
    cases q : iOf r with
    | none => rw [q] at e; cases e
    | some ms =>
      rw [q] at e
      cases e
      rw [iOf_some q]
      rfl
theorem seqOf {H : Hp} {a : Addr} {xs : List V} {K : PySem.W.Frag} (h : H a = some (.lst xs)) : SqL K H a xs := .inl (.inl h)
def dzD (xs ys : List D) : Option Rv :=
  match iOf xs with
  | some ns => if ns.Nodup ∧ ns.length = ys.length then some (.im (.dic (List.zip (ns.map Sum.inl) ys))) else none
  | none => none
theorem x_dz {ns : List Int} {ys : List D} (h1 : ns.Nodup) (h2 : ns.length = ys.length) : dzD (ns.map D.int) ys = some (.im (.dic (List.zip (ns.map Sum.inl) ys))) := by
  unfold dzD
  rw [iOf_map]
  exact if_pos ⟨h1, h2⟩
def dzK (as : List Av) (ρ : Env) : R Rv :=
  match as with
  | [.im (.lst xs), .im (.lst ys)] => lift (dzD xs ys) ρ
  | _ => .bad
def eDictZip (fa : Env → R (List Av)) : Env → R Rv := fun ρ => (fa ρ).bind dzK
theorem x_eDictZip {fa : Env → R (List Av)} {ρ : Env} : eDictZip fa ρ = (fa ρ).bind dzK := (rfl)
theorem x_dzK {xs ys : List D} {ρ : Env} : dzK [.im (.lst xs), .im (.lst ys)] ρ = lift (dzD xs ys) ρ := (rfl)
theorem put_new : ∀ {kvs : List (Key × V)} {k : Key} {v : V}, k ∉ kvs.map (·.1) → putK kvs k v = kvs ++ [(k, v)] := by
  intro kvs k v h
  unfold putK
  rw [if_neg]
  intro z
  rw [List.any_eq_true] at z
  obtain ⟨p, hp, e⟩ := z
  exact h (List.mem_map.mpr ⟨p, hp, of_decide_eq_true e⟩)
theorem merge_new : ∀ (more kvs : List (Key × V)), ((kvs ++ more).map (·.1)).Nodup → mergeK kvs more = kvs ++ more
  | [], kvs, _ => by rw [List.append_nil]; rfl
  | p :: r, kvs, h => by
    show mergeK (putK kvs p.1 p.2) r = _
    have hp : p.1 ∉ kvs.map (·.1) := by
      rw [List.map_append, List.map_cons, List.nodup_append] at h
      intro z
      exact h.2.2 _ z _ List.mem_cons_self rfl
    rw [put_new hp, merge_new r (kvs ++ [(p.1, p.2)]) (by rw [List.append_assoc]; exact h), List.append_assoc]
    rfl
section
variable {K : PySem.W.Frag} {W : WX} {B : Hp}
theorem isA_intsV : ∀ {ns : List Int} {xs : List V}, IsA K B xs (ns.map D.int) → xs = ns.map V.int
  | [], _, .nil => rfl
  | n :: r, _, .cons h t => by
    rw [h.intV, isA_intsV t]
    rfl
theorem isK_zip : ∀ {ks : List Key} {ys : List V} {ds : List D}, IsA K B ys ds → IsK K B (List.zip ks ys) (List.zip ks ds)
  | [], _, _, _ => .nil
  | _ :: _, _, _, .nil => .nil
  | _ :: _, _, _, .cons h t => .cons h (isK_zip t)
theorem de_dictZip {ta : TA} {fa : Env → R (List Av)} (ha : DA K W ta fa) : DE K W (tDictZip K ta) (eDictZip fa) := fun ks σ0 Fm B H σ ρ Q I p =>
  ha ks σ0 Fm B H σ ρ _ I (PtG.step p fun as ρ1 B1 H1 vs s1 I1 v1 p1 => by
    unfold dzK at p1
    split at p1
    · rename_i xs ys
      obtain ⟨v, w, rfl, hv, hw⟩ := arg2 v1
      obtain ⟨a, us, rfl, h1, k1⟩ := hv.lstV
      obtain ⟨b, zs, rfl, h2, k2⟩ := hw.lstV
      unfold dzD at p1
      cases q : iOf xs with
      | none => rw [q] at p1; exact p1.elim
      | some ns =>
        rw [q] at p1
        by_cases hc : ns.Nodup ∧ ns.length = ys.length
        · have p1 : PtG K ks σ0 Fm W (vE K Fm σ) B1 σ Q (lift (if ns.Nodup ∧ ns.length = ys.length then some (.im (.dic (List.zip (ns.map Sum.inl) ys))) else none) ρ1) := p1
          rw [if_pos hc] at p1
          have e1 := iOf_some q
          subst e1
          have e2 := isA_intsV k1
          subst e2
          have l2 := k2.len
          refine ⟨a, b, ns, zs, rfl, seqOf (I1.ex _ _ h1), seqOf (I1.ex _ _ h2), by omega, fun p hp => ?_⟩
          have nd : ((([] : List (Key × V)) ++ List.zip (ns.map (Sum.inl : Int → Key)) zs).map (·.1)).Nodup := by
            rw [List.nil_append, List.map_fst_zip (by rw [List.length_map]; omega)]
            exact List.pairwise_map.mpr (hc.1.imp fun h z => h (Sum.inl.inj z))
          rw [merge_new _ [] nd, List.nil_append]
          have s := same_upd (o := .dK (List.zip (ns.map Sum.inl) zs)) (I1.ex.free hp)
          exact p1 _ _ (.ref p) s (I1.laid hp) (.dic upd_same (isK_zip (k2.mono s)))
        · have p1 : PtG K ks σ0 Fm W (vE K Fm σ) B1 σ Q (lift (if ns.Nodup ∧ ns.length = ys.length then some (.im (.dic (List.zip (ns.map Sum.inl) ys))) else none) ρ1) := p1
          rw [if_neg hc] at p1
          exact p1.elim
    · exact p1.elim)
end
end DL

/-! DL, part zk: a call of a def taken out of a list of defs: [f, g, h][k](..) -/
namespace DL
open PySem PySem.Spec PyProof.Rows L2
/-- fe gives the address of one of some defs -/
def tCallV (R : Addr → Sp → Prop) (E : L2.St → XK) (tf : TE) (t : TA) : TE := fun σ H Q => tf σ H fun y H1 => ∃ a sp, y = V.ref a ∧ R a sp ∧ t σ H1 fun vs H2 => sp vs H2 Q (E σ)
theorem pe_callV {X : Cx} {CX : CXT} {R : Addr → Sp → Prop} {E : L2.St → XK} {fe e : Expr} {es : List Expr} {pos : Pos} {tf : TE} {t : TA} (hf : PE X fe tf)
    (hA : ∀ a sp, R a sp → ∃ k fd ps, GFn X.prog X.w X.K X.mg X.base CX k a fd ps sp ∧ Room k X.A ∧ PySem.W.keepIn X.K (.ref a) = true ∧ Binds X.K fd ps []) (hgd : X.A.guards = some []) (hx : ∀ σ, PassesAt CX X σ (E σ)) (ha : PA X (e :: es) t)
    (ht : eval (.Call fe (e :: es) [] pos) X.env = (do callWith pos (← eval fe X.env) [] (backTo pos (starEach (e :: es) X.env)) (backToKw pos (keywordEach [] X.env))) := by rfl)
    (he : starEach (e :: es) X.env = (false, eval e X.env) :: starEach es X.env := by rfl) (hpl : (backTo pos (starEach es X.env)).any (·.1) = false := by rfl) : PE X (.Call fe (e :: es) [] pos) (tCallV R E tf t) := by
  refine ⟨fun pins s σ H Q I h => ?_⟩
  refine Call_ (thn (hf.run pins s σ H _ I h) fun u s1 ⟨y, H1, I1, ry, a, sp, ey, hR, q⟩ => ?_) ht
  subst ey
  obtain rfl : u = Value.ref a := ry
  obtain ⟨k, fd, ps, F, hr, hk, hb⟩ := hA a sp hR
  refine PySem.W.callWith_K (h₀ := X.base) I1.ok.mod.kin hk (thn (ha.run pos pins s1 σ _ _ I1 q) fun us s2 ⟨vs, H2, I2, r, q2⟩ => ⟨I2.kIn, ?_⟩) he hpl
  exact run_gfn F hr hgd hb (hx σ) I2 r q2
def refsA : List Addr → Env → R (List Av)
  | [] => aNil
  | a :: as => aCons (eC (.ref a)) (refsA as)
/-- the def at k among some, called -/
def eCallIx (n : Nat) (Fs : List (Env → R Rv)) (fi : Env → R Rv) (fa : Env → R (List Av)) : Env → R Rv := fun ρ => (fi ρ).bind fun rv ρ =>
  match rv.d with
  | .int i => match atI Fs i with
    | some F => (fa ρ).bind fun avs ρ => doCall n F avs ρ
    | none => .bad
  | _ => .bad
section
variable {K : PySem.W.Frag} {W : WX}
theorem refs_run : ∀ {as : List Addr} {ρ : Env}, refsA as ρ = .ok (as.map fun a => Av.im (.ref a)) ρ
  | [], _ => rfl
  | a :: as, ρ => by
    show aCons (eC (.ref a)) (refsA as) ρ = _
    rw [x_aCons, x_c]
    show ((refsA as) ρ).bind _ = _
    rw [refs_run]
    rfl
theorem ims_refs : ∀ {as : List Addr}, ims (as.map fun a => Av.im (.ref a)) = some (as.map D.ref)
  | [] => rfl
  | a :: as => by
    show (ims (as.map fun a => Av.im (.ref a))).map _ = _
    rw [ims_refs]
    rfl
theorem de_callIx {n : Nat} {as : List Addr} {Fs : List (Env → R Rv)} {fi : Env → R Rv} {tf : TE} {fa : Env → R (List Av)} {ta : TA} (hl : as.length = Fs.length) (h5 : as.length ≤ 100) (hf : DE K W tf (eOp ixD (eLst (refsA as)) fi)) (ha : DA K W ta fa) :
    DE K W (tCallV (fun a sp => ∃ (j : Nat) (F : Env → R Rv), as[j]? = some a ∧ Fs[j]? = some F ∧ sp = spD K n F) (WE W) tf ta) (eCallIx n Fs fi fa) := fun ks σ0 Fm B H σ ρ Q I p => by
  refine hf ks σ0 Fm B H σ ρ _ I ?_
  have e0 : eOp ixD (eLst (refsA as)) fi ρ = (fi ρ).bind fun y ρ => lift (ixD (.lst (as.map D.ref)) y.d) ρ := by
    rw [x_op, x_lst, refs_run]
    show ((lift (ims (as.map fun a => Av.im (.ref a))) ρ).bind _).bind _ = _
    rw [ims_refs]
    show (cond (Nat.ble (as.map D.ref).length 100000) (R.ok (Rv.own (as.map D.ref)) ρ) R.bad).bind _ = _
    rw [show Nat.ble (as.map D.ref).length 100000 = true by rw [Nat.ble_eq, List.length_map]; omega]
    rfl
  rw [e0]
  unfold eCallIx at p
  cases q : fi ρ with
  | exc C d ρ1 =>
    rw [q] at p
    exact p
  | bad =>
    rw [q] at p
    exact p.elim
  | ok rv ρ1 =>
    rw [q] at p
    show PtG K ks σ0 Fm W (vE K Fm σ) B σ _ (lift (ixD (.lst (as.map D.ref)) rv.d) ρ1)
    have p : PtG K ks σ0 Fm W (vE K Fm σ) B σ Q (match rv.d with
      | .int i => match atI Fs i with
        | some F => (fa ρ1).bind fun avs ρ => doCall n F avs ρ
        | none => .bad
      | _ => .bad) := p
    cases e : rv.d with
    | int i =>
      rw [e] at p
      simp only at p
      cases e2 : atI Fs i with
      | none =>
        rw [e2] at p
        exact p.elim
      | some F =>
        rw [e2] at p
        simp only at p
        obtain ⟨j, hj, hF⟩ : ∃ j, ixN Fs.length i = some j ∧ Fs[j]? = some F := by
          unfold atI at e2
          cases hj : ixN Fs.length i with
          | none => rw [hj] at e2; cases e2
          | some j => rw [hj] at e2; exact ⟨j, rfl, e2⟩
        have hja := (List.getElem?_eq_some_iff.mp hF).1
        obtain ⟨a, ea⟩ : ∃ a, as[j]? = some a := ⟨_, List.getElem?_eq_getElem (by omega)⟩
        have e3 : ixD (.lst (as.map D.ref)) (.int i) = some (.im (.ref a)) := by
          show (atI (as.map D.ref) i).map Rv.im = _
          unfold atI
          rw [List.length_map, hl, hj]
          show ((as.map D.ref)[j]?).map Rv.im = _
          rw [List.getElem?_map, ea]
          rfl
        rw [e3]
        intro B' H' v s I' hv
        have hv : Is K B' v (.ref a) := hv
        cases hv
        refine ⟨a, _, rfl, ⟨j, F, ea, hF, rfl⟩, ?_⟩
        exact ha ks σ0 Fm B' H' σ ρ1 _ I' (PtG.step (p.mono s) fun as ρ2 B1 H1 vs s1 I1 v1 p1 => call_core I1 v1 p1 fun _ _ _ _ h => h)
    | _ =>
      rw [e] at p
      exact p.elim
theorem x_callIx {n : Nat} {Fs : List (Env → R Rv)} {fi : Env → R Rv} {fa : Env → R (List Av)} {ρ ρ1 : Env} {i : Int} {F : Env → R Rv} (h : fi ρ = .ok (.im (.int i)) ρ1) (h2 : atI Fs i = some F) : eCallIx n Fs fi fa ρ = (fa ρ1).bind fun avs ρ => doCall n F avs ρ := by
  unfold eCallIx
  rw [h]
  show (match atI Fs i with | some F => (fa ρ1).bind fun avs ρ => doCall n F avs ρ | none => R.bad) = _
  rw [h2]
/-- the defs of a list of three -/
theorem held3 {P : Program} {w : World} {mg : Str → Option Value} {base : Heap} {CX : CXT} {A : Around} {n : Nat} {a0 a1 a2 : Addr} {F0 F1 F2 : Env → R Rv}
    (h0 : ∃ k fd ps, GFn P w K mg base CX k a0 fd ps (spD K n F0) ∧ Room k A ∧ PySem.W.keepIn K (.ref a0) = true ∧ Binds K fd ps [])
    (h1 : ∃ k fd ps, GFn P w K mg base CX k a1 fd ps (spD K n F1) ∧ Room k A ∧ PySem.W.keepIn K (.ref a1) = true ∧ Binds K fd ps [])
    (h2 : ∃ k fd ps, GFn P w K mg base CX k a2 fd ps (spD K n F2) ∧ Room k A ∧ PySem.W.keepIn K (.ref a2) = true ∧ Binds K fd ps []) :
    ∀ a sp, (∃ (j : Nat) (F : Env → R Rv), [a0, a1, a2][j]? = some a ∧ [F0, F1, F2][j]? = some F ∧ sp = spD K n F) → ∃ k fd ps, GFn P w K mg base CX k a fd ps sp ∧ Room k A ∧ PySem.W.keepIn K (.ref a) = true ∧ Binds K fd ps [] := by
  rintro a sp ⟨j, F, e1, e2, rfl⟩
  match j with
  | 0 => cases e1; cases e2; exact h0
  | 1 => cases e1; cases e2; exact h1
  | 2 => cases e1; cases e2; exact h2
  | j + 3 => simp at e1
end
end DL

/-! DL, part zl: sorted of a list of lists of numbers -/
namespace DL
open PySem PySem.Spec PyProof.Rows L2
abbrev encL (b : List Int) : PyData := .list (b.map .int)
abbrev leLL : List Int → List Int → Bool := PySem.W.dataLe false encL
theorem leLL_eq : leLL = fun p q => decide (p ≤ q) := PySem.W.dataLe_rows fun b : List Int => b
def rSortedL (K : PySem.W.Frag) : List V → Hp → VK → Prop := fun vs H Q => ∃ (a : Addr) (xs : List V) (bs : List (List Int)) (R : V → List Int → Prop), vs = [V.ref a] ∧ SqL K H a xs ∧ Paired R xs bs ∧ (∀ x b, R x b → Dp K H x (encL b)) ∧
  ∀ ys p, Paired R ys (bs.mergeSort leLL) → H p = none → Q (.ref p) (upd H p (.lst ys))
theorem each_of_paired {α β γ : Type} {R : α → γ → Prop} {S : α → β → Prop} : ∀ {xs : List α} {us : List β} {bs : List γ}, Paired S xs us → Paired R xs bs → PySem.W.EachIs (fun u b => ∃ x, S x u ∧ R x b) us bs
  | _, _, _, .nil, .nil => .nil
  | _, _, _, .cons a t, .cons b r => .cons ⟨_, a, b⟩ (each_of_paired t r)
theorem paired_of_each {α β γ : Type} {R : α → γ → Prop} {S : α → β → Prop} : ∀ {us : List β} {bs : List γ}, PySem.W.EachIs (fun u b => ∃ x, S x u ∧ R x b) us bs → ∃ ys, Paired S ys us ∧ Paired R ys bs
  | _, _, .nil => ⟨[], .nil, .nil⟩
  | _, _, .cons ⟨x, a, b⟩ t => by
    obtain ⟨ys, h1, h2⟩ := paired_of_each t
    exact ⟨x :: ys, .cons a h1, .cons b h2⟩
section
variable {K : PySem.W.Frag}
theorem cr_sortedL {X : Cx} (hu : X.A.units + 64 < cLine) : CallR X (.builtin "sorted") (rSortedL X.K) := by
  intro pins s σ H vs us Q I r h
  obtain ⟨a, xs, bs, R, rfl, hs, hp, hR, q⟩ := h
  obtain ⟨its, rv, hl, hz⟩ := I.list hs
  rw [Vals.ref1 r]
  have e := each_of_paired rv hp
  have hlen : xs.length = bs.length := Paired.length hp
  refine PySem.W.sorted_data (enc := encL) hl.isList e (e.mono fun u b ⟨x, hx, hb⟩ => Dp.reads I _ x u (hR x b hb) hx) (PySem.W.AllAlike.of fun b b' => by
      show PySem.W.alike (.list _) (.list _) = true
      rw [PySem.W.alike]
      exact PySem.W.alike_ints b b') (PySem.W.Sortable.others fun b => ⟨fun z => PyData.noConfusion z, fun xs z => PyData.noConfusion z⟩) (by omega) (fun b _ => ?_) fun out ho eo => ?_
  · show X.A.units + 2 + (PyData.list (b.map .int)).depth < cLine
    rw [PyData.depth, PySem.W.depth_ints]
    omega
  · obtain ⟨ys, y1, y2⟩ := paired_of_each eo
    obtain ⟨n, hn⟩ := sortedAll_at s.heap its out.toArray
    have hd := I.hok.fresh (Nat.le_succ s.heap.objs.size)
    refine ⟨.ref (s.heap.objs.size + 1), upd H (s.heap.objs.size + 1) (.lst ys), I.laid (t' := s.toks) (fun _ _ => sortedAll_old) (Nat.le_succ _) ⟨?_, out, n, y1, hn⟩, rfl, q ys _ y2 hd⟩
    rw [Paired.length y1, ho]
    omega
theorem cr_sortedLK {X : Cx} (e : X.K = K) (hu : X.A.units + 64 < cLine) : CallR X (.builtin "sorted") (rSortedL K) := by subst e; exact cr_sortedL hu
def intsD (b : List Int) : D := .lst (b.map D.int)
def rowOf : List D → Option (List Int)
  | [] => some []
  | .int i :: r => (rowOf r).map (i :: ·)
  | _ => none
def rowsOf : List D → Option (List (List Int))
  | [] => some []
  | .lst b :: r => (rowOf b).bind fun b => (rowsOf r).map (b :: ·)
  | _ => none
theorem rowOf_map : ∀ b : List Int, rowOf (b.map D.int) = some b
  | [] => rfl
  | i :: r => by
    show (rowOf (r.map D.int)).map (i :: ·) = _
    rw [rowOf_map r]
    rfl
theorem rowsOf_map : ∀ bs : List (List Int), rowsOf (bs.map intsD) = some bs
  | [] => rfl
  | b :: r => by
    show (rowOf (b.map D.int)).bind (fun b => (rowsOf (r.map intsD)).map (b :: ·)) = _
    rw [rowOf_map, rowsOf_map r]
    rfl
theorem rowOf_is : ∀ {ds : List D} {b : List Int}, rowOf ds = some b → ds = b.map D.int
  | [], _, h => by cases h; rfl
  | d :: r, b, h => by
    unfold rowOf at h
    split at h
    · rename_i h0
      cases h0
    · rename_i i r' h0
      cases h0
      cases e : rowOf r with
      | none => rw [e] at h; cases h
      | some qs =>
        rw [e] at h
        cases h
        rw [rowOf_is e]
        rfl
    · cases h
theorem rowsOf_is : ∀ {ds : List D} {bs : List (List Int)}, rowsOf ds = some bs → ds = bs.map intsD
  | [], _, h => by cases h; rfl
  | d :: r, bs, h => by
    unfold rowsOf at h
    split at h
    · rename_i h0
      cases h0
    · rename_i b r' h0
      cases h0
      cases e : rowOf b with
      | none => rw [e] at h; cases h
      | some c =>
        rw [e] at h
        have h : (rowsOf r).map (c :: ·) = some bs := h
        cases e2 : rowsOf r with
        | none => rw [e2] at h; cases h
        | some qs =>
          rw [e2] at h
          cases h
          rw [rowsOf_is e2, rowOf_is e]
          rfl
    · cases h
def bSortedL : List D → Option Rv
  | [.lst ds] => (rowsOf ds).map fun bs => .own ((bs.mergeSort leLL).map intsD)
  | _ => none
theorem x_sortedL {bs : List (List Int)} : bSortedL [.lst (bs.map intsD)] = some (.own ((bs.mergeSort leLL).map intsD)) := by
  show (rowsOf (bs.map intsD)).map _ = _
  rw [rowsOf_map]
  rfl
theorem isRows {B : Hp} : ∀ {xs : List V} {bs : List (List Int)}, IsA K B xs (bs.map intsD) → Paired (fun x b => Is K B x (intsD b)) xs bs
  | _, [], .nil => .nil
  | _, p :: r, .cons h t => .cons h (isRows t)
theorem isRows' {B : Hp} : ∀ {xs : List V} {bs : List (List Int)}, Paired (fun x b => Is K B x (intsD b)) xs bs → IsA K B xs (bs.map intsD)
  | _, _, .nil => .nil
  | _, _, .cons h t => .cons h (isRows' t)
theorem dp_ints {H : Hp} : ∀ b : List Int, DpAll K H (b.map V.int) (b.map .int)
  | [] => .nil
  | i :: r => .cons (.int i) (dp_ints r)
theorem cd_sortedL : CbD K (rSortedL K) bSortedL := by
  intro ks σ0 Fm B H σ ρ xs ds rv Q I hx e q
  unfold bSortedL at e
  split at e
  · rename_i ds'
    cases hp : rowsOf ds' with
    | none => rw [hp] at e; cases e
    | some bs =>
      rw [hp] at e
      cases e
      have hds := rowsOf_is hp
      subst hds
      obtain ⟨v, rfl, h⟩ := isA_1 hx
      obtain ⟨a, ys, rfl, ha, k⟩ := h.lstV
      refine ⟨a, ys, bs, fun x b => Is K B x (intsD b), rfl, .inl (.inl (I.ex _ _ ha)), isRows k, fun x b hb => ?_, fun zs p hz hn => ?_⟩
      · obtain ⟨a, vs, rfl, h1, h2⟩ := hb.lstV
        have hvs : vs = b.map V.int := isA_int (ns := b) h2
        rw [hvs] at h1
        exact .lst (.inl (.inl (I.ex _ _ h1))) (dp_ints b)
      · exact q B _ _ (Same.refl B) (I.made hn) (I.madeV hn (isRows' hz))
  · cases e
end
end DL

/-! DL, part zm: zip of three lists -/
namespace L2
open PySem PySem.Spec PyProof.Rows
/-- the lists at a, b, c as they stand at each turn, the items in new triples -/
def Itz3 (K : PySem.W.Frag) (a b c : Addr) : It :=
  ⟨fun i H => ∃ (xs ys zs : List V) (x y z : V), SqL K H a xs ∧ SqL K H b ys ∧ SqL K H c zs ∧ xs[i]? = some x ∧ ys[i]? = some y ∧ zs[i]? = some z,
    fun i H v H' => ∃ T x y z, v = .ref T ∧ H T = none ∧ H' = upd H T (.tup [x, y, z]) ∧ (∀ xs, SqL K H a xs → xs[i]? = some x) ∧ (∀ ys, SqL K H b ys → ys[i]? = some y) ∧ ∀ zs, SqL K H c zs → zs[i]? = some z,
    fun i H => ∃ xs ys zs : List V, SqL K H a xs ∧ SqL K H b ys ∧ SqL K H c zs ∧ (xs.length ≤ i ∨ ys.length ≤ i ∨ zs.length ≤ i)⟩
theorem zip3_sep {I a b c : Nat} (ha : a < I) (hb : b < I) (hc : c < I) : ZipSep3 (I + 5) (I + 3) (I + 4) I (I + 1) (I + 2) [I, a] [I + 1, b] [I + 2, c] := by
  constructor <;> simp only [List.mem_cons, List.not_mem_nil, or_false, not_or, ne_eq, true_or] <;> first | trivial | (refine ⟨?_, ?_⟩ <;> (refine PySem.W.neN ?_; omega)) | (refine PySem.W.neN ?_; omega)
theorem draws_end {prog : Program} {w : World} {A : Around} (hh : A.handled = none) (it l : Addr) (hne : l ≠ it) (items : Array Value) {i : Nat} {h : Heap} (h1 : h.IsListIter it l i) (h2 : h.IsList l items) :
    ∃ n P St, Draws prog w A it [it, l] n P St ∧ St i h ∧ i ≤ n ∧ (items.size ≤ i → i = n) := by
  by_cases hi : i < items.size
  · exact ⟨_, _, _, Draws.list hh it l hne items, ⟨h1, h2⟩, Nat.le_of_lt hi, fun z => by omega⟩
  · refine ⟨i, fun _ _ => True, fun j g => j = i ∧ g.IsListIter it l j ∧ g.IsList l items, ?_, ⟨rfl, h1, h2⟩, Nat.le_refl _, fun _ => rfl⟩
    exact
      { live := fun _ _ st => let ⟨o, ho, _⟩ := st.2.1; ⟨o, ho⟩
        frame := fun _ _ _ st hk => ⟨st.1, st.2.1.at fun o e => hk it (by simp) o e, st.2.2.at fun o e => hk l (by simp) o e⟩
        item := fun j s Q E hj st hQ => by have := st.1; omega
        done := fun s Q E st hE => wpAny_nextOf_list_end hh st.2.1 st.2.2 (by simp; omega) hE }
theorem turn_zip3 {P : Program} {w : World} {K : PySem.W.Frag} {elts : List Expr} {kk : Nat} {tpos : Pos} {a b c z TI TO i1 i2 i3 : Addr} (S : ZipSep3 z TI TO i1 i2 i3 [i1, a] [i2, b] [i3, c]) (ha : a ≠ i1) (hb : b ≠ i2) (hcc : c ≠ i3) :
    Turn P w K (.Tuple elts kk tpos) (Itz3 K a b c) [z, TI, TO, i1, i2, i3] z (fun i h => IsZip h z TI TO .none ∧ IsTupOf3 h TI (.ref i1) (.ref i2) (.ref i3) ∧ (∃ x y u, IsTupOf3 h TO x y u) ∧ h.IsListIter i1 a i ∧ h.IsListIter i2 b i ∧ h.IsListIter i3 c i) where
  mem := by simp
  obj := fun i h st d hd => by
    obtain ⟨hz, hTI, ⟨x, y, u, hTO⟩, ⟨o1, e1, _, d1⟩, ⟨o2, e2, _, d2⟩, ⟨o3, e3, _, d3⟩⟩ := st
    have e' : d = z ∨ d = TI ∨ d = TO ∨ d = i1 ∨ d = i2 ∨ d = i3 := by simpa using hd
    rcases e' with q | q | q | q | q | q
    · rw [q]; exact ⟨_, hz, fun v q => nomatch q⟩
    · rw [q]; exact ⟨_, hTI, fun v q => nomatch q⟩
    · rw [q]; exact ⟨_, hTO, fun v q => nomatch q⟩
    · rw [q]; exact ⟨o1, e1, fun v q => by rw [d1] at q; cases q⟩
    · rw [q]; exact ⟨o2, e2, fun v q => by rw [d2] at q; cases q⟩
    · rw [q]; exact ⟨o3, e3, fun v q => by rw [d3] at q; cases q⟩
  keep := fun i h h' st k => by
    obtain ⟨hz, hTI, ⟨x, y, u, hTO⟩, h1, h2, h3⟩ := st
    exact ⟨k z (by simp) _ hz, k TI (by simp) _ hTI, ⟨x, y, u, k TO (by simp) _ hTO⟩, h1.at fun o q => k i1 (by simp) o q, h2.at fun o q => k i2 (by simp) o q, h3.at fun o q => k i3 (by simp) o q⟩
  item := by
    intro X hP hw hK hc i pins s σ H E I hf st hg
    subst hP hw hK
    obtain ⟨hz, hTI, ⟨x0, y0, z0, hTO⟩, h1, h2, h3⟩ := st
    obtain ⟨xs, ys, zs, x, y, zz, hqx, hqy, hqz, hx, hy, hzz⟩ := hg
    obtain ⟨its, rv, p, _⟩ := I.list hqx
    obtain ⟨its2, rv2, p2, _⟩ := I.list hqy
    obtain ⟨its3, rv3, p3, _⟩ := I.list hqz
    obtain ⟨u, hu, ru⟩ := rv.get hx
    obtain ⟨u2, hu2, ru2⟩ := rv2.get hy
    obtain ⟨u3, hu3, ru3⟩ := rv3.get hzz
    have hzl : z < s.heap.objs.size := Heap.lt_size hz
    have hh : X.A.in1.handled = none := I.ok.hd hc
    have n1 : i < its.toArray.size := by simpa using (List.getElem?_eq_some_iff.mp hu).1
    have n2 : i < its2.toArray.size := by simpa using (List.getElem?_eq_some_iff.mp hu2).1
    have n3 : i < its3.toArray.size := by simpa using (List.getElem?_eq_some_iff.mp hu3).1
    refine wpAny_pyNext_zipD3_item S (Draws.list hh i1 a ha its.toArray) (Draws.list hh i2 b hb its2.toArray) (Draws.list hh i3 c hcc its3.toArray) hz hTI hTO ⟨h1, p.isList⟩ ⟨h2, p2.isList⟩ ⟨h3, p3.isList⟩ n1 n2 n3 fun v1 v2 v3 h' tk y1 y2 y3 z' TO' h1' h2' h3' hT hsz hk => ?_
    have e1 : v1 = u := by
      have y1 : its.toArray[i]? = some v1 := y1
      rw [show its.toArray[i]? = some u by simpa using hu] at y1
      exact (Option.some.inj y1).symm
    have e2 : v2 = u2 := by
      have y2 : its2.toArray[i]? = some v2 := y2
      rw [show its2.toArray[i]? = some u2 by simpa using hu2] at y2
      exact (Option.some.inj y2).symm
    have e3 : v3 = u3 := by
      have y3 : its3.toArray[i]? = some v3 := y3
      rw [show its3.toArray[i]? = some u3 by simpa using hu3] at y3
      exact (Option.some.inj y3).symm
    subst e1 e2 e3
    refine ⟨_, rfl, wpAny_letOwnedTupleGo_zip (s := { s with heap := h', toks := tk }) z' fun h'' z'' sb => ?_⟩
    have hT2 : h''.get? s.heap.objs.size = some { cls := .type "tuple", data := .seq #[v1, v2, v3] } := (sb.2 _ (Nat.ne_of_gt hzl)).trans hT
    have new : ObjOk X.prog X.w (upd H s.heap.objs.size (.tup [x, y, zz])) h'' s.heap.objs.size (.tup [x, y, zz]) :=
      ⟨by show 3 ≤ sizeLine; decide, [v1, v2, v3], .cons ru (.cons ru2 (.cons ru3 .nil)), ⟨_, hT2, rfl, _, rfl⟩⟩
    have I1 : Inv X pins σ (upd H s.heap.objs.size (.tup [x, y, zz])) { s with heap := h'', toks := tk } :=
      I.turnedNew (t' := tk) (ch := [z, TI, TO, i1, i2, i3]) (fun c o hb q => (sb.2 c (fun q' => hb (by simp [q']))).trans (hk c o (fun q' => hb (by simp [q'])) (fun q' => hb (by simp [q'])) (fun q' => hb (by simp [q'])) (fun q' => hb (by simp [q'])) (fun q' => hb (by simp [q'])) q)) hf (Nat.le_refl _) new
    refine ⟨.ref s.heap.objs.size, _, I1, rfl, ⟨_, x, y, zz, rfl, I.hok.fresh (Nat.le_refl _), rfl, fun l hl => by rw [I.list_inj hl hqx]; exact hx, fun l hl => by rw [I.list_inj hl hqy]; exact hy, fun l hl => by rw [I.list_inj hl hqz]; exact hzz⟩, ⟨z'', ?_, ⟨v1, v2, v3, ?_⟩, ?_, ?_, ?_⟩, fun d hcm => ?_⟩
    · exact (sb.2 _ S.TIz).trans (hk _ _ S.TIz S.TITO S.TIi1 S.TIi2 S.TIi3 hTI)
    · exact (sb.2 _ S.TOz).trans TO'
    · exact h1'.1.at fun o q => (sb.2 _ S.zi1.symm).trans q
    · exact h2'.1.at fun o q => (sb.2 _ S.zi2.symm).trans q
    · exact h3'.1.at fun o q => (sb.2 _ S.zi3.symm).trans q
    · have hlt : d < s.heap.objs.size := by
        have e' : d = z ∨ d = TI ∨ d = TO ∨ d = i1 ∨ d = i2 ∨ d = i3 := by simpa using hcm
        rcases e' with q | q | q | q | q | q
        · rw [q]; exact hzl
        · rw [q]; exact Heap.lt_size hTI
        · rw [q]; exact Heap.lt_size hTO
        · rw [q]; obtain ⟨_, e1, _⟩ := h1; exact Heap.lt_size e1
        · rw [q]; obtain ⟨_, e2, _⟩ := h2; exact Heap.lt_size e2
        · rw [q]; obtain ⟨_, e3, _⟩ := h3; exact Heap.lt_size e3
      rw [upd_ne (Nat.ne_of_lt hlt)]
      exact (hf d hcm).1
  done := by
    intro X hP hw hK hc i pins s σ H E I hf st hg
    subst hP hw hK
    obtain ⟨hz, hTI, ⟨x0, y0, z0, hTO⟩, h1, h2, h3⟩ := st
    obtain ⟨xs, ys, zs, hqx, hqy, hqz, hend⟩ := hg
    obtain ⟨its, rv, p, _⟩ := I.list hqx
    obtain ⟨its2, rv2, p2, _⟩ := I.list hqy
    obtain ⟨its3, rv3, p3, _⟩ := I.list hqz
    have l1 := rv.length
    have l2 := rv2.length
    have l3 := rv3.length
    have hh : X.A.in1.handled = none := I.ok.hd hc
    obtain ⟨n1, P1, St1, D1, t1, le1, q1⟩ := draws_end (prog := X.prog) (w := X.w) hh i1 a ha its.toArray h1 p.isList
    obtain ⟨n2, P2, St2, D2, t2, le2, q2⟩ := draws_end (prog := X.prog) (w := X.w) hh i2 b hb its2.toArray h2 p2.isList
    obtain ⟨n3, P3, St3, D3, t3, le3, q3⟩ := draws_end (prog := X.prog) (w := X.w) hh i3 c hcc its3.toArray h3 p3.isList
    have he : i = n1 ∨ i = n2 ∨ i = n3 := by
      rcases hend with z | z | z
      · exact .inl (q1 (by simp; omega))
      · exact .inr (.inl (q2 (by simp; omega)))
      · exact .inr (.inr (q3 (by simp; omega)))
    exact wpAny_pyNext_zipD3_end S D1 D2 D3 hz hTI hTO t1 t2 t3 le1 le2 le3 he fun h' tk hk => ⟨rfl, I.turnedL (t' := tk) (ch := [z, TI, TO, i1, i2, i3]) (fun c o hb q =>
      hk c o (fun q' => hb (by simp [q'])) (fun q' => hb (by simp [q'])) (fun q' => hb (by simp [q'])) (fun q' => hb (by simp [q'])) (fun q' => hb (by simp [q'])) q) hf⟩
  self := fun A i s Q E st h => wpAny_pyIter_zip st.1 h
def iZip3 (K : PySem.W.Frag) (ta : TA) : TI := fun σ H R => ta σ H fun vs H1 => ∃ a b c xs ys zs, vs = [.ref a, .ref b, .ref c] ∧ SqL K H1 a xs ∧ SqL K H1 b ys ∧ SqL K H1 c zs ∧ R (Itz3 K a b c) H1
theorem pi_zip3 {X : Cx} {e e2 e3 : Expr} {ta : TA} {p pos tpos : Pos} {elts : List Expr} {kk : Nat} (hg : Gl X "zip") (hm : X.mg "zip" = none) (ha : PA X [e, e2, e3] ta)
    (hs : starEach [e, e2, e3] X.env = (false, eval e X.env) :: starEach [e2, e3] X.env := by rfl) (hpl : (backTo pos (starEach [e2, e3] X.env)).any (·.1) = false := by rfl) :
    PI X (.Tuple elts kk tpos) (.Call (.Name "zip" p) [e, e2, e3] [] pos) (iZip3 X.K ta) := by
  refine ⟨fun pins s σ H R I h => ?_⟩
  refine Call_ (ld_blt I hg hm PyProof.Rows.boot_zip (PyProof.Rows.callWith_type1 (thn (ha.run pos pins s σ H _ I h) fun us s1 ⟨vs, H1, I1, r1, q1⟩ => ?_) hs hpl))
  obtain ⟨a, b, c, xs, ys, zs, ex, hqx, hqy, hqz, q⟩ := q1
  subst ex
  cases r1 with
  | cons r rr =>
    cases rr with
    | cons r' rr =>
      cases rr with
      | cons r'' rr =>
        cases rr
        cases r
        cases r'
        cases r''
        obtain ⟨its, rv, p1, _⟩ := I1.list hqx
        obtain ⟨its2, rv2, p2, _⟩ := I1.list hqy
        obtain ⟨its3, rv3, p3, _⟩ := I1.list hqz
        have la : a < s1.heap.objs.size := p1.lt
        have lb : b < s1.heap.objs.size := p2.lt
        have lc : c < s1.heap.objs.size := p3.lt
        refine zip_begins3 (begins_list a its.toArray) (begins_list b its2.toArray) (begins_list c its3.toArray) p1.isList p2.isList p3.isList fun h' hz hTI hTO h1 h2 h3 hsz hk => wpAny_pyIter_zip hz ?_
        have I2 : Inv X pins σ H1 { s1 with heap := h' } := I1.kept (t' := s1.toks) hk
        refine ⟨s1.heap.objs.size + 5, [s1.heap.objs.size + 5, s1.heap.objs.size + 3, s1.heap.objs.size + 4, s1.heap.objs.size, s1.heap.objs.size + 1, s1.heap.objs.size + 2], _, _, H1, rfl, I2, turn_zip3 (zip3_sep la lb lc) (Nat.ne_of_lt la) (Nat.ne_of_lt (Nat.lt_succ_of_lt lb)) (Nat.ne_of_lt (Nat.lt_succ_of_lt (Nat.lt_succ_of_lt lc))), ⟨hz, hTI, ⟨_, _, _, hTO⟩, ⟨_, h1, rfl, rfl⟩, ⟨_, h2, rfl, rfl⟩, ⟨_, h3, rfl, rfl⟩⟩, fun d hcm => ?_, q⟩
        have hle : s1.heap.objs.size ≤ d := by
          simp only [List.mem_cons, List.not_mem_nil, or_false] at hcm
          rcases hcm with rfl | rfl | rfl | rfl | rfl | rfl <;> first | exact Nat.le_add_right _ _ | exact Nat.le_refl _
        exact I1.fpOk hle (I1.hok.fresh hle)
theorem pi_zip3K {X : Cx} {K : PySem.W.Frag} {e e2 e3 : Expr} {ta : TA} {p pos tpos : Pos} {elts : List Expr} {kk : Nat} (hK : X.K = K) (hg : Gl X "zip") (hm : X.mg "zip" = none) (ha : PA X [e, e2, e3] ta)
    (hs : starEach [e, e2, e3] X.env = (false, eval e X.env) :: starEach [e2, e3] X.env := by rfl) (hpl : (backTo pos (starEach [e2, e3] X.env)).any (·.1) = false := by rfl) :
    PI X (.Tuple elts kk tpos) (.Call (.Name "zip" p) [e, e2, e3] [] pos) (iZip3 K ta) := hK ▸ pi_zip3 hg hm ha hs hpl
theorem pi_zipK {X : Cx} {K : PySem.W.Frag} {e e2 : Expr} {ta : TA} {p pos tpos : Pos} {elts : List Expr} {kk : Nat} (hK : X.K = K) (hg : Gl X "zip") (hm : X.mg "zip" = none) (ha : PA X [e, e2] ta)
    (hs : starEach [e, e2] X.env = (false, eval e X.env) :: starEach [e2] X.env := by rfl) (hpl : (backTo pos (starEach [e2] X.env)).any (·.1) = false := by rfl) :
    PI X (.Tuple elts kk tpos) (.Call (.Name "zip" p) [e, e2] [] pos) (iZip K ta) := hK ▸ pi_zip hg hm ha hs hpl
end L2
namespace DL
open PySem PySem.Spec PyProof.Rows L2
section
variable {K : PySem.W.Frag} {W : WX}
def zipD3 : List D → List D → List D → List D
  | a :: r, b :: s, c :: t => .tup [a, b, c] :: zipD3 r s t
  | _, _, _ => []
theorem zipD3_get : ∀ {xs ys zs : List D} {i : Nat} {x y z : D}, xs[i]? = some x → ys[i]? = some y → zs[i]? = some z → (zipD3 xs ys zs)[i]? = some (.tup [x, y, z])
  | _ :: _, _ :: _, _ :: _, 0, _, _, _, h1, h2, h3 => by
    cases h1
    cases h2
    cases h3
    rfl
  | _ :: xs, _ :: ys, _ :: zs, i + 1, x, y, z, h1, h2, h3 => zipD3_get (xs := xs) (ys := ys) (zs := zs) (i := i) h1 h2 h3
  | [], _, _, _, _, _, _, h1, _, _ => by simp at h1
  | _ :: _, [], _, _, _, _, _, _, h2, _ => by simp at h2
  | _ :: _, _ :: _, [], _, _, _, _, _, _, h3 => by simp at h3
theorem zipD3_len : ∀ {xs ys zs : List D}, (zipD3 xs ys zs).length = min (min xs.length ys.length) zs.length
  | [], _, _ => by simp [zipD3]
  | _ :: _, [], _ => by simp [zipD3]
  | _ :: _, _ :: _, [] => by simp [zipD3]
  | _ :: xs, _ :: ys, _ :: zs => by
    rw [show zipD3 (_ :: xs) (_ :: ys) (_ :: zs) = _ :: zipD3 xs ys zs from rfl, List.length_cons, List.length_cons, List.length_cons, List.length_cons, zipD3_len (xs := xs)]
    omega
theorem wk_zip3 {a b c : Addr} {xs ys zs : List V} {ds es fs : List D} {B0 : Hp} (h : SqL K B0 a xs) (h' : SqL K B0 b ys) (h'' : SqL K B0 c zs) (kk : IsA K B0 xs ds) (kk' : IsA K B0 ys es) (kk'' : IsA K B0 zs fs) : Wk K (Itz3 K a b c) (zipD3 ds es fs) B0 := by
  intro ks σ0 Fm B H σ ρ i s I
  have hq : SqL K H a xs := I.ex.seq (s.seq h)
  have hq' : SqL K H b ys := I.ex.seq (s.seq h')
  have hq'' : SqL K H c zs := I.ex.seq (s.seq h'')
  have l1 := kk.len
  have l2 := kk'.len
  have l3 := kk''.len
  rw [zipD3_len]
  refine ⟨fun hi => ?_, fun hi => ⟨xs, ys, zs, hq, hq', hq'', by omega⟩⟩
  have hi2 : i < xs.length := by omega
  have hi3 : i < ys.length := by omega
  have hi4 : i < zs.length := by omega
  refine ⟨⟨xs, ys, zs, xs[i], ys[i], zs[i], hq, hq', hq'', List.getElem?_eq_getElem hi2, List.getElem?_eq_getElem hi3, List.getElem?_eq_getElem hi4⟩, fun v H' y => ?_⟩
  obtain ⟨T, x, z, u, rfl, hT, rfl, f1, f2, f3⟩ := y
  obtain ⟨d, hd, iv⟩ := kk.getV (f1 xs hq)
  obtain ⟨e, he, iv'⟩ := kk'.getV (f2 ys hq')
  obtain ⟨f, hf, iv''⟩ := kk''.getV (f3 zs hq'')
  have s2 := same_upd (o := .tup [x, z, u]) (I.ex.free hT)
  exact ⟨_, _, zipD3_get hd he hf, s2, same_upd hT, I.laid hT, .tup upd_same (.cons ((iv.mono s).mono s2) (.cons ((iv'.mono s).mono s2) (.cons ((iv''.mono s).mono s2) .nil)))⟩
def zipK3 (as : List Av) (ρ : DL.Env) : R (List D) :=
  match as with
  | [.im (.lst ds), .im (.lst es), .im (.lst fs)] => .ok (zipD3 ds es fs) ρ
  | _ => .bad
def iZip3D (f : Env → R (List Av)) : Env → R (List D) := fun ρ => (f ρ).bind zipK3
theorem x_zip3 {f : DL.Env → R (List Av)} {ρ : DL.Env} : iZip3D f ρ = (f ρ).bind zipK3 := (rfl)
theorem x_zipK3 {ds es fs : List D} {ρ : DL.Env} : zipK3 [.im (.lst ds), .im (.lst es), .im (.lst fs)] ρ = .ok (zipD3 ds es fs) ρ := (rfl)
theorem arg3' {σ : L2.St} {B H : Hp} {ρ : Env} {vs : List V} {d e f : D} (h : ArgIs K σ B H ρ vs [.im d, .im e, .im f]) : ∃ u v w, vs = [u, v, w] ∧ Is K B u d ∧ Is K B v e ∧ Is K B w f := by
  cases h with
  | cons a b =>
    obtain ⟨v, w, rfl, h, h'⟩ := arg2 (σ := σ) (B := B) (H := H) (ρ := ρ) b
    exact ⟨_, _, _, rfl, a, h, h'⟩
theorem di_zip3 {tr : TA} {fr : Env → R (List Av)} (h : DA K W tr fr) : DI K W (iZip3 K tr) (iZip3D fr) := fun ks σ0 Fm B H σ ρ Q I p =>
  h ks σ0 Fm B H σ ρ _ I (PtG.step p fun as ρ1 B1 H1 vs s I1 v1 p1 => by
    unfold zipK3 at p1
    split at p1
    · obtain ⟨u, v, w, rfl, hu, hv, hw⟩ := arg3' v1
      obtain ⟨a, xs, rfl, ha, kk⟩ := hu.lstV
      obtain ⟨b, ys, rfl, hb, kk'⟩ := hv.lstV
      obtain ⟨c, zs, rfl, hc, kk''⟩ := hw.lstV
      exact ⟨a, b, c, xs, ys, zs, rfl, .inl (.inl (I1.ex _ _ ha)), .inl (.inl (I1.ex _ _ hb)), .inl (.inl (I1.ex _ _ hc)), p1 B1 H1 _ (Same.refl B1) I1 (wk_zip3 (.inl (.inl ha)) (.inl (.inl hb)) (.inl (.inl hc)) kk kk' kk'')⟩
    · exact p1.elim)
end
/-- one of these is caught -/
def isKn (kn : List Addr) (a : Addr) : Option Bool := if a ∈ kn then some true else none
theorem isKn_ok {K : PySem.W.Frag} {c : Addr} {kn : List Addr} (h : AllC (fun C => PySem.W.exmOne K (.ref C) (.ref c) = some true) kn) : ∀ a b, isKn kn a = some b → PySem.W.exmOne K (.ref a) (.ref c) = some b := fun a b e => by
  unfold isKn at e
  by_cases q : a ∈ kn
  · rw [if_pos q] at e
    cases e
    exact h.mem q
  · rw [if_neg q] at e
    cases e
theorem isKn_t {kn : List Addr} {a : Addr} (h : a ∈ kn) : isKn kn a = some true := if_pos h
/-! max of a list of lists of numbers -/
section
variable {K : PySem.W.Frag}
def rowV (H : Hp) (K : PySem.W.Frag) (x : V) (b : List Int) : Prop := ∃ t, x = .ref t ∧ SqL K H t (b.map V.int)
def rMaxL (K : PySem.W.Frag) : List V → Hp → VK → Prop := fun vs H Q => ∃ (a : Addr) (xs : List V) (p : List Int) (ps : List (List Int)), vs = [V.ref a] ∧ SqL K H a xs ∧ Paired (rowV H K) xs (p :: ps) ∧
  ∀ (i : Nat) x, xs[i]? = some x → (p :: ps)[i]? = some (PySem.W.maxOf p ps) → Q x H
theorem reads_row {X : Cx} {pins : List (Addr × Obj)} {σ : L2.St} {H : Hp} {s : Shared} (I : Inv X pins σ H s) {b : Addr} {p : List Int} (h : SqL X.K H b (p.map V.int)) : ∃ as, Reads s.heap (.ref b) (encL p) as :=
  Dp.reads I (encL p) (.ref b) (.ref b) (.lst h (dp_ints p)) rfl
theorem encL_inj {p q : List Int} (h : encL p = encL q) : p = q := by
  have h : p.map PyData.int = q.map PyData.int := by injection h
  exact (List.map_inj_right (fun _ _ e => by injection e)).mp h
theorem row_of {X : Cx} {pins : List (Addr × Obj)} {σ : L2.St} {H : Hp} {s : Shared} (I : Inv X pins σ H s) {b : Addr} {p q : List Int} {as : List Addr} (h : SqL X.K H b (p.map V.int)) (r : Reads s.heap (.ref b) (encL q) as) : p = q := by
  obtain ⟨bs, h1⟩ := reads_row I h
  exact encL_inj (PySem.W.alike_unique _ _ _ _ _ (by
    show PySem.W.alike (.list _) (.list _) = true
    rw [PySem.W.alike]
    exact PySem.W.alike_ints p q) h1 r)
theorem reads_rows {X : Cx} {pins : List (Addr × Obj)} {σ : L2.St} {H : Hp} {s : Shared} (I : Inv X pins σ H s) : ∀ {xs : List V} {ps : List (List Int)} {us : List Value}, Paired (rowV H X.K) xs ps → Vals xs us → ∃ as, ReadsAll s.heap us (ps.map PySem.W.Datum.toD) as
  | _, _, _, .nil, r => by
    cases r
    exact ⟨_, .nil⟩
  | _, _, _, .cons (b := p) h t, r => by
    cases r with
    | cons r1 r2 =>
      obtain ⟨b, rfl, hb⟩ := h
      cases r1
      obtain ⟨as, k1⟩ := reads_row I hb
      obtain ⟨bs, k2⟩ := reads_rows I t r2
      exact ⟨_, .cons k1 k2⟩
theorem cr_maxL {X : Cx} (hc : X.calm = true) (hu : X.A.units + 64 < cLine) : CallR X (.builtin "max") (rMaxL X.K) := by
  intro pins s σ H vs us Q I r h
  obtain ⟨a, xs, p, ps, rfl, hs, hp, q⟩ := h
  obtain ⟨its, rv, hl, _⟩ := I.list hs
  rw [Vals.ref1 r]
  obtain ⟨as, hr⟩ := reads_rows I hp rv
  refine PySem.W.max_list_datum (α := List Int) (x := p) (xs := ps) (I.ok.hd hc) hl.isList ⟨_, hr⟩ (by show X.A.units + 1 + _ < cLine; simp only [PySem.W.Datum.depth]; omega) fun i v h' tk hi hv hk => ?_
  obtain ⟨as, hv⟩ := hv
  have I' : Inv X pins σ H { s with heap := h', toks := tk } := I.kept hk
  have hi : its[i]? = some v := by simpa using hi
  have hi2 : i < its.length := (List.getElem?_eq_some_iff.mp hi).1
  have hlen : xs.length = its.length := Paired.length rv
  have hix : i < xs.length := by omega
  have hxi : xs[i]? = some xs[i] := List.getElem?_eq_getElem hix
  have hrel : RelV xs[i] v := by
    obtain ⟨w, hw, hr⟩ := Vals.get rv hxi
    rw [hi] at hw
    cases hw
    exact hr
  obtain ⟨z, hz, b, hb, hsq⟩ := pair_get hp (i := i) hxi
  rw [hb] at hrel
  cases hrel
  have e : z = PySem.W.maxOf p ps := row_of I' (p := z) (q := PySem.W.maxOf p ps) hsq hv
  rw [e] at hz
  exact ⟨xs[i], H, I', by rw [hb]; rfl, q i _ hxi hz⟩
theorem cr_maxLK {X : Cx} (e : X.K = K) (hc : X.calm = true) (hu : X.A.units + 64 < cLine) : CallR X (.builtin "max") (rMaxL K) := by subst e; exact cr_maxL hc hu
def bMaxL : List D → Option Rv
  | [.lst ds] => (rowsOf ds).bind fun ps => match ps with
    | p :: r => some (.im (intsD (PySem.W.maxOf p r)))
    | [] => none
  | _ => none
theorem x_maxL {p : List Int} {ps : List (List Int)} : bMaxL [.lst ((p :: ps).map intsD)] = some (.im (intsD (PySem.W.maxOf p ps))) := by
  show (rowsOf ((p :: ps).map intsD)).bind _ = _
  rw [rowsOf_map]
  rfl
theorem cd_maxL : CbD K (rMaxL K) bMaxL := by
  intro ks σ0 Fm B H σ ρ xs ds rv Q I hx e q
  unfold bMaxL at e
  split at e
  · rename_i ds'
    cases hp : rowsOf ds' with
    | none => rw [hp] at e; cases e
    | some ps =>
      rw [hp] at e
      cases ps with
      | nil => cases e
      | cons p r =>
        cases e
        have hds := rowsOf_is hp
        subst hds
        obtain ⟨v, rfl, h⟩ := isA_1 hx
        obtain ⟨a, ys, rfl, ha, k⟩ := h.lstV
        have kH : Paired (rowV H K) ys (p :: r) := pair_mono (isRows k) fun x b _ hb => by
          obtain ⟨t, vs, rfl, h1, h2⟩ := hb.lstV
          have hvs : vs = b.map V.int := isA_int (ns := b) h2
          rw [hvs] at h1
          exact ⟨t, rfl, .inl (.inl (I.ex _ _ h1))⟩
        refine ⟨a, ys, p, r, rfl, .inl (.inl (I.ex _ _ ha)), kH, fun i x hi hm => q B H _ (Same.refl B) I ?_⟩
        obtain ⟨d, hd, hid⟩ := k.getV hi
        rw [List.getElem?_map, hm] at hd
        cases hd
        exact hid
  · cases e
end
end DL

/-! DL, part zo: a call of one of two or four defs; a kept exception's field -/
namespace DL
open PySem PySem.Spec PyProof.Rows L2
theorem held2 {K : PySem.W.Frag} {P : Program} {w : World} {mg : Str → Option Value} {base : Heap} {CX : CXT} {A : Around} {n : Nat} {a0 a1 : Addr} {F0 F1 : Env → R Rv}
    (h0 : ∃ k fd ps, GFn P w K mg base CX k a0 fd ps (spD K n F0) ∧ Room k A ∧ PySem.W.keepIn K (.ref a0) = true ∧ Binds K fd ps [])
    (h1 : ∃ k fd ps, GFn P w K mg base CX k a1 fd ps (spD K n F1) ∧ Room k A ∧ PySem.W.keepIn K (.ref a1) = true ∧ Binds K fd ps []) :
    ∀ a sp, (∃ (j : Nat) (F : Env → R Rv), [a0, a1][j]? = some a ∧ [F0, F1][j]? = some F ∧ sp = spD K n F) → ∃ k fd ps, GFn P w K mg base CX k a fd ps sp ∧ Room k A ∧ PySem.W.keepIn K (.ref a) = true ∧ Binds K fd ps [] := by
  rintro a sp ⟨j, F, e1, e2, rfl⟩
  match j with
  | 0 => cases e1; cases e2; exact h0
  | 1 => cases e1; cases e2; exact h1
  | j + 2 => simp at e1
theorem held4 {K : PySem.W.Frag} {P : Program} {w : World} {mg : Str → Option Value} {base : Heap} {CX : CXT} {A : Around} {n : Nat} {a0 a1 a2 a3 : Addr} {F0 F1 F2 F3 : Env → R Rv}
    (h0 : ∃ k fd ps, GFn P w K mg base CX k a0 fd ps (spD K n F0) ∧ Room k A ∧ PySem.W.keepIn K (.ref a0) = true ∧ Binds K fd ps [])
    (h1 : ∃ k fd ps, GFn P w K mg base CX k a1 fd ps (spD K n F1) ∧ Room k A ∧ PySem.W.keepIn K (.ref a1) = true ∧ Binds K fd ps [])
    (h2 : ∃ k fd ps, GFn P w K mg base CX k a2 fd ps (spD K n F2) ∧ Room k A ∧ PySem.W.keepIn K (.ref a2) = true ∧ Binds K fd ps [])
    (h3 : ∃ k fd ps, GFn P w K mg base CX k a3 fd ps (spD K n F3) ∧ Room k A ∧ PySem.W.keepIn K (.ref a3) = true ∧ Binds K fd ps []) :
    ∀ a sp, (∃ (j : Nat) (F : Env → R Rv), [a0, a1, a2, a3][j]? = some a ∧ [F0, F1, F2, F3][j]? = some F ∧ sp = spD K n F) → ∃ k fd ps, GFn P w K mg base CX k a fd ps sp ∧ Room k A ∧ PySem.W.keepIn K (.ref a) = true ∧ Binds K fd ps [] := by
  rintro a sp ⟨j, F, e1, e2, rfl⟩
  match j with
  | 0 => cases e1; cases e2; exact h0
  | 1 => cases e1; cases e2; exact h1
  | 2 => cases e1; cases e2; exact h2
  | 3 => cases e1; cases e2; exact h3
  | j + 4 => simp at e1
/-! an exception kept with its field -/
def kfD (C : Addr) : Option (Str × D) → D
  | none => .exn C
  | some (n, x) => .exf C n x
def catchKF (kn : List Addr) (i j : Nat) (o : Out) : Out :=
  match o with
  | .exc C d ρ => cond (kn.contains C && Nat.blt i ρ.length) (.nx (((ρ.set i .no).set j (.im (kfD C d))).set i .no)) .bad
  | o => o
def sKeepF (kn : List Addr) (i j : Nat) (g : Env → Out) : Env → Out := fun ρ => catchKF kn i j (g ρ)
theorem x_keepF {kn : List Addr} {i j : Nat} {g : Env → Out} {ρ : Env} : sKeepF kn i j g ρ = catchKF kn i j (g ρ) := (rfl)
theorem x_catchKFN {kn : List Addr} {i j : Nat} {ρ : Env} : catchKF kn i j (.nx ρ) = .nx ρ := (rfl)
theorem x_catchKFR {kn : List Addr} {i j : Nat} {ρ : Env} {rv : Rv} : catchKF kn i j (.ret rv ρ) = .ret rv ρ := (rfl)
theorem x_catchKFX {kn : List Addr} {i j : Nat} {ρ : Env} {C : Addr} {d : Option (Str × D)} (h1 : kn.contains C = true) (h2 : Nat.blt i ρ.length = true) : catchKF kn i j (.exc C d ρ) = .nx (((ρ.set i .no).set j (.im (kfD C d))).set i .no) := by
  show cond (kn.contains C && Nat.blt i ρ.length) _ _ = _
  rw [h1, h2]
  rfl
section
variable {K : PySem.W.Frag} {W : WX} {ks : List Nat}
theorem ds_keepF {tb : WX → TS} {c : Addr} {kn : List Addr} {i j : Nat} {g : Env → Out} (hi : i ∉ ks) (hj : j ∉ ks) (hm : AllC (fun C => PySem.W.exmOne K (.ref C) (.ref c) = some true) kn) (hb : ∀ W, DS K W ks (tb W) g) :
    DS K W ks (fun D σ H => tb (wKeep K (.ref c) i (fun _ _ _ => tAsg (tVar i) (gName j)) D) D σ H) (sKeepF kn i j g) := fun σ0 Fm B H σ ρ E I p =>
  hb _ σ0 Fm B H σ ρ E I (by
    have p : PtS K ks σ0 Fm W B E (catchKF kn i j (g ρ)) := p
    cases e : g ρ with
    | exc C d ρ' =>
      rw [e] at p
      have p : PtS K ks σ0 Fm W B E (cond (kn.contains C && Nat.blt i ρ'.length) (.nx (((ρ'.set i .no).set j (.im (kfD C d))).set i .no)) .bad) := p
      intro B' H' σ' dx s' I' x
      cases q : kn.contains C && Nat.blt i ρ'.length with
      | false => rw [q] at p; exact p.elim
      | true =>
        rw [q] at p
        rw [Bool.and_eq_true] at q
        have hC : C ∈ kn := by simpa using q.1
        have hl : i < ρ'.length := by simpa [Nat.blt_eq] using q.2
        refine ⟨hm.mem hC, C, rfl, fun a na => ⟨.ref a, List.getElem?_set_self (by rw [I'.len]; exact hl), fun na' => ?_⟩⟩
        have s2 := same_upd (o := ExK C dx a) (I'.ex.free na)
        have hx : Is K (upd B' a (ExK C dx a)) (.ref a) (kfD C d) := by
          cases d with
          | none =>
            cases (show dx = none from x)
            exact .exn upd_same (.inl rfl)
          | some nx =>
            obtain ⟨y, v, e1, e2, e3⟩ := x
            subst e1
            exact .exf upd_same (s2 _ _ e2) (e3.mono s2)
        have I2 := (((I'.setNo (some (.ref a)) hi).laid (o := ExK C dx a) na).setIm (v := .ref a) (d := kfD C d) hj hx).setNo none hi
        exact p _ _ _ (s'.trans s2) I2
    | nx ρ' => rw [e] at p; exact p
    | ret rv ρ' => rw [e] at p; exact p
    | brk ρ' => rw [e] at p; exact p
    | ct ρ' => rw [e] at p; exact p
    | bad => rw [e] at p; exact p.elim)
end
def tXfK (C : Addr) (f : Str) (te : TE) : TE := fun σ H Q => te σ H fun x H1 => ∃ (a dd : Addr) (v : V), x = .ref a ∧ H1 a = some (ExK C (some dd) a) ∧ H1 dd = some (.xd [(f, v)]) ∧ Q v H1
theorem pe_xfK {X : Cx} {C : Addr} {e : Expr} {te : TE} {pos : Pos} {n : Str} (T : XfC X.K C) (hno : PySem.W.findIn X.K (.ref C) n = some none)
    (he : PE X e te) (hb : attributeBase e n X.env (eval e X.env) = eval e X.env := by rfl) : PE X (.Attribute e n pos) (tXfK C n te) := by
  refine ⟨fun pins s σ H Q I h => ?_⟩
  refine attr_of hb (thn (he.run pins s σ H _ I h) fun u s1 hh => ?_)
  obtain ⟨x, H1, I1, rx, a, dd, v, ex, e1, e2, q⟩ := hh
  subst ex
  obtain rfl : u = Value.ref a := rx
  obtain ⟨⟨oe, vs, k1, k2, k3⟩, _, _⟩ := I1.hok a _ e1
  have hx : ObjOk X.prog X.w H1 s1.heap dd (.xd [(n, v)]) := I1.hok dd _ e2
  obtain ⟨mA, hns, hr⟩ := hx
  obtain ⟨od, ho, hl⟩ := lookIn_ns hns
  have hv : List.lookup n [(n, v)] = some v := by simp [List.lookup]
  obtain ⟨u, hu, ru⟩ := RelO.some_of (v := v) (o := mA n) (by rw [← hv]; exact hr n)
  have J : PySem.W.InstAt s1.heap a oe C (some od) := ⟨k1, k2.1, by unfold PySem.W.notCls; rw [k3] <;> rfl, by rw [k2.2]; exact ho⟩
  exact HandSPX.exc_get I1.kIn J T.ga T.gg T.exC (PySem.W.findObj_own T.hdC hno rfl (by rw [hl, hu])) (handed_of ru) ⟨v, H1, I1.tok _, ru, q⟩
def fldD (C : Addr) (n : Str) : Rv → Option D
  | .im (.exf C' n' x) => if C' = C ∧ n' = n then some x else none
  | _ => none
def eXfK (C : Addr) (n : Str) (f : Env → R Rv) : Env → R Rv := fun ρ => (f ρ).bind fun rv ρ => match fldD C n rv with
  | some x => .ok (.im x) ρ
  | none => .bad
section
variable {K : PySem.W.Frag} {W : WX} {ks : List Nat}
theorem de_xfK {C : Addr} {n : Str} {te : TE} {f : Env → R Rv} (h : DE K W te f) : DE K W (tXfK C n te) (eXfK C n f) := fun ks σ0 Fm B H σ ρ Q I p =>
  h ks σ0 Fm B H σ ρ _ I (PtG.step p fun rv ρ1 B1 H1 v s1 I1 v1 p1 => by
    cases q : fldD C n rv with
    | none =>
      rw [q] at p1
      exact p1.elim
    | some x =>
      rw [q] at p1
      have p1 : PtG K ks σ0 Fm W (vE K Fm σ) B1 σ Q (.ok (.im x) ρ1) := p1
      unfold fldD at q
      split at q
      · rename_i C' n' x'
        split at q
        · rename_i hh
          obtain ⟨rfl, rfl⟩ := hh
          cases q
          have v1 : Is K B1 v (.exf C' n' x) := v1
          obtain ⟨a, dd, w, rfl, e1, e2, e3⟩ := v1.exfV
          exact ⟨a, dd, w, rfl, I1.ex _ _ e1, I1.ex _ _ e2, PtG.ok1 p1 I1 e3⟩
        · cases q
      · cases q)
theorem x_xfK {C : Addr} {n : Str} {f : Env → R Rv} {x : D} {ρ ρ' : Env} (h : f ρ = .ok (.im (.exf C n x)) ρ') : eXfK C n f ρ = .ok (.im x) ρ' := by
  unfold eXfK
  rw [h]
  show (match fldD C n (.im (.exf C n x)) with | some x => R.ok (Rv.im x) ρ' | none => .bad) = _
  rw [show fldD C n (.im (.exf C n x)) = some x from if_pos ⟨rfl, rfl⟩]
/-- the class of a kept exception with a field -/
def bIsF (kn xs : List Addr) : List D → Option Rv
  | [.exn C, c] => bIsE kn xs [.exn C, c]
  | [.exf C _ _, c] => bIsE kn xs [.exn C, c]
  | _ => none
theorem x_isF {kn xs : List Addr} {C : Addr} {c : D} : bIsF kn xs [.exn C, c] = bIsE kn xs [.exn C, c] := (rfl)
theorem x_isFF {kn xs : List Addr} {C : Addr} {n : Str} {x c : D} : bIsF kn xs [.exf C n x, c] = bIsE kn xs [.exn C, c] := (rfl)
theorem cd_isF {kn xs : List Addr} (E : ExKn K kn xs) : CbD K (rIsX K xs) (bIsF kn xs) := by
  intro ks σ0 Fm B H σ ρ vs ds rv Q I hx e q
  unfold bIsF at e
  split at e
  · exact cd_isE E ks σ0 Fm B H σ ρ vs _ rv Q I hx e q
  · rename_i C n x c
    obtain ⟨v, w, rfl, h1, h2⟩ := isA_2 hx
    exact cd_isE E ks σ0 Fm B H σ ρ [v, w] [.exn C, c] rv Q I (.cons h1.exfN (.cons h2 .nil)) e q
  · cases e
end
end DL

/-! DL, part zr: trees of one's own -/
namespace DL
open PySem PySem.Spec PyProof.Rows L2
def toTr : Rv → Option Tr
  | .im d => some (.im d)
  | .own ds => some (.nd false (ds.map Tr.im))
  | .bk (.tree tp xs) => some (.nd tp xs)
  | .bk _ => none
theorem x_toI {d : D} : toTr (.im d) = some (.im d) := (rfl)
theorem x_toO2 {ds : List D} : toTr (.own ds) = some (.nd false (ds.map Tr.im)) := (rfl)
theorem x_toT {tp : Bool} {xs : List Tr} : toTr (.bk (.tree tp xs)) = some (.nd tp xs) := (rfl)
theorem trD_im : ∀ ds : List D, trD (ds.map Tr.im) = ds
  | [] => by rw [List.map_nil, trD]
  | d :: ds => by rw [List.map_cons, trD, Tr.d, trD_im ds]
theorem trD_map {α : Type} (f : α → Tr) : ∀ xs : List α, trD (xs.map f) = xs.map fun x => (f x).d
  | [] => by rw [List.map_nil, trD]; rfl
  | x :: xs => by rw [List.map_cons, trD, trD_map f xs]; rfl
theorem trD_app : ∀ xs ys : List Tr, trD (xs ++ ys) = trD xs ++ trD ys
  | [], ys => by rw [trD]; rfl
  | x :: xs, ys => by rw [List.cons_append, trD, trD, trD_app xs ys]; rfl
theorem d_im {d : D} : (Tr.im d).d = d := by rw [Tr.d]
theorem d_nt {xs : List Tr} : (Tr.nd true xs).d = .tup (trD xs) := by rw [Tr.d]
theorem d_nf {xs : List Tr} : (Tr.nd false xs).d = .lst (trD xs) := by rw [Tr.d]
theorem trLeaf_im : ∀ ds : List D, trLeaf (ds.map Tr.im) = ds.all leafD
  | [] => by rw [List.map_nil, trLeaf]; rfl
  | d :: ds => by rw [List.map_cons, trLeaf, Tr.leaf, trLeaf_im ds]; rfl
theorem leaf_nd {tp : Bool} {xs : List Tr} : (Tr.nd tp xs).leaf = trLeaf xs := by rw [Tr.leaf]
theorem leaf_im {d : D} : (Tr.im d).leaf = leafD d := by rw [Tr.leaf]
theorem trLeaf_cons {t : Tr} {ts : List Tr} : trLeaf (t :: ts) = (t.leaf && trLeaf ts) := by rw [trLeaf]
theorem trLeaf_nil : trLeaf [] = true := by rw [trLeaf]
theorem trLeaf_all : ∀ {xs : List Tr}, (∀ x ∈ xs, x.leaf = true) → trLeaf xs = true
  | [], _ => by rw [trLeaf]
  | x :: xs, h => by rw [trLeaf, h x List.mem_cons_self, trLeaf_all fun y hy => h y (List.mem_cons_of_mem _ hy)]; rfl
theorem bdLeaf_t {tp : Bool} {xs : List Tr} : bdLeaf (.tree tp xs) = trLeaf xs := (rfl)
theorem x_frTt {xs : List Tr} : frB (.tree true xs) = .im (.tup (trD xs)) := by
  show Sl.im (Bd.tree true xs).d = _
  rw [trd_t]
theorem x_frTf {xs : List Tr} : frB (.tree false xs) = .im (.lst (trD xs)) := by
  show Sl.im (Bd.tree false xs).d = _
  rw [trd_f]
theorem leaf_ints {ns : List Int} : (ns.map D.int).all leafD = true := List.all_eq_true.mpr fun d hd => by
  obtain ⟨n, _, rfl⟩ := List.mem_map.mp hd
  rfl
section
variable {K : PySem.W.Frag} {ks : List Nat} {σ0 : L2.St} {Fm B B1 H H' : Hp} {σ : L2.St} {ρ : Env} {W : WX} {ta tb : TE} {fa fb : Env → R Rv}
theorem isA_tr : ∀ {vs : List V} {ds : List D}, IsA K B vs ds → TAtA K B H vs (ds.map Tr.im) []
  | _, _, .nil => .nil
  | _, _, .cons h k => TAtA.cons (ps := []) (qs := []) (.im h) (isA_tr k)
/-- what may be held fast -/
def Fre (B Fm H : Hp) (σ : L2.St) (ρ : Env) (ps : List Addr) : Prop := ∀ p ∈ ps, B p = none ∧ Fm p = none ∧ Apart H σ ρ p
theorem tr_is {v : V} {rv : Rv} {t : Tr} (h : vE K Fm σ B H ρ v rv) (e : toTr rv = some t) : ∃ ps, TAt K B H v t ps ∧ ps.Nodup ∧ Fre B Fm H σ ρ ps := by
  cases rv with
  | im d =>
    cases e
    exact ⟨[], .im h, List.nodup_nil, fun p hp => by cases hp⟩
  | own ds =>
    cases e
    obtain ⟨a, xs, rfl, h1, h2, h3, h4, h5⟩ := h
    refine ⟨[a], .nd (tp := false) h1 (isA_tr h4), by simp, fun p hp => ?_⟩
    rw [List.mem_singleton] at hp
    subst hp
    exact ⟨h2, h3, h5⟩
  | bk t' =>
    cases t' with
    | tree tp xs =>
      cases e
      obtain ⟨⟨ps, k, n⟩, hf⟩ := h
      exact ⟨ps, k, n, fun p hp => hf p (k.ft p hp)⟩
    | deck ps n => cases e
    | pile ps => cases e
    | mix tp xs => cases e
theorem tr_v {v : V} {tp : Bool} {xs : List Tr} {ps : List Addr} (h : TAt K B H v (.nd tp xs) ps) (n : ps.Nodup) (f : Fre B Fm H σ ρ ps) : vE K Fm σ B H ρ v (.bk (.tree tp xs)) := ⟨⟨ps, h, n⟩, fun p g => f p (TFt.mem g h)⟩
/-! held fast -/
def addH (Fm H : Hp) : List Addr → Hp
  | [] => Fm
  | p :: ps => match H p with
    | some o => upd (addH Fm H ps) p o
    | none => addH Fm H ps
theorem addH_some {p : Addr} {ps : List Addr} {o : HO} (e : H p = some o) : addH Fm H (p :: ps) = upd (addH Fm H ps) p o := by
  show (match H p with | some o => upd (addH Fm H ps) p o | none => addH Fm H ps) = _
  rw [e]
theorem addH_no {p : Addr} {ps : List Addr} (e : H p = none) : addH Fm H (p :: ps) = addH Fm H ps := by
  show (match H p with | some o => upd (addH Fm H ps) p o | none => addH Fm H ps) = _
  rw [e]
theorem addH_none : ∀ {ps : List Addr} {p : Addr}, p ∉ ps → addH Fm H ps p = Fm p
  | [], _, _ => rfl
  | q :: qs, p, h => by
    cases e : H q with
    | some o =>
      rw [addH_some e, upd_ne fun z => h (by rw [z]; exact List.mem_cons_self)]
      exact addH_none fun z => h (List.mem_cons_of_mem _ z)
    | none =>
      rw [addH_no e]
      exact addH_none fun z => h (List.mem_cons_of_mem _ z)
theorem addH_live {q : Addr} : ∀ {ps : List Addr}, (∀ p ∈ ps, H p ≠ none) → q ∈ ps → addH Fm H ps q ≠ none
  | [], _, hq => by cases hq
  | r :: rs, hl, hq => by
    cases e : H r with
    | none => exact absurd e (hl r List.mem_cons_self)
    | some o =>
      rw [addH_some e]
      by_cases z : q = r
      · rw [z, upd_same]
        exact Option.some_ne_none _
      · rw [upd_ne z]
        exact addH_live (fun p hp => hl p (List.mem_cons_of_mem _ hp)) (by
          rcases List.mem_cons.mp hq with y | y
          · exact absurd y z
          · exact y)
theorem IV.lockT : ∀ {ps : List Addr}, IV K ks σ0 Fm B H σ ρ → Fre B Fm H σ ρ ps → ps.Nodup → IV K ks σ0 (addH Fm H ps) B H σ ρ
  | [], I, _, _ => I
  | p :: ps, I, h, n => by
    have ih := IV.lockT (ps := ps) I (fun q hq => h q (List.mem_cons_of_mem _ hq)) (List.nodup_cons.mp n).2
    obtain ⟨h1, h2, h3⟩ := h p List.mem_cons_self
    cases e : H p with
    | some o =>
      rw [addH_some e]
      exact ih.lock e h1 (by rw [addH_none (List.nodup_cons.mp n).1]; exact h2) h3
    | none =>
      rw [addH_no e]
      exact ih
theorem IV.unlockT : ∀ {ps : List Addr} {H0 : Hp}, IV K ks σ0 (addH Fm H0 ps) B H σ ρ → (∀ p ∈ ps, H0 p ≠ none ∧ Fm p = none) → ps.Nodup → IV K ks σ0 Fm B H σ ρ ∧ (∀ p ∈ ps, H p = H0 p) ∧ Fre B Fm H σ ρ ps
  | [], _, I, _, _ => ⟨I, (fun p hp => by cases hp), (fun p hp => by cases hp)⟩
  | p :: ps, H0, I, h, n => by
    have n1 := (List.nodup_cons.mp n).1
    cases e : H0 p with
    | some o =>
      rw [addH_some e] at I
      obtain ⟨I1, g1, g2, g3⟩ := I.unlock (by rw [addH_none n1]; exact (h p List.mem_cons_self).2)
      obtain ⟨I2, k1, k2⟩ := IV.unlockT I1 (fun q hq => h q (List.mem_cons_of_mem _ hq)) (List.nodup_cons.mp n).2
      refine ⟨I2, fun q hq => ?_, fun q hq => ?_⟩
      · rcases List.mem_cons.mp hq with z | hq
        · rw [z, g1, e]
        · exact k1 q hq
      · rcases List.mem_cons.mp hq with z | hq
        · rw [z]
          exact ⟨g2, (h p List.mem_cons_self).2, g3⟩
        · exact k2 q hq
    | none => exact absurd e (h p List.mem_cons_self).1
theorem IV.weakF {Fm' : Hp} (I : IV K ks σ0 Fm' B H σ ρ) (s : Same Fm Fm') : IV K ks σ0 Fm B H σ ρ := by
  refine ⟨I.ex, fun a o e => I.fr a o (s a o e), fun a o e => I.fb a o (s a o e), I.len, I.im, fun i ds e => ?_, I.dj, I.pin, I.bs.to (fun i t e => e) (fun i t e => rfl) (Same.refl B) fun i t v p e e2 f hl hbn hfn ho => ⟨rfl, hbn, s.free hfn, ho⟩⟩
  obtain ⟨a, xs, h1, h2, h3, h4, h5⟩ := I.own i ds e
  exact ⟨a, xs, h1, h2, h3, s.free h4, h5⟩
theorem same_addH : ∀ {ps : List Addr}, (∀ p ∈ ps, Fm p = none) → Same Fm (addH Fm H ps)
  | [], _ => Same.refl Fm
  | p :: ps, h => by
    have ih := same_addH (ps := ps) fun q hq => h q (List.mem_cons_of_mem _ hq)
    intro a o e
    cases e2 : H p with
    | some o =>
      rw [addH_some e2, upd_ne fun z => by rw [z, h p List.mem_cons_self] at e; cases e]
      exact ih a _ e
    | none =>
      rw [addH_no e2]
      exact ih a o e
theorem PtG.stepF {α β γ δ : Type} {Fm' : Hp} {vis : Hp → Hp → Env → β → α → Prop} {vis2 : Hp → Hp → Env → δ → γ → Prop} {Q : δ → Hp → Prop} {Q1 : β → Hp → Prop} {r : R α} {k : α → Env → R γ} (s : Same Fm Fm') (h : PtG K ks σ0 Fm W vis2 B σ Q (r.bind k))
    (go : ∀ a ρ1 B1 H1 b, Same B B1 → IV K ks σ0 Fm' B1 H1 σ ρ1 → vis B1 H1 ρ1 b a → PtG K ks σ0 Fm W vis2 B1 σ Q (k a ρ1) → Q1 b H1) : PtG K ks σ0 Fm' W vis B σ Q1 r := by
  cases r with
  | ok a ρ1 => exact fun B1 H1 b s' i v => go a ρ1 B1 H1 b s' i v (PtG.mono h s')
  | exc C d ρ' => exact fun B' H' dx s' I' x => h B' H' dx s' (I'.weakF s) x
  | bad => exact h
/-! a tuple or list of two -/
theorem made_tree {tp : Bool} {vs : List V} {xs : List Tr} {ps : List Addr} {q : Addr} (I : IV K ks σ0 Fm B H σ ρ) (hq : H q = none) (hp : TAtA K B H vs xs ps) (n : ps.Nodup) (hf : Fre B Fm H σ ρ ps) : vE K Fm σ B (upd H q (mkO tp vs)) ρ (.ref q) (.bk (.tree tp xs)) := by
  have hn : q ∉ ps := fun z => hp.live q z hq
  refine tr_v (ps := q :: ps) (.nd upd_same (hp.congr fun p hp' => upd_ne fun z => hn (by rw [← z]; exact hp'))) (List.nodup_cons.mpr ⟨hn, n⟩) fun p hp' => ?_
  rcases List.mem_cons.mp hp' with z | hp'
  · rw [z]
    refine ⟨I.ex.free hq, I.fr.free hq, fun j es h z => ?_, fun j t w h h' => I.bs.fresh hq h h'⟩
    obtain ⟨c, ys, g1, g2, _⟩ := I.own j es h
    rw [z] at g1
    cases g1
    rw [hq] at g2
    cases g2
  · obtain ⟨h1, h2, h3⟩ := hf p hp'
    refine ⟨h1, h2, h3.o, fun i t w e e2 => ?_⟩
    intro f
    obtain ⟨v, k1, k2, k3⟩ := I.bs.bk i t e
    rw [e2] at k1
    cases k1
    exact h3.b i t w e e2 ((Bd.ftEq (fun p g => upd_ne fun z => Bd.live k2 g (by rw [z]; exact hq)) p).mp f)
def eTwoT (tp : Bool) (f g : Env → R Rv) : Env → R Rv := fun ρ => (f ρ).bind fun a ρ => match toTr a with
  | some x => (g ρ).bind fun b ρ => match toTr b with
    | some y => .ok (.bk (.tree tp [x, y])) ρ
    | none => .bad
  | none => .bad
theorem x_twoT {tp : Bool} {f g : Env → R Rv} {ρ ρ1 ρ2 : Env} {a b : Rv} {x y : Tr} (h1 : f ρ = .ok a ρ1) (h2 : toTr a = some x) (h3 : g ρ1 = .ok b ρ2) (h4 : toTr b = some y) : eTwoT tp f g ρ = .ok (.bk (.tree tp [x, y])) ρ2 := by
  unfold eTwoT
  rw [h1]
  show (match toTr a with | some x => (g ρ1).bind _ | none => R.bad) = _
  rw [h2]
  show (g ρ1).bind _ = _
  rw [h3]
  show (match toTr b with | some y => R.ok (Rv.bk (.tree tp [x, y])) ρ2 | none => R.bad) = _
  rw [h4]
theorem two_core {tp : Bool} {Q : V → Hp → Prop} {G : V → V → Hp → Prop} (h : DE K W ta fa) (h' : DE K W tb fb) (I : IV K ks σ0 Fm B H σ ρ) (p : PtG K ks σ0 Fm W (vE K Fm σ) B σ Q (eTwoT tp fa fb ρ))
    (hG : ∀ v w H2, (∀ q, H2 q = none → Q (.ref q) (upd H2 q (mkO tp [v, w]))) → G v w H2) : ta σ H fun v H1 => tb σ H1 fun w H2 => G v w H2 :=
  h ks σ0 Fm B H σ ρ _ I (PtG.step p fun a ρ1 B1 H1 v s I1 v1 p1 => by
    cases ea : toTr a with
    | none => rw [ea] at p1; exact p1.elim
    | some x =>
      rw [ea] at p1
      obtain ⟨ps, k1, n1, f1⟩ := tr_is v1 ea
      have sF : Same Fm (addH Fm H1 ps) := same_addH fun q hq => (f1 q hq).2.1
      refine h' ks σ0 _ B1 H1 σ ρ1 _ (I1.lockT f1 n1) (PtG.stepF sF p1 fun b ρ2 B2 H2 w s2 I2 w1 p2 => ?_)
      cases eb : toTr b with
      | none => rw [eb] at p2; exact p2.elim
      | some y =>
        rw [eb] at p2
        obtain ⟨qs, k2, n2, f2⟩ := tr_is w1 eb
        obtain ⟨I3, g1, g2⟩ := I2.unlockT (fun q hq => ⟨k1.live q hq, (f1 q hq).2.1⟩) n1
        have kx : TAt K B2 H2 v x ps := (k1.monoB s2).congr g1
        have dis : ∀ q, q ∈ qs → q ∉ ps := fun q hq hp => by
          have := (f2 q hq).2.1
          exact addH_live (fun p hp => k1.live p hp) hp this
        have all : TAtA K B2 H2 [v, w] [x, y] (ps ++ (qs ++ [])) := .cons kx (.cons k2 .nil)
        rw [List.append_nil] at all
        have nd : (ps ++ qs).Nodup := List.nodup_append.mpr ⟨n1, n2, fun a ha b hb e => dis b hb (by rw [← e]; exact ha)⟩
        have fr : Fre B2 Fm H2 σ ρ2 (ps ++ qs) := fun q hq => by
          rcases List.mem_append.mp hq with hq | hq
          · exact g2 q hq
          · obtain ⟨z1, z2, z3⟩ := f2 q hq
            exact ⟨z1, by rw [addH_none (dis q hq)] at z2; exact z2, z3⟩
        exact hG v w H2 fun q hq => p2 B2 _ _ (Same.refl B2) (I3.made hq) (made_tree I3 hq all nd fr))
theorem de_tupT (h : DE K W ta fa) (h' : DE K W tb fb) : DE K W (tTup (tCons ta (tCons tb tNil))) (eTwoT true fa fb) := fun ks σ0 Fm B H σ ρ Q I p =>
  two_core (tp := true) h h' I p fun v w H2 k => ⟨sz_of (n := 2) (by decide), k⟩
theorem de_lstT (h : DE K W ta fa) (h' : DE K W tb fb) : DE K W (tLst (tCons ta (tCons tb tNil))) (eTwoT false fa fb) := fun ks σ0 Fm B H σ ρ Q I p =>
  two_core (tp := false) h h' I p fun v w H2 k => ⟨sz_of (n := 2) (by decide), k⟩
/-! a comprehension of things of one's own -/
theorem TAtA.app : ∀ {vs us : List V} {ts xs : List Tr} {ps qs : List Addr}, TAtA K B H vs ts ps → TAtA K B H us xs qs → TAtA K B H (vs ++ us) (ts ++ xs) (ps ++ qs)
  | _, _, _, _, _, _, .nil, k => k
  | _, _, _, _, _, _, .cons (ps := p1) (qs := p2) h t, k => by
    rw [List.append_assoc]
    exact .cons h (TAtA.app t k)
theorem TAtA.one {v : V} {t : Tr} {ps : List Addr} (h : TAt K B H v t ps) : TAtA K B H [v] [t] ps := by
  have := TAtA.cons h (TAtA.nil (K := K) (B := B) (H := H))
  rwa [List.append_nil] at this
theorem TAtA.len : ∀ {vs : List V} {ts : List Tr} {ps : List Addr}, TAtA K B H vs ts ps → vs.length = ts.length
  | _, _, _, .nil => rfl
  | _, _, _, .cons _ k => by rw [List.length_cons, List.length_cons, TAtA.len k]
theorem apart_upd2 {D q : Addr} {o : HO} (hD : Apart H σ ρ D) (hq : Apart H σ ρ q) : Apart (upd H D o) σ ρ q :=
  ⟨hq.o, fun i t w e e2 f => hq.b i t w e e2 ((Bd.ftEq (fun p g => upd_ne fun z => hD.b i t w e e2 (by rw [← z]; exact g)) q).mp f)⟩
theorem apart_rest {vs : List Nat} {σ2 : L2.St} {ρ4 : Env} {a : Addr} (hw : okW vs ρ = true) (el : ρ4.length = ρ.length) (e : wipe σ2 vs = wipe σ vs) (h : Apart H σ2 ρ4 a) : Apart H σ (restore ρ vs ρ4) a := by
  have same : ∀ {i : Nat}, i ∉ vs → σ2[i]? = σ[i]? := fun {i} hi => by
    have := congrArg (fun l => l[i]?) e
    simp only [wipe_get, if_neg hi] at this
    exact this
  refine ⟨fun i es g => ?_, fun i t w g g2 => ?_⟩
  · rw [restore_get] at g
    by_cases hi : i ∈ vs
    · rw [if_pos hi] at g
      by_cases hl : i < ρ4.length
      · rw [if_pos hl] at g
        exact (okW_get hw hi (getD_of (Option.some.inj g) (by omega))).elim
      · rw [if_neg hl] at g
        cases g
    · rw [if_neg hi] at g
      rw [← same hi]
      exact h.o i es g
  · rw [restore_get] at g
    by_cases hi : i ∈ vs
    · rw [if_pos hi] at g
      by_cases hl : i < ρ4.length
      · rw [if_pos hl] at g
        exact (okW_getB hw hi (getD_of (Option.some.inj g) (by omega))).elim
      · rw [if_neg hl] at g
        cases g
    · rw [if_neg hi] at g
      rw [← same hi] at g2
      exact h.b i t w g g2
def dCompT (vs : List Nat) (tg : Tg) (ft : Env → R Bool) (fe : Env → R Rv) : List Tr → List D → Env → R (List Tr)
  | acc, [], ρ => .ok acc ρ
  | acc, d :: ds, ρ =>
    match tg d (wipeE ρ vs) with
    | none => .bad
    | some ρ2 => ((ft ρ2).nx).bind fun b ρ3 => if b = true then ((fe ρ3).nx).bind fun rv ρ4 => match toTr rv with
        | some t => if acc.length < 100000 then dCompT vs tg ft fe (acc ++ [t]) ds (restore ρ vs ρ4) else .bad
        | none => .bad
      else dCompT vs tg ft fe acc ds (restore ρ vs ρ3)
def eCompT (vs : List Nat) (fi : Env → R (List D)) (tg : Tg) (ft : Env → R Bool) (fe : Env → R Rv) : Env → R Rv := fun ρ => (fi ρ).bind fun items ρ => cond (okW vs ρ) ((dCompT vs tg ft fe [] items ρ).bind fun acc ρ => .ok (.bk (.tree false acc)) ρ) .bad
theorem x_eCompT {vs : List Nat} {fi : Env → R (List D)} {tg : Tg} {ft : Env → R Bool} {fe : Env → R Rv} {ρ : Env} : eCompT vs fi tg ft fe ρ = (fi ρ).bind fun items ρ => cond (okW vs ρ) ((dCompT vs tg ft fe [] items ρ).bind fun acc ρ => .ok (.bk (.tree false acc)) ρ) .bad := (rfl)
theorem dis_lock {ps : List Addr} {H0 : Hp} {q : Addr} (hl : ∀ p ∈ ps, H0 p ≠ none) (h : addH Fm H0 ps q = none) : q ∉ ps ∧ Fm q = none := by
  have hn : q ∉ ps := fun z => addH_live hl z h
  exact ⟨hn, by rw [addH_none hn] at h; exact h⟩
theorem de_compT {wi : TI} {fi : Env → R (List D)} {js vs : List Nat} {gt : TG} {tg : Tg} {tt : TT} {ft : Env → R Bool} {te : TE} {fe : Env → R Rv} (hi : DI K W wi fi) (hg : DTg K [] js gt tg) (hj : ∀ j ∈ js, j ∈ vs) (ht : DT K W0 tt ft) (he : DE K W0 te fe) :
    DE K W (tLc wi gt tt te vs) (eCompT vs fi tg ft fe) := fun ks σ0 Fm B H σ ρ Q I p =>
  hi ks σ0 Fm B H σ ρ _ I (PtG.step p fun items ρ1 B1 H1 J s I1 v1 p1 => by
    have p1 : PtG K ks σ0 Fm W (vE K Fm σ) B1 σ Q (cond (okW vs ρ1) ((dCompT vs tg ft fe [] items ρ1).bind fun acc ρ => .ok (.bk (.tree false acc)) ρ) .bad) := p1
    cases hw : okW vs ρ1 with
    | false =>
      rw [hw] at p1
      exact p1.elim
    | true =>
    rw [hw] at p1
    intro Dl hDl
    have hB1 : B1 Dl = none := I1.ex.free hDl
    have hF : Fm Dl = none := I1.fr.free hDl
    have hn1 : Apart (upd H1 Dl (.lst [])) σ ρ1 Dl := ⟨fun i es e z => (by
      obtain ⟨b, ys, g1, g2, _⟩ := I1.own i es e
      rw [z] at g1
      cases g1
      rw [hDl] at g2
      cases g2), fun i t w e e2 => I1.bs.fresh hDl e e2⟩
    refine ⟨fun i m H' => m = items.length - i ∧ i ≤ items.length ∧ ∃ B' ρ' accV acc ps, Same B1 B' ∧ IV K ks σ0 Fm B' H' σ ρ' ∧ okW vs ρ' = true ∧ H' Dl = some (.lst accV) ∧ (Dl :: ps).Nodup ∧
        Fre B' Fm H' σ ρ' (Dl :: ps) ∧ TAtA K B' H' accV acc ps ∧ PtG K ks σ0 Fm W (vE K Fm σ) B1 σ Q ((dCompT vs tg ft fe acc (items.drop i) ρ').bind fun acc ρ => .ok (.bk (.tree false acc)) ρ),
      ⟨items.length, by simp, Nat.zero_le _, B1, ρ1, [], [], [], Same.refl B1, I1.made hDl, hw, upd_same, by simp, fun q hq => by rw [List.mem_singleton.mp hq]; exact ⟨hB1, hF, hn1⟩, .nil, p1⟩, ?_⟩
    rintro i m H' ⟨rfl, hi', B', ρ', accV, acc, ps, s', I', hw', hD', hnd, hfr, hA', p'⟩
    have hnn := (List.nodup_cons.mp hnd).1
    have live0 : ∀ q ∈ Dl :: ps, H' q ≠ none ∧ Fm q = none := fun q hq => by
      refine ⟨?_, (hfr q hq).2.1⟩
      rcases List.mem_cons.mp hq with z | hq
      · rw [z, hD']
        exact Option.some_ne_none _
      · exact hA'.live q hq
    have IL := I'.lockT hfr hnd
    obtain ⟨hgo, hstop⟩ := v1 ks σ0 _ B' H' σ ρ' i s' IL
    by_cases hlt : i < items.length
    · obtain ⟨go, yl⟩ := hgo hlt
      refine .inr ⟨go, fun H2 => ∃ B2 ρ2 accV acc ps, Same B1 B2 ∧ IV K ks σ0 Fm B2 H2 σ ρ2 ∧ okW vs ρ2 = true ∧ H2 Dl = some (.lst accV) ∧ (Dl :: ps).Nodup ∧
        Fre B2 Fm H2 σ ρ2 (Dl :: ps) ∧ TAtA K B2 H2 accV acc ps ∧ PtG K ks σ0 Fm W (vE K Fm σ) B1 σ Q ((dCompT vs tg ft fe acc (items.drop (i + 1)) ρ2).bind fun acc ρ => .ok (.bk (.tree false acc)) ρ),
        fun H2 h2 => ⟨items.length - (i + 1), by omega, rfl, hlt, h2⟩, fun x H2 y => ?_⟩
      obtain ⟨B2, d, hd, s2, _, I2, i2⟩ := yl x H2 y
      have ed : items.drop i = d :: items.drop (i + 1) := by
        rw [List.drop_eq_getElem_cons hlt]
        rw [List.getElem?_eq_getElem hlt] at hd
        rw [Option.some.inj hd]
      rw [ed] at p'
      cases e : tg d (wipeE ρ' vs) with
      | none =>
        refine (PtG.ends p' ?_).elim
        rw [dCompT, e]
      | some ρ3 =>
        have p2 : PtG K ks σ0 Fm W (vE K Fm σ) B1 σ Q ((((ft ρ3).nx).bind fun b ρ3 => if b = true then ((fe ρ3).nx).bind fun rv ρ4 => match toTr rv with
            | some t => if acc.length < 100000 then dCompT vs tg ft fe (acc ++ [t]) (items.drop (i + 1)) (restore ρ' vs ρ4) else .bad
            | none => .bad
            else dCompT vs tg ft fe acc (items.drop (i + 1)) (restore ρ' vs ρ3)).bind fun acc ρ => .ok (.bk (.tree false acc)) ρ) := by
          rw [dCompT, e] at p'
          exact p'
        refine hg σ0 _ B2 H2 (wipe σ vs) (wipeE ρ' vs) x d ρ3 _ (I2.wiped vs) i2 e fun σ3 I3 w3 => ?_
        have ew : wipe σ3 vs = wipe σ vs := by
          rw [w3 vs hj]
          refine List.ext_getElem? fun j => ?_
          rw [wipe_get, wipe_get, wipe_length]
          by_cases hjv : j ∈ vs
          · rw [if_pos hjv, if_pos hjv]
          · rw [if_neg hjv, if_neg hjv]
        refine ⟨ew, ?_⟩
        have as1 : ∀ {α : Type} {r : R α} {k1 : α → Env → R (List Tr)} {k2 : List Tr → Env → R Rv}, ((r.bind k1).bind k2) = r.bind fun a ρ => (k1 a ρ).bind k2 := fun {α r k1 k2} => by cases r <;> rfl
        rw [as1] at p2
        refine ht [] σ0 _ B2 H2 σ3 ρ3 _ I3 (nx_step p2 fun b ρ4 B4 H4 b' s4 I4 v4 p4 => ?_)
        cases (show b' = b from v4)
        cases b with
        | false =>
          show ∃ B2 ρ2 accV acc ps, _
          obtain ⟨I5, g1, g2⟩ := (IV.restored I2 hw' s4 I4 ew).unlockT live0 hnd
          exact ⟨B4, restore ρ' vs ρ4, accV, acc, ps, (s'.trans s2).trans s4, I5, okW_restore hw', (g1 Dl List.mem_cons_self).trans hD', hnd, g2, (hA'.monoB (s2.trans s4)).congr fun q hq => g1 q (List.mem_cons_of_mem _ hq), p4⟩
        | true =>
          have p5 : PtG K ks σ0 Fm W (vE K Fm σ) B1 σ Q ((((fe ρ4).nx).bind fun rv ρ4 => match toTr rv with
            | some t => if acc.length < 100000 then dCompT vs tg ft fe (acc ++ [t]) (items.drop (i + 1)) (restore ρ' vs ρ4) else .bad
            | none => .bad).bind fun acc ρ => .ok (.bk (.tree false acc)) ρ) := p4
          rw [as1] at p5
          show te σ3 H4 _
          refine he [] σ0 _ B4 H4 σ3 ρ4 _ I4 (nx_step p5 fun rv ρ6 B6 H6 v s6 I6 v6 p6 => ?_)
          cases et : toTr rv with
          | none => rw [et] at p6; exact p6.elim
          | some t =>
            rw [et] at p6
            have p6 : PtG K ks σ0 Fm W (vE K Fm σ) B1 σ Q ((if acc.length < 100000 then dCompT vs tg ft fe (acc ++ [t]) (items.drop (i + 1)) (restore ρ' vs ρ6) else .bad).bind fun acc ρ => .ok (.bk (.tree false acc)) ρ) := p6
            obtain ⟨qs, k6, n6, f6⟩ := tr_is v6 et
            have IR := IV.restored I2 hw' (s4.trans s6) I6 ew
            have elr : ρ6.length = ρ'.length := by
              have := congrArg List.length ew
              rw [wipe_length, wipe_length] at this
              rw [← I6.len, this, I'.len]
            obtain ⟨I8, g1, g2⟩ := IR.unlockT live0 hnd
            have dis : ∀ q ∈ qs, q ∉ Dl :: ps ∧ Fm q = none := fun q hq => dis_lock (fun p hp => (live0 p hp).1) (f6 q hq).2.1
            have fq : Fre B6 Fm H6 σ (restore ρ' vs ρ6) qs := fun q hq => ⟨(f6 q hq).1, (dis q hq).2, apart_rest hw' elr ew (f6 q hq).2.2⟩
            by_cases hl : acc.length < 100000
            · rw [if_pos hl] at p6
              have sA : Same B' B6 := (s2.trans s4).trans s6
              obtain ⟨d1, d2, d3⟩ := g2 Dl List.mem_cons_self
              have hk : TAtA K B6 H6 (accV ++ [v]) (acc ++ [t]) (ps ++ qs) := ((hA'.monoB sA).congr fun q hq => g1 q (List.mem_cons_of_mem _ hq)).app (.one k6)
              have hDq : Dl ∉ ps ++ qs := fun z => by
                rcases List.mem_append.mp z with z | z
                · exact hnn z
                · exact (dis Dl z).1 List.mem_cons_self
              have fall : Fre B6 Fm H6 σ (restore ρ' vs ρ6) (ps ++ qs) := fun q hq => by
                rcases List.mem_append.mp hq with hq | hq
                · exact g2 q (List.mem_cons_of_mem _ hq)
                · exact fq q hq
              refine ⟨accV, (g1 Dl List.mem_cons_self).trans hD', by rw [hA'.len]; exact sz_lt hl, B6, restore ρ' vs ρ6, accV ++ [v], acc ++ [t], ps ++ qs, s'.trans sA, I8.updFree d1 hF d3, okW_restore hw', upd_same,
                List.nodup_cons.mpr ⟨hDq, List.nodup_append.mpr ⟨(List.nodup_cons.mp hnd).2, n6, fun a ha b hb z => (dis b hb).1 (by rw [← z]; exact List.mem_cons_of_mem _ ha)⟩⟩, fun q hq => ?_, hk.congr fun q hq => upd_ne fun z => hDq (by rw [← z]; exact hq), p6⟩
              rcases List.mem_cons.mp hq with z | hq
              · rw [z]
                exact ⟨d1, d2, d3.upd⟩
              · obtain ⟨z1, z2, z3⟩ := fall q hq
                exact ⟨z1, z2, apart_upd2 d3 z3⟩
            · rw [if_neg hl] at p6
              exact p6.elim
    · have e : i = items.length := by omega
      subst e
      rw [List.drop_length] at p'
      refine .inl ⟨hstop (Nat.le_refl _), ?_⟩
      exact p' B' H' (.ref Dl) s' I' (tr_v (ps := Dl :: ps) (.nd (tp := false) hD' hA') hnd hfr))
/-! x = e -/
def setTK (i : Nat) (rv : Rv) (ρ : Env) : Out :=
  match toTr rv with
  | some (.nd tp xs) => .nx (ρ.set i (.bk (.tree tp xs)))
  | some (.im d) => .nx (ρ.set i (.im d))
  | none => .bad
def sSetT (i : Nat) (f : Env → R Rv) : Env → Out := fun ρ => (f ρ).toO (setTK i)
theorem x_setT {i : Nat} {f : Env → R Rv} {ρ : Env} : sSetT i f ρ = (f ρ).toO (setTK i) := (rfl)
theorem x_setTO {i : Nat} {ds : List D} {ρ : Env} : setTK i (.own ds) ρ = .nx (ρ.set i (.bk (.tree false (ds.map Tr.im)))) := (rfl)
theorem x_setTI {i : Nat} {d : D} {ρ : Env} : setTK i (.im d) ρ = .nx (ρ.set i (.im d)) := (rfl)
theorem x_setTB {i : Nat} {tp : Bool} {xs : List Tr} {ρ : Env} : setTK i (.bk (.tree tp xs)) ρ = .nx (ρ.set i (.bk (.tree tp xs))) := (rfl)
theorem tr_bk {v : V} {rv : Rv} {tp : Bool} {xs : List Tr} (h : vE K Fm σ B H ρ v rv) (e : toTr rv = some (.nd tp xs)) : vE K Fm σ B H ρ v (.bk (.tree tp xs)) := by
  obtain ⟨ps, h1, h2, h3⟩ := tr_is h e
  exact tr_v h1 h2 h3
theorem ds_setT {i : Nat} {te : TE} {f : Env → R Rv} (hi : i ∉ ks) (h : DE K W te f) : DS K W ks (tAsg te (gName i)) (sSetT i f) := fun σ0 Fm B H σ ρ E I p =>
  h ks σ0 Fm B H σ ρ _ I (PtS.step p fun rv ρ1 B1 H1 v s I1 v1 p1 => by
    unfold setTK at p1
    split at p1
    · rename_i tp xs e
      exact p1 B1 H1 _ (Same.refl B1) (I1.setBk hi (tr_bk v1 e))
    · rename_i d e
      cases rv with
      | im d' =>
        cases e
        exact p1 B1 H1 _ (Same.refl B1) (I1.setIm hi v1)
      | own ds => cases e
      | bk t => cases t <;> cases e
    · exact p1.elim)
/-! x.append(e) -/
theorem tree_at {i : Nat} {tp : Bool} {xs : List Tr} (I : IV K ks σ0 Fm B H σ ρ) (e : ρ[i]? = some (.bk (.tree tp xs))) : ∃ b vs ps, σ[i]? = some (some (.ref b)) ∧ H b = some (mkO tp vs) ∧ TAtA K B H vs xs ps ∧ (b :: ps).Nodup := by
  obtain ⟨v, h1, ⟨ps, h2, h3⟩, _⟩ := I.bs.bk i _ e
  cases h2 with
  | nd h k => exact ⟨_, _, _, h1, h, k, h3⟩
def isTree : Option Sl → Bool
  | some (.bk (.tree false _)) => true
  | _ => false
theorem isTree_of {o : Option Sl} (h : isTree o = true) : ∃ xs, o = some (.bk (.tree false xs)) := by
  unfold isTree at h
  split at h
  · exact ⟨_, rfl⟩
  · cases h
def appTK (o : Option Sl) (i : Nat) (rv : Rv) (ρ : Env) : Out :=
  match o, toTr rv with
  | some (.bk (.tree false xs)), some t => if xs.length < 100000 then .nx (ρ.set i (.bk (.tree false (xs ++ [t])))) else .bad
  | _, _ => .bad
def sAppT (i : Nat) (f : Env → R Rv) : Env → Out := fun ρ => cond (isTree ρ[i]?) ((f ρ).toO fun rv ρ => appTK ρ[i]? i rv ρ) .bad
theorem x_isTree {xs : List Tr} : isTree (some (.bk (.tree false xs))) = true := (rfl)
theorem x_sAppT {i : Nat} {f : Env → R Rv} {ρ : Env} : sAppT i f ρ = cond (isTree ρ[i]?) ((f ρ).toO fun rv ρ => appTK ρ[i]? i rv ρ) .bad := (rfl)
theorem x_appT {xs : List Tr} {i : Nat} {rv : Rv} {t : Tr} {ρ : Env} (e : toTr rv = some t) (h : xs.length < 100000) : appTK (some (.bk (.tree false xs))) i rv ρ = .nx (ρ.set i (.bk (.tree false (xs ++ [t])))) := by
  unfold appTK
  rw [e]
  exact if_pos h
theorem ds_appT {i : Nat} {te : TE} {f : Env → R Rv} (h : DE K W te f) : DS K W ks (tDrop (tBM K "list" rAppend (tVar i) (tCons te tNil))) (sAppT i f) := fun σ0 Fm B H σ ρ E I p => by
  have p : PtS K ks σ0 Fm W B E (cond (isTree ρ[i]?) ((f ρ).toO fun rv ρ => appTK ρ[i]? i rv ρ) .bad) := p
  cases hm : isTree ρ[i]? with
  | false => rw [hm] at p; exact p.elim
  | true =>
    rw [hm] at p
    have p : PtS K ks σ0 Fm W B E ((f ρ).toO fun rv ρ => appTK ρ[i]? i rv ρ) := p
    obtain ⟨xs0, e0⟩ := isTree_of hm
    obtain ⟨b, vs0, ps0, h1, h2, _⟩ := tree_at I e0
    refine ⟨.ref b, h1, .inl ⟨rfl, _, .inl (.inl h2)⟩, h ks σ0 Fm B H σ ρ _ I (PtS.step p fun rv ρ1 B1 H1 v s I1 v1 p1 => ?_)⟩
    unfold appTK at p1
    split at p1
    · rename_i xs t e1 er
      by_cases hl : xs.length < 100000
      · rw [if_pos hl] at p1
        obtain ⟨b', vs, ps, g1, g2, g3, g4⟩ := tree_at I1 e1
        rw [h1] at g1
        cases g1
        obtain ⟨qs, k1, n1, f1⟩ := tr_is v1 er
        have old : TAt K B1 H1 (.ref b) (.nd false xs) (b :: ps) := .nd (tp := false) g2 g3
        have dis : ∀ q ∈ qs, q ∉ b :: ps := fun q hq z => (f1 q hq).2.2.b i _ _ e1 h1 (old.ft q z)
        have hb : b ∉ ps ++ qs := fun z => by
          rcases List.mem_append.mp z with z | z
          · exact (List.nodup_cons.mp g4).1 z
          · exact dis b z List.mem_cons_self
        have new : TAt K B1 (upd H1 b (.lst (vs ++ [v]))) (.ref b) (.nd false (xs ++ [t])) (b :: (ps ++ qs)) := .nd (tp := false) upd_same ((g3.app (.one k1)).congr fun q hq => upd_ne fun z => hb (by rw [← z]; exact hq))
        refine ⟨b, vs, v, rfl, rfl, g2, by rw [g3.len]; exact sz_lt hl, p1 B1 _ σ (Same.refl B1) (I1.reB e1 h1 (fun p n _ => upd_ne fun z => n (by rw [z]; exact .here)) ⟨_, new, List.nodup_cons.mpr ⟨hb, List.nodup_append.mpr ⟨(List.nodup_cons.mp g4).2, n1, fun a ha c hc z => dis c hc (by rw [← z]; exact List.mem_cons_of_mem _ ha)⟩⟩⟩ fun p f => ?_)⟩
        rcases List.mem_cons.mp (TFt.mem f new) with z | z
        · exact .inl (by rw [z]; exact .here)
        · rcases List.mem_append.mp z with z | z
          · exact .inl (old.ft p (List.mem_cons_of_mem _ z))
          · exact .inr (f1 p z)
      · rw [if_neg hl] at p1
        exact p1.elim
    · exact p1.elim
/-! a path into a tree -/
def tAt : Tr → List Int → Option Tr
  | t, [] => some t
  | .nd _ xs, k :: π => match atI xs k with
    | some x => tAt x π
    | none => none
  | .im _, _ :: _ => none
def tPut : Tr → List Int → Tr → Tr
  | _, [], u => u
  | .nd tp xs, k :: π, u => match ixN xs.length k with
    | some n => match xs[n]? with
      | some x => .nd tp (xs.set n (tPut x π u))
      | none => .nd tp xs
    | none => .nd tp xs
  | .im d, _ :: _, _ => .im d
def vAt (H : Hp) : V → List Int → V → Prop
  | v, [], w => w = v
  | v, k :: π, w => ∃ a tp vs u, v = .ref a ∧ H a = some (mkO tp vs) ∧ atI vs k = some u ∧ vAt H u π w
theorem vAt_snoc : ∀ {π : List Int} {v w u : V} {k : Int} {a : Addr} {tp : Bool} {vs : List V}, vAt H v (π ++ [k]) u → ∃ w a tp vs, vAt H v π w ∧ w = .ref a ∧ H a = some (mkO tp vs) ∧ atI vs k = some u
  | [], v, w, u, k, _, _, _, ⟨a, tp, vs, u', h1, h2, h3, h4⟩ => by
    cases h4
    exact ⟨v, a, tp, vs, rfl, h1, h2, h3⟩
  | j :: π, v, w, u, k, a0, tp0, vs0, ⟨a, tp, vs, u', h1, h2, h3, h4⟩ => by
    obtain ⟨w', a', tp', vs', g1, g2, g3, g4⟩ := vAt_snoc (w := w) (a := a0) (tp := tp0) (vs := vs0) h4
    exact ⟨w', a', tp', vs', ⟨a, tp, vs, u', h1, h2, h3, g1⟩, g2, g3, g4⟩
theorem TAtA.focus : ∀ {vs : List V} {xs : List Tr} {ps : List Addr} {n : Nat} {x : Tr}, TAtA K B H vs xs ps → xs[n]? = some x → ∃ w l m r, vs[n]? = some w ∧ ps = l ++ (m ++ r) ∧ TAt K B H w x m ∧
      ∀ {H' : Hp} {x' : Tr} {m' : List Addr}, TAt K B H' w x' m' → (∀ p ∈ l, H' p = H p) → (∀ p ∈ r, H' p = H p) → TAtA K B H' vs (xs.set n x') (l ++ (m' ++ r))
  | _, _, _, _, _, .nil, e => by simp at e
  | _, _, _, 0, _, .cons (v := v) (ps := p1) (qs := p2) h k, e => by
    simp at e
    subst e
    exact ⟨v, [], p1, p2, rfl, rfl, h, fun {H' x' m'} h' _ hr => TAtA.cons (ps := m') (qs := p2) h' (k.congr hr)⟩
  | _, _, _, n + 1, x, .cons (v := v) (ps := p1) (qs := p2) h k, e => by
    obtain ⟨w, l, m, r, g1, g2, g3, g4⟩ := TAtA.focus (n := n) (x := x) k (by simpa using e)
    refine ⟨w, p1 ++ l, m, r, by simpa using g1, by rw [g2, List.append_assoc], g3, fun {H' x' m'} h' hl hr => ?_⟩
    have := TAtA.cons (h.congr fun p hp => hl p (List.mem_append_left _ hp)) (g4 h' (fun p hp => hl p (List.mem_append_right _ hp)) hr)
    rw [List.append_assoc]
    exact this
theorem TAt.focus : ∀ (π : List Int) {v : V} {t u : Tr} {ps : List Addr}, TAt K B H v t ps → ps.Nodup → tAt t π = some u → ∃ w qs, vAt H v π w ∧ TAt K B H w u qs ∧ (∀ p ∈ qs, p ∈ ps) ∧ qs.Nodup ∧
      ∀ {H' : Hp} {u' : Tr} {qs' : List Addr}, TAt K B H' w u' qs' → qs'.Nodup → (∀ p ∈ qs', p ∈ qs) → (∀ p, p ∉ qs → H p ≠ none → H' p = H p) → ∃ ps', TAt K B H' v (tPut t π u') ps' ∧ ps'.Nodup ∧ ∀ p ∈ ps', p ∈ ps
  | [], v, t, u, ps, h, n, e => by
    cases e
    exact ⟨v, ps, rfl, h, (fun p hp => hp), n, fun {H' u' qs'} h' n' s' _ => ⟨qs', by rw [tPut]; exact h', n', s'⟩⟩
  | k :: π, _, .im d, u, _, h, n, e => by
    rw [tAt] at e
    cases e
  | k :: π, _, .nd tp xs, u, _, .nd (a := a) (vs := vs) (ps := rs) h1 h2, n, e => by
    rw [tAt] at e
    obtain ⟨x, ex, e⟩ : ∃ x, atI xs k = some x ∧ tAt x π = some u := by
      split at e
      · rename_i x ex
        exact ⟨x, ex, e⟩
      · cases e
    unfold atI at ex
    cases hj : ixN xs.length k with
    | none => rw [hj] at ex; cases ex
    | some j =>
      rw [hj] at ex
      have ex : xs[j]? = some x := ex
      obtain ⟨w1, l, m, r, g1, g2, g3, g4⟩ := TAtA.focus h2 ex
      subst g2
      obtain ⟨na, nr⟩ := List.nodup_cons.mp n
      obtain ⟨nl, nmr, dl⟩ := List.nodup_append.mp nr
      obtain ⟨nm, nr2, dm⟩ := List.nodup_append.mp nmr
      obtain ⟨w, qs, k1, k2, k3, k4, k5⟩ := TAt.focus π g3 nm e
      refine ⟨w, qs, ⟨a, tp, vs, w1, rfl, h1, by unfold atI; rw [h2.len, hj]; exact g1, k1⟩, k2, fun p hp => List.mem_cons_of_mem _ (List.mem_append_right _ (List.mem_append_left _ (k3 p hp))), k4, fun {H' u' qs'} h' n' s' c' => ?_⟩
      obtain ⟨m', q1, q2, q3⟩ := k5 h' n' s' c'
      have hl : ∀ p ∈ l, H' p = H p := fun p hp => c' p (fun z => dl p hp p (List.mem_append_left _ (k3 p z)) rfl) (h2.live p (List.mem_append_left _ hp))
      have hr : ∀ p ∈ r, H' p = H p := fun p hp => c' p (fun z => dm p (k3 p z) p hp rfl) (h2.live p (List.mem_append_right _ (List.mem_append_right _ hp)))
      have ha : H' a = H a := c' a (fun z => na (List.mem_append_right _ (List.mem_append_left _ (k3 a z)))) (by rw [h1]; exact Option.some_ne_none _)
      have ep : tPut (.nd tp xs) (k :: π) u' = .nd tp (xs.set j (tPut x π u')) := by
        rw [tPut]
        simp only [hj, ex]
      rw [ep]
      refine ⟨a :: (l ++ (m' ++ r)), .nd (ha.trans h1) (g4 q1 hl hr), ?_, fun p hp => ?_⟩
      · refine List.nodup_cons.mpr ⟨fun z => na ?_, List.nodup_append.mpr ⟨nl, List.nodup_append.mpr ⟨q2, nr2, fun x hx y hy z => dm x (q3 x hx) y hy z⟩, fun x hx y hy z => ?_⟩⟩
        · rcases List.mem_append.mp z with z | z
          · exact List.mem_append_left _ z
          · rcases List.mem_append.mp z with z | z
            · exact List.mem_append_right _ (List.mem_append_left _ (q3 _ z))
            · exact List.mem_append_right _ (List.mem_append_right _ z)
        · rcases List.mem_append.mp hy with hy | hy
          · exact dl x hx y (List.mem_append_left _ (q3 y hy)) z
          · exact dl x hx y (List.mem_append_right _ hy) z
      · rcases List.mem_cons.mp hp with z | hp
        · rw [z]
          exact List.mem_cons_self
        · rcases List.mem_append.mp hp with hp | hp
          · exact List.mem_cons_of_mem _ (List.mem_append_left _ hp)
          · rcases List.mem_append.mp hp with hp | hp
            · exact List.mem_cons_of_mem _ (List.mem_append_right _ (List.mem_append_left _ (q3 p hp)))
            · exact List.mem_cons_of_mem _ (List.mem_append_right _ (List.mem_append_right _ hp))
/-! readings of paths -/
def DIx (K : PySem.W.Frag) (te : TE) (f : Env → Option Int) : Prop := ∀ ks σ0 Fm B H σ ρ k Q, IV K ks σ0 Fm B H σ ρ → f ρ = some k → Q (V.int k) H → te σ H Q
def DPath (K : PySem.W.Frag) (te : TE) (i : Nat) (f : Env → Option (List Int)) : Prop := ∀ ks σ0 Fm B H σ ρ v w π Q, IV K ks σ0 Fm B H σ ρ → σ[i]? = some (some v) → f ρ = some π → vAt H v π w → Q w H → te σ H Q
def ixC (k : Int) : Env → Option Int := fun _ => some k
def ixVK : Option Sl → Option Int
  | some (.im (.int k)) => some k
  | _ => none
def ixV (j : Nat) : Env → Option Int := fun ρ => ixVK ρ[j]?
def ptO : Env → Option (List Int) := fun _ => some []
def ptS (f : Env → Option (List Int)) (g : Env → Option Int) : Env → Option (List Int) := fun ρ => match f ρ, g ρ with
  | some π, some k => some (π ++ [k])
  | _, _ => none
theorem dx_c {k : Int} : DIx K (tC (.int k)) (ixC k) := fun ks σ0 Fm B H σ ρ k' Q I e q => by
  cases e
  exact q
theorem dx_n {m : Int} : DIx K (tUn (rU fun i => .int (-i)) (tC (.int m))) (ixC (-m)) := fun ks σ0 Fm B H σ ρ k' Q I e q => by
  cases e
  exact ⟨m, rfl, q⟩
theorem dx_v {j : Nat} : DIx K (tVar j) (ixV j) := fun ks σ0 Fm B H σ ρ k Q I e q => by
  unfold ixV ixVK at e
  split at e
  · rename_i k' h
    cases e
    obtain ⟨v, h1, h2⟩ := I.im j _ h
    cases h2
    exact ⟨_, h1, q⟩
  · cases e
theorem dp_o {i : Nat} : DPath K (tVar i) i ptO := fun ks σ0 Fm B H σ ρ v w π Q I e h hv q => by
  cases h
  cases hv
  exact ⟨v, e, q⟩
theorem dp_s {i : Nat} {te tk : TE} {f : Env → Option (List Int)} {g : Env → Option Int} (h : DPath K te i f) (hk : DIx K tk g) : DPath K (tOp (rIx K) te tk) i (ptS f g) := fun ks σ0 Fm B H σ ρ v w π Q I e hf hv q => by
  unfold ptS at hf
  split at hf
  · rename_i π' k e1 e2
    cases hf
    obtain ⟨u, a, tp, vs, g1, g2, g3, g4⟩ := vAt_snoc (w := w) (a := 0) (tp := true) (vs := []) hv
    subst g2
    refine h ks σ0 Fm B H σ ρ v _ π' _ I e e1 g1 (hk ks σ0 Fm B H σ ρ k _ I e2 ?_)
    cases tp with
    | false => exact .inl ⟨a, vs, k, w, rfl, rfl, .inl (.inl g3), g4, q⟩
    | true => exact .inr (.inl ⟨a, vs, k, w, rfl, rfl, .inl (.inl g3), g4, q⟩)
  · cases hf
/-! a list within a tree is changed -/
def mutTK (o : Option Sl) (i : Nat) (π : Option (List Int)) (op : List Tr → Option (List Tr)) (ρ : Env) : Out :=
  match o, π with
  | some (.bk (.tree tp xs)), some π => match tAt (.nd tp xs) π with
    | some (.nd false ys) => match op ys with
      | some ys' => match tPut (.nd tp xs) π (.nd false ys') with
        | .nd tp' xs' => .nx (ρ.set i (.bk (.tree tp' xs')))
        | .im _ => .bad
      | none => .bad
    | _ => .bad
  | _, _ => .bad
def sMutT (i : Nat) (fp : Env → Option (List Int)) (op : List Tr → Option (List Tr)) : Env → Out := fun ρ => mutTK ρ[i]? i (fp ρ) op ρ
theorem x_mutT {i : Nat} {fp : Env → Option (List Int)} {op : List Tr → Option (List Tr)} {ρ : Env} {tp tp' : Bool} {xs xs' ys ys' : List Tr} {π : List Int} (h1 : ρ[i]? = some (.bk (.tree tp xs))) (h2 : fp ρ = some π) (h3 : tAt (.nd tp xs) π = some (.nd false ys)) (h4 : op ys = some ys') (h5 : tPut (.nd tp xs) π (.nd false ys') = .nd tp' xs') :
    sMutT i fp op ρ = .nx (ρ.set i (.bk (.tree tp' xs'))) := by
  unfold sMutT mutTK
  simp only [h1, h2, h3, h4, h5]
theorem mut_core {i : Nat} {fp : Env → Option (List Int)} {op : List Tr → Option (List Tr)} {te : TE} {E : Ends} (hp : DPath K te i fp) (I : IV K ks σ0 Fm B H σ ρ) (p : PtS K ks σ0 Fm W B E (sMutT i fp op ρ)) :
    ∃ b zs ys rs, H b = some (.lst zs) ∧ TAtA K B H zs ys rs ∧ (b :: rs).Nodup ∧ (∀ Q : V → Hp → Prop, Q (.ref b) H → te σ H Q) ∧
      ∃ ys', op ys = some ys' ∧ ∀ {zs' : List V} {rs' : List Addr}, TAtA K B (upd H b (.lst zs')) zs' ys' rs' → rs'.Nodup → (∀ r ∈ rs', r ∈ rs) → E.nx σ (upd H b (.lst zs')) := by
  unfold sMutT mutTK at p
  split at p
  · rename_i tp xs π e1 e2
    split at p
    · rename_i ys e3
      split at p
      · rename_i ys' e4
        obtain ⟨v, h1, ⟨ps, h2, h3⟩, h4⟩ := I.bs.bk i _ e1
        obtain ⟨w, qs, k1, k2, k3, k4, k5⟩ := TAt.focus π h2 h3 e3
        cases k2 with
        | nd g1 g2 =>
          rename_i b zs rs
          refine ⟨b, zs, ys, rs, g1, g2, k4, fun Q q => hp ks σ0 Fm B H σ ρ v _ π Q I h1 e2 k1 q, ys', e4, fun {zs' rs'} hA hn hs => ?_⟩
          have nb := (List.nodup_cons.mp k4).1
          obtain ⟨ps', q1, q2, q3⟩ := k5 (H' := upd H b (.lst zs')) (u' := .nd false ys') (qs' := b :: rs') (.nd (tp := false) upd_same hA) (List.nodup_cons.mpr ⟨fun z => nb (hs b z), hn⟩) (fun p hp => by
            rcases List.mem_cons.mp hp with z | hp
            · rw [z]
              exact List.mem_cons_self
            · exact List.mem_cons_of_mem _ (hs p hp)) (fun p np _ => upd_ne fun z => np (by rw [z]; exact List.mem_cons_self))
          cases e5 : tPut (.nd tp xs) π (.nd false ys') with
          | im d => rw [e5] at p; exact p.elim
          | nd tp' xs' =>
            rw [e5] at p q1
            have hbp : b ∈ ps := k3 b List.mem_cons_self
            exact p B _ σ (Same.refl B) (I.reB e1 h1 (fun p n _ => upd_ne fun z => n (by rw [z]; exact h2.ft b hbp)) ⟨ps', q1, q2⟩ fun p f => .inl (h2.ft p (q3 p (TFt.mem f q1))))
      · exact p.elim
    · exact p.elim
  · exact p.elim
theorem TAtA.upd_out {vs : List V} {xs : List Tr} {ps : List Addr} {b : Addr} {o : HO} (h : TAtA K B H vs xs ps) (n : b ∉ ps) : TAtA K B (upd H b o) vs xs ps := h.congr fun p hp => upd_ne fun z => n (by rw [← z]; exact hp)
/-- x[..].append(c), c a number -/
def opApp (d : D) (ys : List Tr) : Option (List Tr) := if ys.length < 100000 then some (ys ++ [.im d]) else none
theorem x_opApp {d : D} {ys : List Tr} (h : ys.length < 100000) : opApp d ys = some (ys ++ [.im d]) := if_pos h
theorem ds_appInT {i : Nat} {fp : Env → Option (List Int)} {te : TE} {c : Int} (hp : DPath K te i fp) : DS K W ks (tDrop (tBM K "list" rAppend te (tCons (tC (.int c)) tNil))) (sMutT i fp (opApp (.int c))) := fun σ0 Fm B H σ ρ E I p => by
  obtain ⟨b, zs, ys, rs, h1, h2, h3, h4, ys', h5, h6⟩ := mut_core hp I p
  unfold opApp at h5
  split at h5
  · rename_i hl
    cases h5
    obtain ⟨n1, n2⟩ := List.nodup_cons.mp h3
    exact h4 _ ⟨.inl ⟨rfl, zs, .inl (.inl h1)⟩, b, zs, _, rfl, rfl, h1, by rw [h2.len]; exact sz_lt hl, h6 (rs' := rs ++ []) ((h2.upd_out n1).app (.one (.im (.int c)))) (by rw [List.append_nil]; exact n2) (fun r hr => by rw [List.append_nil] at hr; exact hr)⟩
  · cases h5
/-- x[..].clear() -/
def opClr (_ : List Tr) : Option (List Tr) := some []
theorem ds_clrInT {i : Nat} {fp : Env → Option (List Int)} {te : TE} (hp : DPath K te i fp) : DS K W ks (tDrop (tBM0 K "list" rClear te)) (sMutT i fp opClr) := fun σ0 Fm B H σ ρ E I p => by
  obtain ⟨b, zs, ys, rs, h1, h2, h3, h4, ys', h5, h6⟩ := mut_core hp I p
  cases h5
  exact h4 _ ⟨.inl ⟨rfl, zs, .inl (.inl h1)⟩, b, zs, rfl, rfl, h1, h6 .nil List.nodup_nil (fun r hr => by cases hr)⟩
/-- x[..].reverse() -/
def opRev (ys : List Tr) : Option (List Tr) := some ys.reverse
theorem TAtA.rev : ∀ {vs : List V} {xs : List Tr} {ps : List Addr}, TAtA K B H vs xs ps → ps.Nodup → ∃ qs, TAtA K B H vs.reverse xs.reverse qs ∧ qs.Nodup ∧ ∀ q ∈ qs, q ∈ ps
  | _, _, _, .nil, _ => ⟨[], .nil, List.nodup_nil, fun q hq => hq⟩
  | _, _, _, .cons (v := v) (t := t) (ps := p1) (qs := p2) h k, n => by
    obtain ⟨n1, n2, d⟩ := List.nodup_append.mp n
    obtain ⟨qs, g1, g2, g3⟩ := TAtA.rev k n2
    refine ⟨qs ++ p1, by rw [List.reverse_cons, List.reverse_cons]; exact g1.app (.one h), List.nodup_append.mpr ⟨g2, n1, fun a ha b hb z => d b hb a (g3 a ha) z.symm⟩, fun q hq => ?_⟩
    rcases List.mem_append.mp hq with hq | hq
    · exact List.mem_append_right _ (g3 q hq)
    · exact List.mem_append_left _ hq
theorem ds_revInT {i : Nat} {fp : Env → Option (List Int)} {te : TE} (hp : DPath K te i fp) : DS K W ks (tDrop (tBM0 K "list" rReverse te)) (sMutT i fp opRev) := fun σ0 Fm B H σ ρ E I p => by
  obtain ⟨b, zs, ys, rs, h1, h2, h3, h4, ys', h5, h6⟩ := mut_core hp I p
  cases h5
  obtain ⟨n1, n2⟩ := List.nodup_cons.mp h3
  obtain ⟨qs, g1, g2, g3⟩ := h2.rev n2
  exact h4 _ ⟨.inl ⟨rfl, zs, .inl (.inl h1)⟩, b, zs, rfl, rfl, h1, h6 (g1.upd_out fun z => n1 (g3 b z)) g2 g3⟩
/-- x[..][k] = d -/
def opSet (k : Int) (d : D) (ys : List Tr) : Option (List Tr) := (ixN ys.length k).map fun n => ys.set n (.im d)
def setTreeK (i : Nat) (fp : Env → Option (List Int)) (fk : Env → Option Int) (rv : Rv) (ρ : Env) : Out :=
  match rv, fk ρ with
  | .im d, some k => sMutT i fp (opSet k d) ρ
  | .own ds, some k => sMutT i fp (opSet k (.lst ds)) ρ
  | _, _ => .bad
def sSetIxT (i : Nat) (fp : Env → Option (List Int)) (fk : Env → Option Int) (f : Env → R Rv) : Env → Out := fun ρ => (f ρ).toO (setTreeK i fp fk)
theorem x_setIxT {i : Nat} {fp : Env → Option (List Int)} {fk : Env → Option Int} {f : Env → R Rv} {ρ : Env} : sSetIxT i fp fk f ρ = (f ρ).toO (setTreeK i fp fk) := (rfl)
theorem x_setTreeI {i : Nat} {fp : Env → Option (List Int)} {fk : Env → Option Int} {d : D} {k : Int} {ρ : Env} (h : fk ρ = some k) : setTreeK i fp fk (.im d) ρ = sMutT i fp (opSet k d) ρ := by
  unfold setTreeK
  simp only [h]
theorem x_setTreeO {i : Nat} {fp : Env → Option (List Int)} {fk : Env → Option Int} {ds : List D} {k : Int} {ρ : Env} (h : fk ρ = some k) : setTreeK i fp fk (.own ds) ρ = sMutT i fp (opSet k (.lst ds)) ρ := by
  unfold setTreeK
  simp only [h]
theorem TAtA.setIm : ∀ {vs : List V} {xs : List Tr} {ps : List Addr} {n : Nat} {v : V} {d : D}, TAtA K B H vs xs ps → ps.Nodup → Is K B v d → ∃ qs, TAtA K B H (vs.set n v) (xs.set n (.im d)) qs ∧ qs.Nodup ∧ ∀ q ∈ qs, q ∈ ps
  | _, _, _, _, _, _, .nil, _, _ => ⟨[], .nil, List.nodup_nil, fun q hq => hq⟩
  | _, _, _, 0, _, _, .cons (ps := p1) (qs := p2) h k, n, i => ⟨[] ++ p2, .cons (.im i) k, (List.nodup_append.mp n).2.1, fun q hq => List.mem_append_right _ hq⟩
  | _, _, _, m + 1, v, d, .cons (ps := p1) (qs := p2) h k, n, i => by
    obtain ⟨n1, n2, dj⟩ := List.nodup_append.mp n
    obtain ⟨qs, g1, g2, g3⟩ := TAtA.setIm (n := m) k n2 i
    refine ⟨p1 ++ qs, .cons h g1, List.nodup_append.mpr ⟨n1, g2, fun a ha b hb => dj a ha b (g3 b hb)⟩, fun q hq => ?_⟩
    rcases List.mem_append.mp hq with hq | hq
    · exact List.mem_append_left _ hq
    · exact List.mem_append_right _ (g3 q hq)
theorem ds_setIxT {i : Nat} {fp : Env → Option (List Int)} {fk : Env → Option Int} {te tp tk : TE} {f : Env → R Rv} (h : DE K W te f) (hp : DPath K tp i fp) (hk : DIx K tk fk) : DS K W ks (tAsg te (gSub tp tk rSetL)) (sSetIxT i fp fk f) := fun σ0 Fm B H σ ρ E I p =>
  h ks σ0 Fm B H σ ρ _ I (PtS.step p fun rv ρ1 B1 H1 v s I1 v1 p1 => by
    have go : ∀ {d : D} {k : Int} {B2 : Hp}, fk ρ1 = some k → Same B1 B2 → IV K ks σ0 Fm B2 H1 σ ρ1 → Is K B2 v d → PtS K ks σ0 Fm W B2 E (sMutT i fp (opSet k d) ρ1) → gSub tp tk rSetL v σ H1 E.nx := fun {d k B2} ek sB I2 i2 p2 => by
      obtain ⟨b, zs, ys, rs, h1, h2, h3, h4, ys', h5, h6⟩ := mut_core hp I2 p2
      unfold opSet at h5
      cases hj : ixN ys.length k with
      | none => rw [hj] at h5; cases h5
      | some n =>
        rw [hj] at h5
        cases h5
        obtain ⟨n1, n2⟩ := List.nodup_cons.mp h3
        obtain ⟨qs, g1, g2, g3⟩ := TAtA.setIm (n := n) h2 n2 i2
        exact h4 _ (hk ks σ0 Fm B2 H1 σ ρ1 k _ I2 ek ⟨b, zs, k, n, rfl, rfl, h1, by rw [h2.len]; exact hj, h6 (g1.upd_out fun z => n1 (g3 b z)) g2 g3⟩)
    unfold setTreeK at p1
    split at p1
    · rename_i d k ek
      exact go ek (Same.refl B1) I1 v1 p1
    · rename_i ds k ek
      obtain ⟨B2, s2, I2, i2⟩ := freeze I1 v1
      exact go ek s2 I2 i2 (PtS.mono p1 s2)
    · exact p1.elim)
end
end DL

/-! DL, part zs: trees moved; two names at once -/
namespace DL
open PySem PySem.Spec PyProof.Rows L2
def moveTK (o : Option Sl) (i : Nat) (ρ : Env) : R Rv :=
  match o with
  | some (.bk t) => .ok (.bk t) (ρ.set i .no)
  | some (.im d) => .ok (.im d) ρ
  | _ => .bad
def eMoveT (i : Nat) : Env → R Rv := fun ρ => moveTK ρ[i]? i ρ
theorem x_moveT {i : Nat} {ρ : Env} : eMoveT i ρ = moveTK ρ[i]? i ρ := (rfl)
theorem x_moveTB {i : Nat} {ρ : Env} {t : Bd} : moveTK (some (.bk t)) i ρ = .ok (.bk t) (ρ.set i .no) := (rfl)
theorem x_moveTI {i : Nat} {ρ : Env} {d : D} : moveTK (some (.im d)) i ρ = .ok (.im d) ρ := (rfl)
section
variable {K : PySem.W.Frag} {ks : List Nat} {σ0 : L2.St} {Fm B B1 H H' : Hp} {σ : L2.St} {ρ : Env} {W : WX} {ta tb : TE} {fa fb : Env → R Rv}
theorem de_moveT {i : Nat} : DE K W (tVar i) (eMoveT i) := fun ks σ0 Fm B H σ ρ Q I p => by
  have p : PtG K ks σ0 Fm W (vE K Fm σ) B σ Q (moveTK ρ[i]? i ρ) := p
  unfold moveTK at p
  split at p
  · rename_i t e
    obtain ⟨v, h1, h2⟩ := I.takeB e
    exact ⟨v, h1, p B H v (Same.refl B) (I.hide i) h2⟩
  · rename_i d e
    obtain ⟨v, h1, h2⟩ := I.im i d e
    exact ⟨v, h1, p B H v (Same.refl B) I h2⟩
  · exact p.elim
/-! x, y = (e, f) : a tree and a thing that stays -/
def sParT (i j : Nat) (f g : Env → R Rv) : Env → Out := fun ρ => (f ρ).toO fun a ρ => match toTr a with
  | some (.nd tp xs) => (g ρ).toO fun b ρ => .nx ((ρ.set i (.bk (.tree tp xs))).set j (.im b.d))
  | _ => .bad
theorem x_parT {i j : Nat} {f g : Env → R Rv} {ρ ρ1 ρ2 : Env} {a b : Rv} {tp : Bool} {xs : List Tr} (h1 : f ρ = .ok a ρ1) (h2 : toTr a = some (.nd tp xs)) (h3 : g ρ1 = .ok b ρ2) : sParT i j f g ρ = .nx ((ρ2.set i (.bk (.tree tp xs))).set j (.im b.d)) := by
  unfold sParT
  rw [h1]
  show (match toTr a with | some (.nd tp xs) => (g ρ1).toO _ | _ => Out.bad) = _
  rw [h2]
  show (g ρ1).toO _ = _
  rw [h3]
  rfl
theorem PtS.stepF {α β : Type} {Fm' : Hp} {vis : Hp → Hp → Env → β → α → Prop} {E : Ends} {Q1 : β → Hp → Prop} {r : R α} {k : α → Env → Out} (s : Same Fm Fm') (h : PtS K ks σ0 Fm W B E (r.toO k))
    (go : ∀ a ρ1 B1 H1 b, Same B B1 → IV K ks σ0 Fm' B1 H1 σ ρ1 → vis B1 H1 ρ1 b a → PtS K ks σ0 Fm W B1 E (k a ρ1) → Q1 b H1) : PtG K ks σ0 Fm' W vis B σ Q1 r := by
  cases r with
  | ok a ρ1 => exact fun B1 H1 b s' i v => go a ρ1 B1 H1 b s' i v (PtS.mono h s')
  | exc C d ρ' => exact fun B' H' dx s' I' x => h B' H' σ dx s' (I'.weakF s) x
  | bad => exact h
theorem ds_parT {i j : Nat} (hi : i ∉ ks) (hj : j ∉ ks) (h : DE K W ta fa) (h' : DE K W tb fb) : DS K W ks (tPar i j (tCons ta (tCons tb tNil))) (sParT i j fa fb) := fun σ0 Fm B H σ ρ E I p =>
  h ks σ0 Fm B H σ ρ _ I (PtS.step p fun a ρ1 B1 H1 v s I1 v1 p1 => by
    split at p1
    · rename_i tp xs ea
      obtain ⟨ps, k1, n1, f1⟩ := tr_is v1 ea
      have sF : Same Fm (addH Fm H1 ps) := same_addH fun q hq => (f1 q hq).2.1
      refine h' ks σ0 _ B1 H1 σ ρ1 _ (I1.lockT f1 n1) (PtS.stepF sF p1 fun b ρ2 B2 H2 w s2 I2 w1 p2 => ?_)
      obtain ⟨B3, s3, I3, i3⟩ := freeze I2 w1
      obtain ⟨I4, g1, g2⟩ := I3.unlockT (fun q hq => ⟨k1.live q hq, (f1 q hq).2.1⟩) n1
      have kx : TAt K B3 H2 v (.nd tp xs) ps := (k1.monoB (s2.trans s3)).congr g1
      exact ⟨v, w, rfl, p2 B3 H2 _ s3 ((I4.setBk hi (tr_v kx n1 g2)).setIm hj i3)⟩
    · exact p1.elim)
end
/-! for reckoning -/
def twoK2 (tp : Bool) (x : Tr) (o : Option Tr) (ρ : Env) : R Rv :=
  match o with
  | some y => .ok (.bk (.tree tp [x, y])) ρ
  | none => .bad
def twoK1 (tp : Bool) (g : Env → R Rv) (o : Option Tr) (ρ : Env) : R Rv :=
  match o with
  | some x => (g ρ).bind fun b ρ => twoK2 tp x (toTr b) ρ
  | none => .bad
theorem x_two {tp : Bool} {f g : Env → R Rv} {ρ : Env} : eTwoT tp f g ρ = (f ρ).bind fun a ρ => twoK1 tp g (toTr a) ρ := (rfl)
theorem x_twoK1 {tp : Bool} {g : Env → R Rv} {x : Tr} {ρ : Env} : twoK1 tp g (some x) ρ = (g ρ).bind fun b ρ => twoK2 tp x (toTr b) ρ := (rfl)
theorem x_twoK2 {tp : Bool} {x y : Tr} {ρ : Env} : twoK2 tp x (some y) ρ = .ok (.bk (.tree tp [x, y])) ρ := (rfl)
def parTK (i j : Nat) (g : Env → R Rv) (o : Option Tr) (ρ : Env) : Out :=
  match o with
  | some (.nd tp xs) => (g ρ).toO fun b ρ => .nx ((ρ.set i (.bk (.tree tp xs))).set j (.im b.d))
  | _ => .bad
theorem x_par2 {i j : Nat} {f g : Env → R Rv} {ρ : Env} : sParT i j f g ρ = (f ρ).toO fun a ρ => parTK i j g (toTr a) ρ := (rfl)
theorem x_parTK {i j : Nat} {g : Env → R Rv} {tp : Bool} {xs : List Tr} {ρ : Env} : parTK i j g (some (.nd tp xs)) ρ = (g ρ).toO fun b ρ => .nx ((ρ.set i (.bk (.tree tp xs))).set j (.im b.d)) := (rfl)
theorem x_appTO {xs : List Tr} {i : Nat} {ds : List D} {ρ : Env} (h : xs.length < 100000) : appTK (some (.bk (.tree false xs))) i (.own ds) ρ = .nx (ρ.set i (.bk (.tree false (xs ++ [.nd false (ds.map Tr.im)])))) := if_pos h
theorem x_appTI {xs : List Tr} {i : Nat} {d : D} {ρ : Env} (h : xs.length < 100000) : appTK (some (.bk (.tree false xs))) i (.im d) ρ = .nx (ρ.set i (.bk (.tree false (xs ++ [.im d])))) := if_pos h
theorem x_appTT {xs ys : List Tr} {tp : Bool} {i : Nat} {ρ : Env} (h : xs.length < 100000) : appTK (some (.bk (.tree false xs))) i (.bk (.tree tp ys)) ρ = .nx (ρ.set i (.bk (.tree false (xs ++ [.nd tp ys])))) := if_pos h
theorem dCompT_all {vs : List Nat} {tg : Tg} {fe : Env → R Rv} {ρ : Env} : ∀ {items : List D} {ts acc : List Tr}, acc.length + items.length ≤ 100000 → ts.length = items.length →
    (∀ (i : Nat) d t, items[i]? = some d → ts[i]? = some t → ∃ ρ2 ρ4 rv, tg d (wipeE ρ vs) = some ρ2 ∧ fe ρ2 = .ok rv ρ4 ∧ toTr rv = some t ∧ restore ρ vs ρ4 = ρ) → dCompT vs tg tYesD fe acc items ρ = .ok (acc ++ ts) ρ
  | [], [], acc, _, _, _ => by rw [List.append_nil]; rfl
  | [], _ :: _, _, _, h, _ => by cases h
  | _ :: _, [], _, _, h, _ => by cases h
  | d :: ds, t :: ts, acc, hl, hlen, h => by
    rw [List.length_cons] at hl
    obtain ⟨ρ2, ρ4, rv, e1, e2, e3, e4⟩ := h 0 d t rfl rfl
    have ih := dCompT_all (vs := vs) (tg := tg) (fe := fe) (ρ := ρ) (items := ds) (ts := ts) (acc := acc ++ [t]) (by rw [List.length_append, List.length_singleton]; omega) (by simpa using hlen) fun i d' t' g1 g2 => h (i + 1) d' t' (by simpa using g1) (by simpa using g2)
    rw [dCompT, e1]
    show (((tYesD ρ2).nx).bind fun b ρ3 => if b = true then ((fe ρ3).nx).bind _ else _) = _
    show ((fe ρ2).nx).bind _ = _
    rw [e2]
    show (match toTr rv with | some t => if acc.length < 100000 then dCompT vs tg tYesD fe (acc ++ [t]) ds (restore ρ vs ρ4) else .bad | none => .bad) = _
    rw [e3]
    show (if acc.length < 100000 then dCompT vs tg tYesD fe (acc ++ [t]) ds (restore ρ vs ρ4) else .bad) = _
    rw [if_pos (by omega), e4, ih, List.append_assoc]
    rfl
end DL

/-! DL, part zt: for a, b in x: if a is not None: a.clear(), x a tree of pairs -/
namespace DL
open PySem PySem.Spec PyProof.Rows L2
def clrOne : Tr → Option Tr
  | .nd true [.nd false _, t] => some (.nd true [.nd false [], t])
  | .nd true [.im .non, t] => some (.nd true [.im .non, t])
  | _ => none
def clrAll : List Tr → Option (List Tr)
  | [] => some []
  | x :: xs => (clrOne x).bind fun y => (clrAll xs).map fun ys => y :: ys
theorem clrAll_len : ∀ {xs ys : List Tr}, clrAll xs = some ys → ys.length = xs.length
  | [], _, h => by cases h; rfl
  | x :: xs, ys, h => by
    unfold clrAll at h
    cases e : clrOne x with
    | none => rw [e] at h; cases h
    | some y =>
      rw [e] at h
      cases e2 : clrAll xs with
      | none => rw [e2] at h; cases h
      | some zs =>
        rw [e2] at h
        cases h
        rw [List.length_cons, List.length_cons, clrAll_len e2]
theorem clrAll_get : ∀ {xs ys : List Tr} {k : Nat} {x : Tr}, clrAll xs = some ys → xs[k]? = some x → ∃ y, ys[k]? = some y ∧ clrOne x = some y
  | [], _, _, _, _, e => by simp at e
  | x :: xs, ys, k, x', h, e => by
    unfold clrAll at h
    cases e1 : clrOne x with
    | none => rw [e1] at h; cases h
    | some y =>
      rw [e1] at h
      cases e2 : clrAll xs with
      | none => rw [e2] at h; cases h
      | some zs =>
        rw [e2] at h
        cases h
        cases k with
        | zero => simp at e; subst e; exact ⟨y, rfl, e1⟩
        | succ k => exact clrAll_get (k := k) e2 (by simpa using e)
def okClr (i a b n : Nat) : Bool := decide (i ≠ a) && decide (i ≠ b) && decide (a ≠ b) && decide (a < n) && decide (b < n)
theorem okClr_of {i a b n : Nat} (h : okClr i a b n = true) : i ≠ a ∧ i ≠ b ∧ a ≠ b ∧ a < n ∧ b < n := by
  unfold okClr at h
  simp only [Bool.and_eq_true, decide_eq_true_eq] at h
  exact ⟨h.1.1.1.1, h.1.1.1.2, h.1.1.2, h.1.2, h.2⟩
def clrAllK (o : Option Sl) (i a b : Nat) (ρ : Env) : Out :=
  match o with
  | some (.bk (.tree false xs)) => match clrAll xs with
    | some ys => cond (okClr i a b ρ.length) (.nx (((ρ.set a .no).set b .no).set i (.bk (.tree false ys)))) .bad
    | none => .bad
  | _ => .bad
def sClrAll (i a b : Nat) : Env → Out := fun ρ => clrAllK ρ[i]? i a b ρ
theorem x_sClrAll {i a b : Nat} {ρ : Env} : sClrAll i a b ρ = clrAllK ρ[i]? i a b ρ := (rfl)
theorem x_clrAllK {i a b : Nat} {ρ : Env} {xs ys : List Tr} (h : clrAll xs = some ys) : clrAllK (some (.bk (.tree false xs))) i a b ρ = cond (okClr i a b ρ.length) (.nx (((ρ.set a .no).set b .no).set i (.bk (.tree false ys)))) .bad := by
  unfold clrAllK
  simp only [h]
section
variable {K : PySem.W.Frag} {ks : List Nat} {σ0 : L2.St} {Fm B B1 H H' : Hp} {σ : L2.St} {ρ : Env} {W : WX}
theorem IV.setNoSelf {i : Nat} (I : IV K ks σ0 Fm B H σ ρ) (hi : i ∉ ks) : IV K ks σ0 Fm B H σ (ρ.set i .no) := by
  have h : ∀ z, (σ.set i z)[i]? = some z ∨ σ.set i z = σ := fun z => by
    by_cases hl : i < σ.length
    · exact .inl (by rw [List.getElem?_set_self hl])
    · exact .inr (List.set_eq_of_length_le (by omega))
  cases e : σ[i]? with
  | none =>
    have := I.setNo none hi
    rwa [List.set_eq_of_length_le (List.getElem?_eq_none_iff.mp e)] at this
  | some z =>
    have := I.setNo z hi
    have hs : σ.set i z = σ := by
      obtain ⟨hl, e'⟩ := List.getElem?_eq_some_iff.mp e
      subst e'
      exact List.set_getElem_self hl
    rwa [hs] at this
theorem mkO_lst {vs us : List V} {tp : Bool} (h : some (HO.lst vs) = some (mkO tp us)) : tp = false ∧ us = vs := by
  cases tp
  · cases h; exact ⟨rfl, rfl⟩
  · cases h
theorem mkO_tup {vs us : List V} {tp : Bool} (h : some (HO.tup vs) = some (mkO tp us)) : tp = true ∧ us = vs := by
  cases tp
  · cases h
  · cases h; exact ⟨rfl, rfl⟩
theorem tPut2 {xs : List Tr} {k : Nat} {x t u : Tr} (hk : xs[k]? = some (.nd true [x, t])) : tAt (.nd false xs) [(k : Int), 0] = some x ∧ tPut (.nd false xs) [(k : Int), 0] u = .nd false (xs.set k (.nd true [u, t])) := by
  have hl : k < xs.length := (List.getElem?_eq_some_iff.mp hk).1
  have e1 : ixN xs.length (k : Int) = some k := by
    unfold ixN
    simp [hl]
  have e2 : ixN [x, t].length 0 = some 0 := (rfl)
  refine ⟨?_, ?_⟩
  · rw [tAt]
    unfold atI
    simp only [e1, hk, Option.bind_some]
    rw [tAt]
    unfold atI
    simp only [e2, Option.bind_some]
    show tAt x [] = _
    cases x <;> rw [tAt.eq_def]
  · rw [tPut]
    simp only [e1, hk]
    rw [tPut]
    simp only [e2]
    show Tr.nd false (xs.set k (.nd true [tPut x [] u, t])) = _
    cases x <;> rw [tPut.eq_def]
/-- one pair: its values, and what clearing its first does -/
theorem pair_at {ρ : Env} {i k : Nat} {b0 : Addr} {vs : List V} {xs : List Tr} {x : Tr} (I : IV K ks σ0 Fm B H σ ρ) (e1 : ρ[i]? = some (.bk (.tree false xs))) (h1 : σ[i]? = some (some (.ref b0))) (h2 : H b0 = some (.lst vs)) (ex : xs[k]? = some (.nd true [x, t])) :
    ∃ c u1 u2, vs[k]? = some (.ref c) ∧ H c = some (.tup [u1, u2]) ∧ (∀ d, x = .im d → Is K B u1 d) ∧
      (∀ zs, x = .nd false zs → ∃ d ws, u1 = .ref d ∧ H d = some (.lst ws) ∧ IV K ks σ0 Fm B (upd H d (.lst [])) σ (ρ.set i (.bk (.tree false (xs.set k (.nd true [.nd false [], t])))))) := by
  obtain ⟨b', vs', ps, g1, g2, g3, g4⟩ := tree_at I e1
  rw [h1] at g1
  cases g1
  rw [h2] at g2
  cases g2
  obtain ⟨w, l, m, r, f1, f2, f3, f4⟩ := TAtA.focus g3 ex
  clear f4
  cases f3 with
  | nd q1 q2 =>
    rename_i c us rs
    cases q2 with
    | cons a1 a2 =>
    cases a2 with
    | cons a3 a4 =>
    cases a4 with
    | nil =>
    rename_i u1 p1 u2 p2
    refine ⟨c, u1, u2, f1, q1, fun d e => ?_, fun zs e => ?_⟩
    · subst e
      cases a1 with
      | im h => exact h
    · subst e
      obtain ⟨e3, e5⟩ := tPut2 (u := .nd false []) ex
      obtain ⟨w, qs, k1, k2, k3, k4, k5⟩ := TAt.focus [(k : Int), 0] (.nd (tp := false) h2 g3) g4 e3
      have hk : k < vs.length := (List.getElem?_eq_some_iff.mp f1).1
      have en : ixN vs.length (k : Int) = some k := by
        unfold ixN
        simp [hk]
      have ew : w = u1 := by
        obtain ⟨a', tp', vs', u', m1, m2, m3, m4⟩ := k1
        cases m1
        obtain ⟨_, e6⟩ := mkO_lst (h2.symm.trans m2)
        rw [e6] at m3
        unfold atI at m3
        rw [en] at m3
        have m3 : vs[k]? = some u' := m3
        rw [f1] at m3
        cases m3
        obtain ⟨a'', tp'', vs'', u'', n1, n2, n3, n4⟩ := m4
        cases n1
        obtain ⟨_, e7⟩ := mkO_tup (q1.symm.trans n2)
        rw [e7] at n3
        cases n3
        exact n4
      subst ew
      cases k2 with
      | nd g1' g2' =>
        rename_i d ws rs'
        refine ⟨d, ws, rfl, g1', ?_⟩
        obtain ⟨ps', y1, y2, y3⟩ := k5 (H' := upd H d (.lst [])) (u' := .nd false []) (qs' := [d]) (.nd (tp := false) upd_same .nil) (by simp) (fun p hp => by
            rw [List.mem_singleton.mp hp]
            exact List.mem_cons_self) (fun p np _ => upd_ne fun z => np (by rw [z]; exact List.mem_cons_self))
        rw [e5] at y1
        have old : TAt K B H (.ref b0) (.nd false xs) (b0 :: ps) := .nd (tp := false) h2 g3
        have hd : d ∈ b0 :: ps := k3 d List.mem_cons_self
        exact I.reB e1 h1 (fun p n _ => upd_ne fun z => n (by rw [z]; exact old.ft d hd)) ⟨ps', y1, y2⟩ fun p f => .inl (old.ft p (y3 p (TFt.mem f y1)))
def clrTo (xs ys : List Tr) (k : Nat) : List Tr := ys.take k ++ xs.drop k
theorem clrTo_get {xs ys : List Tr} {k : Nat} (h : ys.length = xs.length) (hk : k < xs.length) : (clrTo xs ys k)[k]? = xs[k]? := by
  unfold clrTo
  rw [List.getElem?_append_right (by rw [List.length_take]; omega), List.length_take, List.getElem?_drop]
  congr 1
  omega
theorem clrTo_set {xs ys : List Tr} {k : Nat} {y : Tr} (h : ys.length = xs.length) (hk : k < xs.length) (ey : ys[k]? = some y) : (clrTo xs ys k).set k y = clrTo xs ys (k + 1) := by
  unfold clrTo
  have e1 : xs.drop k = xs[k] :: xs.drop (k + 1) := List.drop_eq_getElem_cons hk
  have e2 : ys.take (k + 1) = ys.take k ++ [y] := by rw [List.take_add_one, ey]; rfl
  have hl : (ys.take k).length = k := by rw [List.length_take]; omega
  rw [List.set_append_right _ _ (by omega), hl, Nat.sub_self, e1, e2, List.set_cons_zero, List.append_assoc]
  rfl
theorem ds_clrAll {i a b : Nat} (ha : a ∉ ks) (hb : b ∉ ks) : DS K W ks (tFor (iList K (tVar i)) (gTup K 2 (gCons (gName a) (gCons (gName b) gNil))) (tIfS (tTest (tOp rIsNotND (tVar a) (tC .non))) (tDrop (tBM0 K "list" rClear (tVar a))) tNext)) (sClrAll i a b) := fun σ0 Fm B H σ ρ E I p => by
  unfold sClrAll clrAllK at p
  split at p
  · rename_i xs e
    split at p
    · rename_i ys ey
      cases hk : okClr i a b ρ.length with
      | false => rw [hk] at p; exact p.elim
      | true =>
        rw [hk] at p
        obtain ⟨n1, n2, n3, l1, l2⟩ := okClr_of hk
        have p : ∀ B' H' σ', Same B B' → IV K ks σ0 Fm B' H' σ' (((ρ.set a .no).set b .no).set i (.bk (.tree false ys))) → E.nx σ' H' := p
        have len := clrAll_len ey
        obtain ⟨b0, vs, ps, h1, h2, h3, h4⟩ := tree_at I e
        have I0 : IV K ks σ0 Fm B H σ ((ρ.set a .no).set b .no) := (I.setNoSelf ha).setNoSelf hb
        have e0 : ((ρ.set a .no).set b .no)[i]? = some (.bk (.tree false xs)) := by
          rw [List.getElem?_set_ne n2.symm, List.getElem?_set_ne n1.symm]
          exact e
        have li : i < ((ρ.set a .no).set b .no).length := (List.getElem?_eq_some_iff.mp e0).1
        have ea : ∀ t, (((ρ.set a .no).set b .no).set i t)[a]? = some .no := fun t => by
          rw [List.getElem?_set_ne n1, List.getElem?_set_ne n3.symm, List.getElem?_set_self l1]
        have eb : ∀ t, (((ρ.set a .no).set b .no).set i t)[b]? = some .no := fun t => by
          rw [List.getElem?_set_ne n2, List.getElem?_set_self (by rw [List.length_set]; exact l2)]
        have ei : ∀ t, (((ρ.set a .no).set b .no).set i t)[i]? = some t := fun t => List.getElem?_set_self li
        have st0 : (((ρ.set a .no).set b .no).set i (.bk (.tree false (clrTo xs ys 0)))) = ((ρ.set a .no).set b .no) := by
          obtain ⟨hl, e'⟩ := List.getElem?_eq_some_iff.mp e0
          unfold clrTo
          rw [List.take_zero, List.drop_zero, List.nil_append, ← e', List.set_getElem_self]
        refine ⟨_, h1, b0, rfl, ⟨vs, .inl (.inl h2)⟩, fun k m σ' H' => m = xs.length - k ∧ k ≤ xs.length ∧ σ'[i]? = some (some (.ref b0)) ∧ IV K ks σ0 Fm B H' σ' (((ρ.set a .no).set b .no).set i (.bk (.tree false (clrTo xs ys k)))),
          ⟨_, rfl, Nat.zero_le _, h1, by rw [st0]; exact I0⟩, ?_⟩
        rintro k m σ' H' ⟨rfl, hk', h1', I'⟩
        obtain ⟨b', vs', ps', g1, g2, g3, g4⟩ := tree_at I' (ei _)
        rw [h1'] at g1
        cases g1
        have hcl : (clrTo xs ys k).length = xs.length := by
          unfold clrTo
          rw [List.length_append, List.length_take, List.length_drop]
          omega
        have hvl : vs'.length = xs.length := by rw [g3.len, hcl]
        by_cases hlt : k < xs.length
        · refine .inr ⟨⟨vs', vs'[k], .inl (.inl g2), List.getElem?_eq_getElem (by omega)⟩, fun σ2 H2 => σ2[i]? = some (some (.ref b0)) ∧ IV K ks σ0 Fm B H2 σ2 (((ρ.set a .no).set b .no).set i (.bk (.tree false (clrTo xs ys (k + 1))))),
            fun σ2 H2 ⟨q1, q2⟩ => ⟨xs.length - (k + 1), by omega, rfl, hlt, q1, q2⟩, fun x H2 y => ?_⟩
          obtain ⟨rfl, hy⟩ := y
          have hy := hy vs' (.inl (.inl g2))
          have ex : (clrTo xs ys k)[k]? = some xs[k] := by rw [clrTo_get len hlt, List.getElem?_eq_getElem hlt]
          obtain ⟨y, y1, y2⟩ := clrAll_get ey (List.getElem?_eq_getElem hlt)
          have setK := clrTo_set len hlt y1
          have fin : ∀ {x0 t : Tr}, xs[k] = .nd true [x0, t] → ((x0 = .im .non ∧ y = .nd true [x0, t]) ∨ (∃ zs, x0 = .nd false zs) ∧ y = .nd true [.nd false [], t]) →
              gTup K 2 (gCons (gName a) (gCons (gName b) gNil)) x σ' H2 fun σ2 H2' => tIfS (tTest (tOp rIsNotND (tVar a) (tC .non))) (tDrop (tBM0 K "list" rClear (tVar a))) tNext { E with nx := fun σ2 H2 => σ2[i]? = some (some (.ref b0)) ∧ IV K ks σ0 Fm B H2 σ2 (((ρ.set a .no).set b .no).set i (.bk (.tree false (clrTo xs ys (k + 1))))), ct := fun σ2 H2 => σ2[i]? = some (some (.ref b0)) ∧ IV K ks σ0 Fm B H2 σ2 (((ρ.set a .no).set b .no).set i (.bk (.tree false (clrTo xs ys (k + 1))))), bk := E.nx } σ2 H2' := fun {x0 t} exk hc => by
            rw [exk] at ex
            have Ia := (I'.junk (x := some (V.non)) ha (ea _))
            obtain ⟨c, u1, u2, m1, m2, m3, m4⟩ := pair_at I' (ei _) h1' g2 ex
            rw [m1] at hy
            cases hy
            refine ⟨c, [u1, u2], rfl, .inl (.inl m2), rfl, u1, [u2], rfl, u2, [], rfl, rfl, ?_⟩
            have I2 : IV K ks σ0 Fm B H2 ((σ'.set a (some u1)).set b (some u2)) (((ρ.set a .no).set b .no).set i (.bk (.tree false (clrTo xs ys k)))) := (I'.junk ha (ea _)).junk hb (eb _)
            have hi2 : ((σ'.set a (some u1)).set b (some u2))[i]? = some (some (.ref b0)) := by
              rw [List.getElem?_set_ne n2.symm, List.getElem?_set_ne n1.symm]
              exact h1'
            have ls : σ'.length = ρ.length := by
              have := I'.len
              rw [List.length_set, List.length_set, List.length_set] at this
              exact this
            have ha2 : ((σ'.set a (some u1)).set b (some u2))[a]? = some (some u1) := by
              rw [List.getElem?_set_ne n3.symm, List.getElem?_set_self (by omega)]
            rcases hc with ⟨z1, z2⟩ | ⟨⟨zs, z1⟩, z2⟩
            · cases (show u1 = .non by
                have := m3 _ z1
                cases this
                rfl)
              refine ⟨.non, ha2, rfl, _, rfl, ?_⟩
              refine ⟨hi2, ?_⟩
              have : clrTo xs ys (k + 1) = clrTo xs ys k := by
                rw [← setK, z2, ← exk]
                exact List.ext_getElem? fun j => by
                  by_cases hj : k = j
                  · subst hj
                    rw [List.getElem?_set_self (by omega), clrTo_get len hlt, List.getElem?_eq_getElem hlt]
                  · rw [List.getElem?_set_ne hj]
              rw [this]
              exact I2
            · obtain ⟨d, ws, w1, w2, w3⟩ := m4 zs z1
              subst w1
              refine ⟨.ref d, ha2, rfl, _, rfl, ?_⟩
              refine ⟨.ref d, ha2, .inl ⟨rfl, ws, .inl (.inl w2)⟩, d, ws, rfl, rfl, w2, hi2, ?_⟩
              rw [List.set_set, ← z2, setK] at w3
              exact (w3.junk ha (ea _)).junk hb (eb _)
          unfold clrOne at y2
          split at y2
          · rename_i zs t exk
            cases y2
            exact fin exk (.inr ⟨⟨_, rfl⟩, rfl⟩)
          · rename_i t exk
            cases y2
            exact fin exk (.inl ⟨rfl, rfl⟩)
          · cases y2
        · have e : k = xs.length := by omega
          subst e
          refine .inl ⟨⟨vs', .inl (.inl g2), by omega⟩, p B H' σ' (Same.refl B) ?_⟩
          have : clrTo xs ys xs.length = ys := by
            unfold clrTo
            rw [List.drop_length, List.append_nil, ← len, List.take_length]
          rw [this] at I'
          exact I'
    · exact p.elim
  · exact p.elim
end
/-! zip of two lists or of two tuples -/
section
variable {K : PySem.W.Frag} {W : WX}
theorem wk_zipT {a b : Addr} {xs ys : List V} {ds es : List D} {B0 : Hp} (h : SqT K B0 a xs) (h' : SqT K B0 b ys) (kk : IsA K B0 xs ds) (kk' : IsA K B0 ys es) : Wk K (RZ.ItzT K a b) (zipD ds es) B0 := by
  intro ks σ0 Fm B H σ ρ i s I
  have hq : SqT K H a xs := same_t I.ex (same_t s h)
  have hq' : SqT K H b ys := same_t I.ex (same_t s h')
  rw [zipD_len]
  refine ⟨fun hi => ?_, fun hi => ⟨xs, ys, hq, hq', by rw [kk.len, kk'.len]; omega⟩⟩
  have hi2 : i < xs.length := by rw [kk.len]; omega
  have hi3 : i < ys.length := by rw [kk'.len]; omega
  refine ⟨⟨xs, ys, xs[i], ys[i], hq, hq', List.getElem?_eq_getElem hi2, List.getElem?_eq_getElem hi3⟩, fun v H' y => ?_⟩
  obtain ⟨T, x, z, rfl, hT, rfl, f1, f2⟩ := y
  obtain ⟨d, hd, iv⟩ := kk.getV (f1 xs hq)
  obtain ⟨e, he, iv'⟩ := kk'.getV (f2 ys hq')
  have s2 := same_upd (o := .tup [x, z]) (I.ex.free hT)
  exact ⟨_, _, zipD_get hd he, s2, same_upd hT, I.laid hT, .tup upd_same (.cons ((iv.mono s).mono s2) (.cons ((iv'.mono s).mono s2) .nil))⟩
def zipKA (as : List Av) (ρ : DL.Env) : R (List D) :=
  match as with
  | [.im (.lst ds), .im (.lst es)] => .ok (zipD ds es) ρ
  | [.im (.tup ds), .im (.tup es)] => .ok (zipD ds es) ρ
  | _ => .bad
def iZipAD (f : Env → R (List Av)) : Env → R (List D) := fun ρ => (f ρ).bind zipKA
theorem x_zipA {f : DL.Env → R (List Av)} {ρ : DL.Env} : iZipAD f ρ = (f ρ).bind zipKA := (rfl)
theorem x_zipKL {ds es : List D} {ρ : DL.Env} : zipKA [.im (.lst ds), .im (.lst es)] ρ = .ok (zipD ds es) ρ := (rfl)
theorem x_zipKT {ds es : List D} {ρ : DL.Env} : zipKA [.im (.tup ds), .im (.tup es)] ρ = .ok (zipD ds es) ρ := (rfl)
theorem di_zipA {tr : TA} {fr : Env → R (List Av)} (h : DA K W tr fr) : DI K W (RZ.iZipA K tr) (iZipAD fr) := fun ks σ0 Fm B H σ ρ Q I p =>
  h ks σ0 Fm B H σ ρ _ I (PtG.step p fun as ρ1 B1 H1 vs s I1 v1 p1 => by
    unfold zipKA at p1
    split at p1
    · obtain ⟨v, w, rfl, hv, hw⟩ := arg2 v1
      obtain ⟨a, xs, rfl, ha, kk⟩ := hv.lstV
      obtain ⟨b, ys, rfl, hb, kk'⟩ := hw.lstV
      exact ⟨a, b, xs, ys, rfl, .inl ⟨.inl (.inl (I1.ex _ _ ha)), .inl (.inl (I1.ex _ _ hb)), p1 B1 H1 _ (Same.refl B1) I1 (wk_zip (.inl (.inl ha)) (.inl (.inl hb)) kk kk')⟩⟩
    · obtain ⟨v, w, rfl, hv, hw⟩ := arg2 v1
      obtain ⟨a, xs, rfl, ha, kk⟩ := hv.tupV
      obtain ⟨b, ys, rfl, hb, kk'⟩ := hw.tupV
      exact ⟨a, b, xs, ys, rfl, .inr ⟨.inl (.inl (I1.ex _ _ ha)), .inl (.inl (I1.ex _ _ hb)), p1 B1 H1 _ (Same.refl B1) I1 (wk_zipT (.inl (.inl ha)) (.inl (.inl hb)) kk kk')⟩⟩
    · exact p1.elim)
end
end DL
namespace L2
open PySem PySem.Spec PyProof.Rows
theorem pi_zipAK {X : Cx} {K : PySem.W.Frag} {e e2 : Expr} {ta : TA} {p pos tpos : Pos} {elts : List Expr} {kk : Nat} (hK : X.K = K) (hg : Gl X "zip") (hm : X.mg "zip" = none) (ha : PA X [e, e2] ta)
    (hs : starEach [e, e2] X.env = (false, eval e X.env) :: starEach [e2] X.env := by rfl) (hpl : (backTo pos (starEach [e2] X.env)).any (·.1) = false := by rfl) :
    PI X (.Tuple elts kk tpos) (.Call (.Name "zip" p) [e, e2] [] pos) (RZ.iZipA K ta) := hK ▸ RZ.pi_zipA hg hm ha hs hpl
end L2

/-! DL, part zu: sorted([a for a, b in x]), x a tree of pairs of a list of numbers and a thing; x is given up -/
namespace DL
open PySem PySem.Spec PyProof.Rows L2
def rowTr (b : List Int) : Tr := .nd false ((b.map D.int).map Tr.im)
def intsTr : List Tr → Option (List Int)
  | [] => some []
  | .im (.int i) :: r => (intsTr r).map (i :: ·)
  | _ => none
theorem intsTr_map : ∀ b : List Int, intsTr ((b.map D.int).map Tr.im) = some b
  | [] => rfl
  | i :: r => by
    show (intsTr ((r.map D.int).map Tr.im)).map (i :: ·) = _
    rw [intsTr_map r]
    rfl
theorem intsTr_is : ∀ {ys : List Tr} {b : List Int}, intsTr ys = some b → ys = (b.map D.int).map Tr.im
  | [], b, h => by cases h; rfl
  | .im (.int i) :: r, b, h => by
    have h : (intsTr r).map (i :: ·) = some b := h
    cases e : intsTr r with
    | none => rw [e] at h; cases h
    | some c =>
      rw [e] at h
      cases h
      rw [intsTr_is e]
      rfl
  | .nd _ _ :: _, _, h => by cases h
  | .im (.bl _) :: _, _, h => by cases h
  | .im .non :: _, _, h => by cases h
  | .im (.str _) :: _, _, h => by cases h
  | .im (.ty _) :: _, _, h => by cases h
  | .im (.lst _) :: _, _, h => by cases h
  | .im (.tup _) :: _, _, h => by cases h
  | .im (.scr _) :: _, _, h => by cases h
  | .im (.exn _) :: _, _, h => by cases h
  | .im (.exf _ _ _) :: _, _, h => by cases h
def fstOne : Tr → Option (List Int)
  | .nd true [.nd false ys, _] => intsTr ys
  | _ => none
def fstRows : List Tr → Option (List (List Int))
  | [] => some []
  | x :: xs => (fstOne x).bind fun b => (fstRows xs).map (b :: ·)
def pairTr (p : List Int × Int) : Tr := .nd true [rowTr p.1, .im (.int p.2)]
theorem fstRows_map : ∀ ps : List (List Int × Int), fstRows (ps.map pairTr) = some (ps.map Prod.fst)
  | [] => rfl
  | p :: r => by
    show (intsTr ((p.1.map D.int).map Tr.im)).bind (fun b => (fstRows (r.map pairTr)).map (b :: ·)) = _
    rw [intsTr_map, fstRows_map r]
    rfl
def sortFstK (o : Option Sl) (i a b : Nat) (vs : List Nat) (ρ : Env) : R Rv :=
  match o with
  | some (.bk (.tree false xs)) => match fstRows xs with
    | some bs => if bs.Nodup ∧ a ∈ vs ∧ b ∈ vs ∧ i ∉ vs ∧ a ≠ b ∧ a < ρ.length ∧ b < ρ.length ∧ xs.length ≤ 100000 then .ok (.bk (.tree false ((bs.mergeSort leLL).map rowTr))) (ρ.set i .no) else .bad
    | none => .bad
  | _ => .bad
def eSortFst (i a b : Nat) (vs : List Nat) : Env → R Rv := fun ρ => sortFstK ρ[i]? i a b vs ρ
theorem x_sortFst {i a b : Nat} {vs : List Nat} {ρ : Env} : eSortFst i a b vs ρ = sortFstK ρ[i]? i a b vs ρ := (rfl)
theorem x_sortFstK {i a b : Nat} {vs : List Nat} {ρ : Env} {ps : List (List Int × Int)} (h : (ps.map Prod.fst).Nodup) (h2 : a ∈ vs ∧ b ∈ vs ∧ i ∉ vs ∧ a ≠ b ∧ a < ρ.length ∧ b < ρ.length) (h3 : ps.length ≤ 100000) :
    sortFstK (some (.bk (.tree false (ps.map pairTr)))) i a b vs ρ = .ok (.bk (.tree false (((ps.map Prod.fst).mergeSort leLL).map rowTr))) (ρ.set i .no) := by
  unfold sortFstK
  simp only [fstRows_map]
  rw [if_pos ⟨h, h2.1, h2.2.1, h2.2.2.1, h2.2.2.2.1, h2.2.2.2.2.1, h2.2.2.2.2.2, by rw [List.length_map]; exact h3⟩]
section
variable {K : PySem.W.Frag} {ks : List Nat} {σ0 : L2.St} {Fm B B1 H H' : Hp} {σ : L2.St} {ρ : Env} {W : WX}
def RowAt (H : Hp) (ps : List Addr) (x : V) (b : List Int) : Prop := ∃ d, x = .ref d ∧ H d = some (.lst (b.map V.int)) ∧ d ∈ ps
theorem tA_ints : ∀ {vs : List V} {b : List Int} {ps : List Addr}, TAtA K B H vs ((b.map D.int).map Tr.im) ps → vs = b.map V.int
  | _, [], _, .nil => rfl
  | _, i :: r, _, .cons h t => by
    cases h with
    | im h =>
      cases h
      rw [tA_ints t]
      rfl
theorem ints_isA : ∀ (b : List Int), TAtA K B H (b.map V.int) ((b.map D.int).map Tr.im) []
  | [] => .nil
  | i :: r => TAtA.cons (ps := []) (qs := []) (.im (.int i)) (ints_isA r)
theorem rowAt_mono {ps qs : List Addr} (h : ∀ p ∈ ps, p ∈ qs) : ∀ x b, RowAt H ps x b → RowAt H qs x b := fun _ _ ⟨d, h1, h2, h3⟩ => ⟨d, h1, h2, h d h3⟩
theorem fst_rows : ∀ {vs : List V} {xs : List Tr} {ps : List Addr} {bs : List (List Int)}, TAtA K B H vs xs ps → fstRows xs = some bs →
    ∃ us, Paired (fun v u => ∃ c w, v = V.ref c ∧ H c = some (.tup [u, w])) vs us ∧ Paired (RowAt H ps) us bs
  | _, [], _, bs, .nil, h => by
    cases h
    exact ⟨[], .nil, .nil⟩
  | _, x :: xs, _, bs, .cons (ps := p1) (qs := p2) h t, e => by
    unfold fstRows at e
    cases e1 : fstOne x with
    | none => rw [e1] at e; cases e
    | some b =>
      rw [e1] at e
      cases e2 : fstRows xs with
      | none => rw [e2] at e; cases e
      | some cs =>
        rw [e2] at e
        cases e
        obtain ⟨us, k1, k2⟩ := fst_rows t e2
        unfold fstOne at e1
        split at e1
        · rename_i ys t2
          cases intsTr_is e1
          cases h with
          | nd h1 h2 =>
            cases h2 with
            | cons a1 a2 =>
              cases a2 with
              | cons a3 a4 =>
                cases a4 with
                | nil =>
                  cases a1 with
                  | nd b1 b2 =>
                    cases tA_ints b2
                    exact ⟨_ :: us, .cons ⟨_, _, rfl, h1⟩ k1, .cons ⟨_, rfl, b1, by simp⟩ (k2.mono (rowAt_mono fun p hp => List.mem_append_right _ hp))⟩
        · cases e1
theorem map_int_inj {b c : List Int} (h : b.map V.int = c.map V.int) : b = c := (List.map_inj_right (fun _ _ e => by injection e)).mp h
theorem rows_tree {ps : List Addr} : ∀ {ys : List V} {bs : List (List Int)}, bs.Nodup → Paired (RowAt H ps) ys bs → ∃ qs, TAtA K B H ys (bs.map rowTr) qs ∧ qs.Nodup ∧ (∀ q ∈ qs, q ∈ ps) ∧ ∀ q ∈ qs, ∃ b ∈ bs, H q = some (.lst (b.map V.int))
  | _, [], _, .nil => ⟨[], .nil, List.nodup_nil, (fun q hq => by cases hq), (fun q hq => by cases hq)⟩
  | _, b :: bs, n, .cons h t => by
    obtain ⟨d, rfl, h1, h2⟩ := h
    obtain ⟨nb, n2⟩ := List.nodup_cons.mp n
    obtain ⟨qs, k1, k2, k3, k4⟩ := rows_tree n2 t
    have hd : d ∉ qs := fun z => by
      obtain ⟨c, hc, e⟩ := k4 d z
      rw [h1] at e
      cases map_int_inj (HO.lst.inj (Option.some.inj e))
      exact nb hc
    refine ⟨[d] ++ qs, .cons (.nd (tp := false) h1 (ints_isA b)) k1, List.nodup_cons.mpr ⟨hd, k2⟩, fun q hq => ?_, fun q hq => ?_⟩
    · rcases List.mem_cons.mp hq with rfl | hq
      · exact h2
      · exact k3 q hq
    · rcases List.mem_cons.mp hq with rfl | hq
      · exact ⟨b, List.mem_cons_self, h1⟩
      · obtain ⟨c, hc, e⟩ := k4 q hq
        exact ⟨c, List.mem_cons_of_mem _ hc, e⟩
theorem paired_get {α β : Type} {F : α → β → Prop} : ∀ {xs : List α} {ys : List β} {k : Nat} {x : α}, Paired F xs ys → xs[k]? = some x → ∃ y, ys[k]? = some y ∧ F x y
  | _, _, _, _, .nil, e => by simp at e
  | _, _, 0, _, .cons h t, e => by
    simp at e
    subst e
    exact ⟨_, rfl, h⟩
  | _, _, k + 1, _, .cons h t, e => paired_get (k := k) t (by simpa using e)
theorem de_sortFst {i a b : Nat} {vs : List Nat} : DE K W (tCB (rSortedL K) (tCons (tLc (iList K (tVar i)) (gTup K 2 (gCons (gName a) (gCons (gName b) gNil))) tYes (tVar a) vs) tNil)) (eSortFst i a b vs) := fun ks σ0 Fm B H σ ρ Q I p => by
  unfold eSortFst sortFstK at p
  split at p
  · rename_i xs e
    split at p
    · rename_i bs eb
      split at p
      · rename_i hc
        obtain ⟨hn, ha, hb, hi, hab, la, lb, hx⟩ := hc
        obtain ⟨b0, ws, ps, h1, h2, h3, h4⟩ := tree_at I e
        obtain ⟨us, k1, k2⟩ := fst_rows h3 eb
        obtain ⟨v, t1, t2⟩ := I.takeB e
        rw [h1] at t1
        cases t1
        have hl : ws.length = us.length := Paired.length k1
        have hlx : ws.length = xs.length := h3.len
        have ls : σ.length = ρ.length := I.len
        have old : TAt K B H (.ref b0) (.nd false xs) (b0 :: ps) := .nd (tp := false) h2 h3
        have fre : Fre B Fm H σ (ρ.set i .no) ps := fun q hq => t2.2 q (old.ft q (List.mem_cons_of_mem _ hq))
        refine ⟨_, h1, b0, rfl, ⟨ws, .inl (.inl h2)⟩, fun Dl hD => ?_⟩
        have nD : ∀ {q : Addr} {o : HO}, H q = some o → q ≠ Dl := fun h z => by
          rw [z, hD] at h
          cases h
        refine ⟨fun k m H' => m = ws.length - k ∧ k ≤ ws.length ∧ H' = upd H Dl (.lst (us.take k)), ⟨_, rfl, Nat.zero_le _, by rw [List.take_zero]⟩, ?_⟩
        rintro k m H' ⟨rfl, hk, rfl⟩
        have hq : SqL K (upd H Dl (.lst (us.take k))) b0 ws := .inl (.inl (by rw [upd_ne (nD h2)]; exact h2))
        by_cases hlt : k < ws.length
        · refine .inr ⟨⟨ws, ws[k], hq, List.getElem?_eq_getElem hlt⟩, fun H2 => H2 = upd H Dl (.lst (us.take (k + 1))), fun H2 e2 => ⟨ws.length - (k + 1), by omega, rfl, hlt, e2⟩, fun x H2 y => ?_⟩
          obtain ⟨rfl, hy⟩ := y
          have hy := hy ws hq
          obtain ⟨u, hu, c, w, rfl, hcu⟩ := paired_get k1 hy
          refine ⟨c, [u, w], rfl, .inl (.inl (by rw [upd_ne (nD hcu)]; exact hcu)), rfl, u, [w], rfl, w, [], rfl, rfl, ?_, ?_⟩
          · refine List.ext_getElem? fun j => ?_
            rw [wipe_get, wipe_get, List.length_set, List.length_set, wipe_length]
            by_cases hjv : j ∈ vs
            · rw [if_pos hjv, if_pos hjv]
            · rw [if_neg hjv, if_neg hjv, List.getElem?_set_ne (fun z => hjv (by rw [← z]; exact hb)), List.getElem?_set_ne (fun z => hjv (by rw [← z]; exact ha)), wipe_get, if_neg hjv]
          · refine ⟨u, ?_, us.take k, upd_same, ?_, ?_⟩
            · rw [List.getElem?_set_ne hab.symm, List.getElem?_set_self (by rw [wipe_length]; omega)]
            · exact sz_lt (by rw [List.length_take]; omega)
            · rw [upd_upd, List.take_add_one, hu]
              rfl
        · have ek : k = ws.length := by omega
          subst ek
          refine .inl ⟨⟨ws, hq, Nat.le_refl _⟩, ?_⟩
          rw [hl, List.take_length]
          have hH : ∀ {q : Addr} {o : HO}, H q = some o → (upd H Dl (.lst us)) q = some o := fun h => by
            rw [upd_ne (nD h)]
            exact h
          refine ⟨Dl, us, bs, RowAt (upd H Dl (.lst us)) ps, rfl, .inl (.inl upd_same), k2.mono fun x c ⟨d, r1, r2, r3⟩ => ⟨d, r1, hH r2, r3⟩, fun x c ⟨d, r1, r2, r3⟩ => ?_, fun zs q hz hq2 => ?_⟩
          · subst r1
            exact .lst (.inl (.inl r2)) (dp_ints c)
          · have hsn : (bs.mergeSort leLL).Nodup := (List.mergeSort_perm bs leLL).nodup_iff.mpr hn
            obtain ⟨qs, y1, y2, y3, y4⟩ := rows_tree (K := K) (B := B) hsn hz
            have I2 := (I.hide i).made (o := .lst us) hD
            have aD : Apart H σ (ρ.set i .no) Dl := ⟨fun j es g z => (by
              obtain ⟨c, ys, g1, g2, _⟩ := (I.hide i).own j es g
              rw [z] at g1
              cases g1
              rw [hD] at g2
              cases g2), fun j t w e e2 f => (by
              obtain ⟨v, m1, m2, _⟩ := (I.hide i).bs.bk j t e
              rw [e2] at m1
              cases m1
              exact Bd.live m2 f hD)⟩
            have f2 : Fre B Fm (upd H Dl (.lst us)) σ (ρ.set i .no) qs := fun r hr => by
              obtain ⟨z1, z2, z3⟩ := fre r (y3 r hr)
              exact ⟨z1, z2, apart_upd2 aD z3⟩
            exact p B _ _ (Same.refl B) (I2.made hq2) (made_tree (tp := false) I2 hq2 y1 y2 f2)
      · exact p.elim
    · exact p.elim
  · exact p.elim
end
end DL

/-! DL, part zv: a call whose last argument is given up to it (a tree) -/
namespace DL
open PySem PySem.Spec PyProof.Rows L2
section
variable {K : PySem.W.Frag} {ks : List Nat} {σ0 : L2.St} {Fm B B1 H H' : Hp} {σ : L2.St} {ρ : Env} {W : WX} {ta tb tc : TE} {fa fb fc : Env → R Rv}
theorem app_get {α : Type} {xs : List α} {x y : α} {i : Nat} (h : (xs ++ [x])[i]? = some y) : (i < xs.length ∧ xs[i]? = some y) ∨ (i = xs.length ∧ y = x) := by
  rcases Nat.lt_trichotomy i xs.length with z | z | z
  · rw [List.getElem?_append_left z] at h
    exact .inl ⟨z, h⟩
  · subst z
    rw [List.getElem?_append_right (Nat.le_refl _), Nat.sub_self] at h
    exact .inr ⟨rfl, (Option.some.inj h).symm⟩
  · rw [List.getElem?_eq_none (by rw [List.length_append, List.length_singleton]; omega)] at h
    cases h
theorem app_last {α : Type} {xs : List α} {x : α} : (xs ++ [x])[xs.length]? = some x := by
  rw [List.getElem?_append_right (Nat.le_refl _), Nat.sub_self]
  rfl
theorem IV.push {v : V} {t : Bd} (I : IV K ks σ0 Fm B H σ ρ) (h : vE K Fm σ B H ρ v (.bk t)) : IV K [] σ0 Fm B H (σ ++ [some v]) (ρ ++ [.bk t]) := by
  obtain ⟨hc, hf⟩ := h
  have hl := I.len
  have up : ∀ {i : Nat} {z : Option V}, i < ρ.length → (σ ++ [some v])[i]? = some z → σ[i]? = some z := fun {i z} hi e => by
    rw [List.getElem?_append_left (by omega)] at e
    exact e
  have dn : ∀ {i : Nat}, i < ρ.length → (σ ++ [some v])[i]? = σ[i]? := fun {i} hi => List.getElem?_append_left (by omega)
  have la : (σ ++ [some v])[ρ.length]? = some (some v) := by rw [← hl]; exact app_last
  refine ⟨I.ex, I.fr, I.fb, by rw [List.length_append, List.length_append, hl]; rfl, fun i d e => ?_, fun i ds e => ?_, fun i j ds es a n e1 e2 e3 e4 => ?_, fun j hj => (by cases hj), ⟨fun i u e => ?_, fun i j u ds w a e1 e2 e3 e4 => ?_, fun i j u u' w w' p n e1 e2 e3 e4 f1 f2 => ?_⟩⟩
  · rcases app_get e with ⟨q, e⟩ | ⟨q, z⟩
    · rw [dn q]
      exact I.im i d e
    · cases z
  · rcases app_get e with ⟨q, e⟩ | ⟨q, z⟩
    · rw [dn q]
      exact I.own i ds e
    · cases z
  · rcases app_get e1 with ⟨q, e1⟩ | ⟨q, z⟩
    · rcases app_get e2 with ⟨q2, e2⟩ | ⟨q2, z⟩
      · exact I.dj i j ds es a n e1 e2 (up q e3) (up q2 e4)
      · cases z
    · cases z
  · rcases app_get e with ⟨q, e⟩ | ⟨q, z⟩
    · rw [dn q]
      exact I.bs.bk i u e
    · cases z
      subst q
      exact ⟨v, la, hc, fun p f => ⟨(hf p f).1, (hf p f).2.1⟩⟩
  · rcases app_get e2 with ⟨q2, e2⟩ | ⟨q2, z⟩
    · rcases app_get e1 with ⟨q, e1⟩ | ⟨q, z⟩
      · exact I.bs.bo i j u ds w a e1 e2 (up q e3) (up q2 e4)
      · cases z
        subst q
        rw [la] at e3
        cases e3
        exact fun f => (hf a f).2.2.o j ds e2 (up q2 e4)
    · cases z
  · rcases app_get e1 with ⟨q, e1⟩ | ⟨q, z⟩
    · rcases app_get e2 with ⟨q2, e2⟩ | ⟨q2, z⟩
      · exact I.bs.bb i j u u' w w' p n e1 e2 (up q e3) (up q2 e4) f1 f2
      · cases z
        subst q2
        rw [la] at e4
        cases e4
        exact (hf p f2).2.2.b i u w e1 (up q e3) f1
    · cases z
      subst q
      rw [la] at e3
      cases e3
      rcases app_get e2 with ⟨q2, e2⟩ | ⟨q2, z⟩
      · exact (hf p f1).2.2.b j u' w' e2 (up q2 e4) f2
      · exact n q2.symm
theorem IV.pop {z : Option V} {ρ' : Env} (I : IV K [] σ0 Fm B H (σ ++ [z]) ρ') (hp : ∀ j ∈ ks, σ[j]? = σ0[j]?) : IV K ks σ0 Fm B H σ (ρ'.take σ.length) := by
  have hl := I.len
  rw [List.length_append, List.length_singleton] at hl
  have sub : ∀ {i : Nat} {x : Sl}, (ρ'.take σ.length)[i]? = some x → i < σ.length ∧ ρ'[i]? = some x := fun {i x} e => by
    rw [List.getElem?_take] at e
    split at e
    · rename_i q
      exact ⟨q, e⟩
    · cases e
  have dn : ∀ {i : Nat}, i < σ.length → (σ ++ [z])[i]? = σ[i]? := fun {i} hi => List.getElem?_append_left hi
  refine ⟨I.ex, I.fr, I.fb, by rw [List.length_take]; omega, fun i d e => ?_, fun i ds e => ?_, fun i j ds es a n e1 e2 e3 e4 => ?_, hp, ⟨fun i u e => ?_, fun i j u ds w a e1 e2 e3 e4 => ?_, fun i j u u' w w' p n e1 e2 e3 e4 f1 f2 => ?_⟩⟩
  · obtain ⟨q, e⟩ := sub e
    rw [← dn q]
    exact I.im i d e
  · obtain ⟨q, e⟩ := sub e
    rw [← dn q]
    exact I.own i ds e
  · obtain ⟨q, e1⟩ := sub e1
    obtain ⟨q2, e2⟩ := sub e2
    exact I.dj i j ds es a n e1 e2 ((dn q).trans e3) ((dn q2).trans e4)
  · obtain ⟨q, e⟩ := sub e
    rw [← dn q]
    exact I.bs.bk i u e
  · obtain ⟨q, e1⟩ := sub e1
    obtain ⟨q2, e2⟩ := sub e2
    exact I.bs.bo i j u ds w a e1 e2 ((dn q).trans e3) ((dn q2).trans e4)
  · obtain ⟨q, e1⟩ := sub e1
    obtain ⟨q2, e2⟩ := sub e2
    exact I.bs.bb i j u u' w w' p n e1 e2 ((dn q).trans e3) ((dn q2).trans e4) f1 f2
theorem Apart.pop {z : Option V} {ρ' : Env} {a : Addr} (h : Apart H (σ ++ [z]) ρ' a) : Apart H σ (ρ'.take σ.length) a := by
  have sub : ∀ {i : Nat} {x : Sl}, (ρ'.take σ.length)[i]? = some x → i < σ.length ∧ ρ'[i]? = some x := fun {i x} e => by
    rw [List.getElem?_take] at e
    split at e
    · rename_i q
      exact ⟨q, e⟩
    · cases e
  refine ⟨fun i es e k => ?_, fun i t w e k => ?_⟩
  · obtain ⟨q, e⟩ := sub e
    exact h.o i es e ((List.getElem?_append_left q).trans k)
  · obtain ⟨q, e⟩ := sub e
    exact h.b i t w e ((List.getElem?_append_left q).trans k)
theorem vE_pop {z : Option V} {ρ' : Env} {v : V} {rv : Rv} (h : vE K Fm (σ ++ [z]) B H ρ' v rv) : vE K Fm σ B H (ρ'.take σ.length) v rv := by
  cases rv with
  | im d => exact h
  | own ds =>
    obtain ⟨a, xs, h1, h2, h3, h4, h5, h6⟩ := h
    exact ⟨a, xs, h1, h2, h3, h4, h5, h6.pop⟩
  | bk t => exact ⟨h.1, fun p f => ⟨(h.2 p f).1, (h.2 p f).2.1, (h.2 p f).2.2.pop⟩⟩
def cutR (n : Nat) (r : R Rv) : R Rv :=
  match r with
  | .ok rv ρ => .ok rv (ρ.take n)
  | .exc C d ρ => .exc C d (ρ.take n)
  | .bad => .bad
def callMK (F : Env → R Rv) (a b : D) (o : Option Tr) (ρ : Env) : R Rv :=
  match o with
  | some (.nd tp xs) => cutR ρ.length (doCall 3 F [.im a, .im b, .sl ρ.length] (ρ ++ [.bk (.tree tp xs)]))
  | _ => .bad
def eCallM (F : Env → R Rv) (fa fb fc : Env → R Rv) : Env → R Rv := fun ρ => (fa ρ).bind fun a ρ => (fb ρ).bind fun b ρ => (fc ρ).bind fun c ρ => callMK F a.d b.d (toTr c) ρ
theorem x_callM {F : Env → R Rv} {fa fb fc : Env → R Rv} {ρ : Env} : eCallM F fa fb fc ρ = (fa ρ).bind fun a ρ => (fb ρ).bind fun b ρ => (fc ρ).bind fun c ρ => callMK F a.d b.d (toTr c) ρ := (rfl)
theorem x_callMK {F : Env → R Rv} {a b : D} {tp : Bool} {xs : List Tr} {ρ : Env} {rv : Rv} {s0 s1 s2 : Sl} (h : F [.im a, .im b, .bk (.tree tp xs)] = .ok rv [s0, s1, s2]) : callMK F a b (some (.nd tp xs)) ρ = .ok rv ρ := by
  show cutR ρ.length (doCall 3 F [.im a, .im b, .sl ρ.length] (ρ ++ [.bk (.tree tp xs)])) = _
  unfold doCall
  rw [if_pos ⟨rfl, by simp [slots]⟩]
  have e : argsOf (ρ ++ [.bk (.tree tp xs)]) [.im a, .im b, .sl ρ.length] = some [.im a, .im b, .bk (.tree tp xs)] := by
    simp [argsOf]
  simp only [e]
  show cutR ρ.length (backTo1 _ _ (F [.im a, .im b, .bk (.tree tp xs)])) = _
  rw [h]
  show R.ok rv (((ρ ++ [Sl.bk (.tree tp xs)]).set ρ.length s2).take ρ.length) = _
  rw [List.take_set_of_le (Nat.le_refl _), List.take_left]
theorem de_callM {F : Env → R Rv} (ha : DE K W ta fa) (hb : DE K W tb fb) (hc : DE K W tc fc) : DE K W (tCallS (spD K 3 F) (WE W) (tCons ta (tCons tb (tCons tc tNil)))) (eCallM F fa fb fc) := fun ks σ0 Fm B H σ ρ Q I p =>
  ha ks σ0 Fm B H σ ρ _ I (PtG.step p fun x ρ1 B1 H1 v s1 I1 v1 p1 => by
    obtain ⟨B2, s2, I2, i2⟩ := freeze I1 v1
    refine hb ks σ0 Fm B2 H1 σ ρ1 _ I2 (PtG.step (p1.mono s2) fun y ρ3 B3 H3 w s3 I3 v3 p3 => ?_)
    obtain ⟨B4, s4, I4, i4⟩ := freeze I3 v3
    refine hc ks σ0 Fm B4 H3 σ ρ3 _ I4 (PtG.step (p3.mono s4) fun c ρ5 B5 H5 u s5 I5 v5 p5 => ?_)
    have p5 : PtG K ks σ0 Fm W (vE K Fm σ) B5 σ Q (callMK F x.d y.d (toTr c) ρ5) := p5
    cases et : toTr c with
    | none => rw [et] at p5; exact p5.elim
    | some t =>
      rw [et] at p5
      cases t with
      | im d => exact p5.elim
      | nd tp xs =>
        have p5 : PtG K ks σ0 Fm W (vE K Fm σ) B5 σ Q (cutR ρ5.length (doCall 3 F [.im x.d, .im y.d, .sl ρ5.length] (ρ5 ++ [.bk (.tree tp xs)]))) := p5
        have IP := I5.push (tr_bk v5 et)
        have hl := I5.len
        refine call_core (W := fun c d _ H' => W c d σ H') (σ := σ ++ [some u]) (avs := [.im x.d, .im y.d, .sl ρ5.length]) IP (.cons (i2.mono ((s3.trans s4).trans s5)) (.cons (i4.mono s5) (.cons (show (σ ++ [some u])[ρ5.length]? = some (some u) by rw [← hl]; exact app_last) .nil))) ?_ fun _ _ _ _ h => h
        cases q : doCall 3 F [.im x.d, .im y.d, .sl ρ5.length] (ρ5 ++ [.bk (.tree tp xs)]) with
        | ok rv ρ' =>
          rw [q] at p5
          intro B' H' b s I' k
          have := p5 B' H' b s (by rw [← hl]; exact I'.pop I5.pin) (by rw [← hl]; exact vE_pop k)
          exact this
        | exc C d ρ' =>
          rw [q] at p5
          intro B' H' dx s I' k
          exact p5 B' H' dx s (by rw [← hl]; exact I'.pop I5.pin) k
        | bad =>
          rw [q] at p5
          exact p5.elim)
end
end DL

namespace Law
open PySem PySem.Spec PyProof.Rows L2 DL
def topS (i : Nat) : Stmt := PySem.Challenge.pw_tillpress_k56_orders_told.main.body.getD i (.Pass ⟨0, 0, 0, 0⟩)
abbrev s_is_whole : Stmt := topS 8
abbrev s_worth_of : Stmt := topS 26
abbrev s__pressed : Stmt := topS 37
abbrev s__law_deck : Stmt := topS 39
abbrev s__law_draw : Stmt := topS 40
abbrev s__law_worth : Stmt := topS 42
abbrev s__law_orders : Stmt := topS 47
abbrev s_are_counts : Stmt := topS 9
abbrev s__law_metal : Stmt := topS 41
abbrev s__law_guest : Stmt := topS 43
abbrev s__law_paid_out : Stmt := topS 44
abbrev s__law_poor_box : Stmt := topS 50
abbrev s_are_coins : Stmt := topS 14
abbrev s_are_for_each : Stmt := topS 16
abbrev s__law_paid_out_all : Stmt := topS 45
abbrev s__law_folk : Stmt := topS 46
abbrev s_check_coins : Stmt := topS 15
abbrev s__are_paid : Stmt := topS 24
abbrev s__law_due : Stmt := topS 49
abbrev s_is_till : Stmt := topS 17
abbrev s_is_customer : Stmt := topS 23
abbrev s_check_till : Stmt := topS 18
abbrev s_check_customer : Stmt := topS 25
abbrev s_is_day : Stmt := topS 31
abbrev s_levels_of : Stmt := topS 19
abbrev s_change_of : Stmt := topS 27
abbrev s_check_day : Stmt := topS 32
abbrev s_adds : Stmt := topS 28
abbrev s__law_same : Stmt := topS 48
abbrev s__first_order : Stmt := topS 36
abbrev s_order_for : Stmt := topS 35
abbrev s_law : Stmt := topS 51
theorem sc_is_whole : FnScope ["thing"] ["thing"] (defScope s_is_whole) := ⟨rfl, rfl, rfl, by decide +kernel, rfl, by decide +kernel, by decide +kernel⟩
theorem sc_worth_of : FnScope ["coins", "counts", "coin", "many"] ["coins", "counts"] (defScope s_worth_of) := ⟨rfl, rfl, rfl, by decide +kernel, rfl, by decide +kernel, by decide +kernel⟩
theorem sc__pressed : FnScope ["levels", "row", "added", "level", "e", "k"] ["levels", "row"] (defScope s__pressed) := ⟨rfl, rfl, rfl, by decide +kernel, rfl, by decide +kernel, by decide +kernel⟩
theorem sc__law_deck : FnScope ["script", "pools", "k", "cell"] ["script"] (defScope s__law_deck) := ⟨rfl, rfl, rfl, by decide +kernel, rfl, by decide +kernel, by decide +kernel⟩
theorem sc__law_draw : FnScope ["deck", "many", "pool", "found", "mixed"] ["deck", "many"] (defScope s__law_draw) := ⟨rfl, rfl, rfl, by decide +kernel, rfl, by decide +kernel, by decide +kernel⟩
theorem sc__law_worth : FnScope ["metal", "counts", "coin", "many"] ["metal", "counts"] (defScope s__law_worth) := ⟨rfl, rfl, rfl, by decide +kernel, rfl, by decide +kernel, by decide +kernel⟩
theorem sc__law_orders : FnScope ["many", "found", "k", "longer", "some", "place"] ["many"] (defScope s__law_orders) := ⟨rfl, rfl, rfl, by decide +kernel, rfl, by decide +kernel, by decide +kernel⟩
theorem sc_are_counts : FnScope ["thing", "number"] ["thing"] (defScope s_are_counts) := ⟨rfl, rfl, rfl, by decide +kernel, rfl, by decide +kernel, by decide +kernel⟩
theorem sc__law_metal : FnScope ["deck", "found", "k", "most", "wide"] ["deck"] (defScope s__law_metal) := ⟨rfl, rfl, rfl, by decide +kernel, rfl, by decide +kernel, by decide +kernel⟩
theorem sc__law_guest : FnScope ["deck", "metal", "wide", "paid", "coin", "most", "price"] ["deck", "metal"] (defScope s__law_guest) := ⟨rfl, rfl, rfl, by decide +kernel, rfl, by decide +kernel, by decide +kernel⟩
theorem sc__law_paid_out : FnScope ["metal", "box", "guest", "price", "paid", "left", "found", "one", "two", "k", "many"] ["metal", "box", "guest"] (defScope s__law_paid_out) := ⟨rfl, rfl, rfl, by decide +kernel, rfl, by decide +kernel, by decide +kernel⟩
theorem sc__law_poor_box : FnScope ["deck", "many", "k"] ["deck", "many"] (defScope s__law_poor_box) := ⟨rfl, rfl, rfl, by decide +kernel, rfl, by decide +kernel, by decide +kernel⟩
theorem sc_are_coins : FnScope ["thing", "k"] ["thing"] (defScope s_are_coins) := ⟨rfl, rfl, rfl, by decide +kernel, rfl, by decide +kernel, by decide +kernel⟩
theorem sc_are_for_each : FnScope ["coins", "thing"] ["coins", "thing"] (defScope s_are_for_each) := ⟨rfl, rfl, rfl, by decide +kernel, rfl, by decide +kernel, by decide +kernel⟩
theorem sc__law_paid_out_all : FnScope ["metal", "box", "guests", "guest"] ["metal", "box", "guests"] (defScope s__law_paid_out_all) := ⟨rfl, rfl, rfl, by decide +kernel, rfl, by decide +kernel, by decide +kernel⟩
theorem sc__law_folk : FnScope ["deck", "metal", "most", "found", "k", "again"] ["deck", "metal", "most"] (defScope s__law_folk) := ⟨rfl, rfl, rfl, by decide +kernel, rfl, by decide +kernel, by decide +kernel⟩
theorem sc_check_coins : FnScope ["thing"] ["thing"] (defScope s_check_coins) := ⟨rfl, rfl, rfl, by decide +kernel, rfl, by decide +kernel, by decide +kernel⟩
theorem sc__are_paid : FnScope ["coins", "thing"] ["coins", "thing"] (defScope s__are_paid) := ⟨rfl, rfl, rfl, by decide +kernel, rfl, by decide +kernel, by decide +kernel⟩
theorem sc__law_due : FnScope ["metal", "box", "folk", "places", "place"] ["metal", "box", "folk"] (defScope s__law_due) := ⟨rfl, rfl, rfl, by decide +kernel, rfl, by decide +kernel, by decide +kernel⟩
theorem sc_is_till : FnScope ["coins", "thing"] ["coins", "thing"] (defScope s_is_till) := ⟨rfl, rfl, rfl, by decide +kernel, rfl, by decide +kernel, by decide +kernel⟩
theorem sc_is_customer : FnScope ["coins", "thing", "price", "paid"] ["coins", "thing"] (defScope s_is_customer) := ⟨rfl, rfl, rfl, by decide +kernel, rfl, by decide +kernel, by decide +kernel⟩
theorem sc_check_till : FnScope ["coins", "thing"] ["coins", "thing"] (defScope s_check_till) := ⟨rfl, rfl, rfl, by decide +kernel, rfl, by decide +kernel, by decide +kernel⟩
theorem sc_check_customer : FnScope ["coins", "thing"] ["coins", "thing"] (defScope s_check_customer) := ⟨rfl, rfl, rfl, by decide +kernel, rfl, by decide +kernel, by decide +kernel⟩
theorem sc_is_day : FnScope ["coins", "thing", "customer"] ["coins", "thing"] (defScope s_is_day) := ⟨rfl, rfl, rfl, by decide +kernel, rfl, by decide +kernel, by decide +kernel⟩
theorem sc_levels_of : FnScope ["coins", "till", "levels", "worth", "coin", "many"] ["coins", "till"] (defScope s_levels_of) := ⟨rfl, rfl, rfl, by decide +kernel, rfl, by decide +kernel, by decide +kernel⟩
theorem sc_change_of : FnScope ["coins", "customer", "price", "paid"] ["coins", "customer"] (defScope s_change_of) := ⟨rfl, rfl, rfl, by decide +kernel, rfl, by decide +kernel, by decide +kernel⟩
theorem sc_check_day : FnScope ["coins", "thing"] ["coins", "thing"] (defScope s_check_day) := ⟨rfl, rfl, rfl, by decide +kernel, rfl, by decide +kernel, by decide +kernel⟩
theorem sc_adds : FnScope ["coins", "customer", "change", "price", "paid", "row", "worth", "k"] ["coins", "customer"] (defScope s_adds) := ⟨rfl, rfl, rfl, by decide +kernel, rfl, by decide +kernel, by decide +kernel⟩
theorem sc__law_same : FnScope ["found", "due", "one", "two"] ["found", "due"] (defScope s__law_same) := ⟨rfl, rfl, rfl, by decide +kernel, rfl, by decide +kernel, by decide +kernel⟩
theorem sc__first_order : FnScope ["rows", "levels", "begun", "place", "pressed", "found"] ["rows", "levels", "begun"] (defScope s__first_order) := ⟨rfl, rfl, rfl, by decide +kernel, rfl, by decide +kernel, by decide +kernel⟩
theorem sc_order_for : FnScope ["coins", "till", "day", "rows", "customer"] ["coins", "till", "day"] (defScope s_order_for) := ⟨rfl, rfl, rfl, by decide +kernel, rfl, by decide +kernel, by decide +kernel⟩
theorem sc_law : FnScope ["script", "deck", "turn", "metal", "box", "folk", "due", "kept", "told", "again"] ["script"] (defScope s_law) := ⟨rfl, rfl, rfl, by decide +kernel, rfl, by decide +kernel, by decide +kernel⟩
def g_is_whole : DL.Env → Out :=
    (sRet (eAnd (eCB bIsi (aCons (eVar 0) (aCons (eC (.ty "int")) aNil))) (eNot (eCB bIsi (aCons (eVar 0) (aCons (eC (.ty "bool")) aNil))))))
def F_is_whole : DL.Env → R Rv := runDef 1 [] g_is_whole
def g_worth_of : DL.Env → Out :=
    (sRet (eCB bSum (aCons (eComp [2, 3] (iZipD (aCons (eVar 0) (aCons (eVar 1) aNil))) (tgTup [(tgName 2), (tgName 3)]) tYesD (eOp opMul (eVar 2) (eVar 3))) aNil)))
def F_worth_of : DL.Env → R Rv := runDef 4 [] g_worth_of
def g__pressed : DL.Env → Out :=
    (sSeq (sSet 2 (eComp [3, 4] (iZipD (aCons (eVar 0) (aCons (eVar 1) aNil))) (tgTup [(tgName 3), (tgName 4)]) tYesD (eOp opAdd (eVar 3) (eVar 4))))
      (sRet (eComp [5] (iRng1D (aCons (eCB bLen (aCons (eVar 2) aNil)) aNil)) (tgName 5) tYesD (eCB bMin1 (aCons (eSl (eVar 2) (oSome (eVar 5)) oNone) aNil)))))
def F__pressed : DL.Env → R Rv := runDef 6 [] g__pressed
def g__law_deck : DL.Env → Out :=
    (sSeq (sSetP 1 (eLst aNil))
      (sSeq (sFor (iRng1D (aCons (eCB bMax2 (aCons (eC (.int 1)) (aCons (eCB bMin2 (aCons (eC (.int 63)) (aCons (eCB bLen (aCons (eVar 0) aNil)) aNil))) aNil))) aNil)) (tgName 2)
      (sSeq (sSet 3 (eC (.int 0)))
      (sSeq (sIf (tOf (eOp cLt (eVar 2) (eCB bLen (aCons (eVar 0) aNil)))) (sSet 3 (eOp ixD (eVar 0) (eVar 2))) sNext)
      (sAppP 1 (eLst (aCons (eVar 3) (aCons (eCB bInt (aCons (eOp cGe (eVar 3) (eOp opPow (eC (.int 10)) (eC (.int 18)))) aNil)) (aCons (eOp opMul (eC (.int 41)) (eVar 2)) aNil))))))))
      (sRet (eDeck 1))))
def F__law_deck : DL.Env → R Rv := runDef 4 [] g__law_deck
def g__law_draw : DL.Env → Out :=
    DL.g_draw
def F__law_draw : DL.Env → R Rv := runDef 5 [0] g__law_draw
def g__law_worth : DL.Env → Out :=
    (sRet (eCB bSum (aCons (eComp [2, 3] (iZipD (aCons (eVar 0) (aCons (eVar 1) aNil))) (tgTup [(tgName 2), (tgName 3)]) tYesD (eOp opMul (eVar 2) (eVar 3))) aNil)))
def F__law_worth : DL.Env → R Rv := runDef 4 [] g__law_worth
def g__law_orders : DL.Env → Out :=
    (sSeq (sSet 1 (eLst (aCons (eLst aNil) aNil)))
      (sSeq (sFor (iRng1D (aCons (eVar 0) aNil)) (tgName 2)
      (sSeq (sSetO 3 (eLst aNil))
      (sSeq (sFor (iListD (eVar 1)) (tgName 4)
      (sExt 3 (eComp [5] (iRng1D (aCons (eVar 0) aNil)) (tgName 5) (tOf (eOp cNotIn (eVar 5) (eVar 4))) (eOp opAdd (eVar 4) (eLst (aCons (eVar 5) aNil))))))
      (sSet 1 (eMove 3)))))
      (sRet (eVar 1))))
def F__law_orders : DL.Env → R Rv := runDef 6 [] g__law_orders
def g_are_counts : DL.Env → Out :=
    (sSeq (sIf (tNotD (tOf (eCB bIsi (aCons (eVar 0) (aCons (eC (.ty "list")) aNil))))) (sRet (eC (.bl false))) sNext)
      (sSeq (sFor (iListD (eVar 0)) (tgName 1)
      (sIf (tOrD (tNotD (tOf (eCall 1 F_is_whole (aCons (eVar 1) aNil)))) (tOf (eOp cLt (eVar 1) (eC (.int 0))))) (sRet (eC (.bl false))) sNext))
      (sRet (eC (.bl true)))))
def F_are_counts : DL.Env → R Rv := runDef 2 [] g_are_counts
def g__law_metal : DL.Env → Out :=
    (sSeq (sSetO 1 (eLst (aCons (eC (.int 1)) aNil)))
      (sSeq (sFor (iRng1D (aCons (eOp opAdd (eC (.int 1)) (eCall 2 F__law_draw (aSlot 0 (aCons (eC (.int 4)) aNil)))) aNil)) (tgName 2)
      (sSeq (sSet 3 (eOp opSub (eOp opDiv (eC (.int 100000)) (eIxO 1 (eUn opNeg (eC (.int 1))))) (eC (.int 1))))
      (sIf (tOf (eOp cGt (eVar 3) (eC (.int 0)))) (sSeq (sSet 4 (eCB bMin2 (aCons (eVar 3) (aCons (eOp ixD (eLst (aCons (eC (.int 1)) (aCons (eC (.int 4)) (aCons (eC (.int 11)) (aCons (eVar 3) aNil))))) (eCall 2 F__law_draw (aSlot 0 (aCons (eC (.int 4)) aNil)))) aNil))))
      (sApp 1 (eOp opMul (eIxO 1 (eUn opNeg (eC (.int 1)))) (eOp opAdd (eC (.int 2)) (eCall 2 F__law_draw (aSlot 0 (aCons (eVar 4) aNil))))))) sNext)))
      (sRet (eMove 1))))
def F__law_metal : DL.Env → R Rv := runDef 5 [0] g__law_metal
def g__law_guest : DL.Env → Out :=
    (sSeq (sSet 2 (eOp ixD (eLst (aCons (eC (.int 2)) (aCons (eC (.int 4)) (aCons (eC (.int 12)) (aCons (eOp opAdd (eOp opPow (eC (.int 10)) (eC (.int 6))) (eC (.int 1))) aNil))))) (eCall 2 F__law_draw (aSlot 0 (aCons (eC (.int 4)) aNil)))))
      (sSeq (sSet 3 (eComp [4] (iListD (eVar 1)) (tgName 4) tYesD (eOp opMul (eCall0 2 F__law_draw (aSlot 0 (aCons (eVar 2) aNil))) (eCB bMin2 (aCons (eC (.int 1)) (aCons (eCall0 2 F__law_draw (aSlot 0 (aCons (eC (.int 3)) aNil))) aNil))))))
      (sSeq (sSet 5 (eCB bMin2 (aCons (eCall 2 F__law_worth (aCons (eVar 1) (aCons (eVar 3) aNil))) (aCons (eOp opPow (eC (.int 10)) (eC (.int 9))) aNil))))
      (sSeq (sSet 6 (eOp ixD (eLst (aCons (eVar 5) (aCons (eC (.int 0)) (aCons (eCall 2 F__law_draw (aSlot 0 (aCons (eOp opAdd (eVar 5) (eC (.int 1))) aNil))) (aCons (eCB bMax2 (aCons (eC (.int 0)) (aCons (eOp opSub (eVar 5) (eCall 2 F__law_draw (aSlot 0 (aCons (eOp ixD (eVar 1) (eC (.int 1))) aNil)))) aNil))) aNil))))) (eCall 2 F__law_draw (aSlot 0 (aCons (eC (.int 4)) aNil)))))
      (sRet (eTup (aCons (eVar 6) (aCons (eVar 3) aNil))))))))
def F__law_guest : DL.Env → R Rv := runDef 7 [0] g__law_guest
def g__law_paid_out : DL.Env → Out :=
    (sSeq (sAsg (tgTup [(tgName 3), (tgName 4)]) (eVar 2))
      (sSeq (sSet 5 (eOp opSub (eCall 2 F__law_worth (aCons (eVar 0) (aCons (eVar 4) aNil))) (eVar 3)))
      (sSeq (sSetO 6 (eComp [7, 8] (iZipD (aCons (eVar 1) (aCons (eVar 4) aNil))) (tgTup [(tgName 7), (tgName 8)]) tYesD (eOp opAdd (eVar 7) (eVar 8))))
      (sSeq (sFor (iRng3D (aCons (eOp opSub (eCB bLen (aCons (eVar 0) aNil)) (eC (.int 1))) (aCons (eUn opNeg (eC (.int 1))) (aCons (eUn opNeg (eC (.int 1))) aNil)))) (tgName 9)
      (sSeq (sSet 10 (eCB bMin2 (aCons (eIxO 6 (eVar 9)) (aCons (eOp opDiv (eVar 5) (eOp ixD (eVar 0) (eVar 9))) aNil))))
      (sSeq (sSetIx 6 (eVar 9) (eOp opSub (eIxO 6 (eVar 9)) (eVar 10)))
      (sSet 5 (eOp opSub (eVar 5) (eOp opMul (eVar 10) (eOp ixD (eVar 0) (eVar 9))))))))
      (sRet (eIf (tOf (eOp cEq (eVar 5) (eC (.int 0)))) (eVar 6) (eC .non)))))))
def F__law_paid_out : DL.Env → R Rv := runDef 11 [] g__law_paid_out
def g__law_poor_box : DL.Env → Out :=
    (sRet (eComp [2] (iRng1D (aCons (eVar 1) aNil)) (tgName 2) tYesD (eOp opMul (eCall0 2 F__law_draw (aSlot 0 (aCons (eC (.int 4)) aNil))) (eCB bMin2 (aCons (eC (.int 1)) (aCons (eCall0 2 F__law_draw (aSlot 0 (aCons (eC (.int 2)) aNil))) aNil))))))
def F__law_poor_box : DL.Env → R Rv := runDef 3 [0] g__law_poor_box
def g_are_coins : DL.Env → Out :=
    (sSeq (sIf (tOrD (tNotD (tOf (eCall 1 F_are_counts (aCons (eVar 0) aNil)))) (tNotD (tOf (eChain cLe cLe (eC (.int 2)) (eCB bLen (aCons (eVar 0) aNil)) (eC (.int 5)))))) (sRet (eC (.bl false))) sNext)
      (sSeq (sIf (tOrD (tOf (eOp cNe (eOp ixD (eVar 0) (eC (.int 0))) (eC (.int 1)))) (tOf (eOp cGt (eOp ixD (eVar 0) (eUn opNeg (eC (.int 1)))) (eC (.int 100000))))) (sRet (eC (.bl false))) sNext)
      (sSeq (sFor (iRng2D (aCons (eC (.int 1)) (aCons (eCB bLen (aCons (eVar 0) aNil)) aNil))) (tgName 1)
      (sIf (tOrD (tOf (eOp cLe (eOp ixD (eVar 0) (eVar 1)) (eOp ixD (eVar 0) (eOp opSub (eVar 1) (eC (.int 1)))))) (tOf (eOp cNe (eOp opMod (eOp ixD (eVar 0) (eVar 1)) (eOp ixD (eVar 0) (eOp opSub (eVar 1) (eC (.int 1))))) (eC (.int 0))))) (sRet (eC (.bl false))) sNext))
      (sRet (eC (.bl true))))))
def F_are_coins : DL.Env → R Rv := runDef 2 [] g_are_coins
def g_are_for_each : DL.Env → Out :=
    (sRet (eAnd (eCall 1 F_are_counts (aCons (eVar 1) aNil)) (eOp cEq (eCB bLen (aCons (eVar 1) aNil)) (eCB bLen (aCons (eVar 0) aNil)))))
def F_are_for_each : DL.Env → R Rv := runDef 2 [] g_are_for_each
def g__law_paid_out_all : DL.Env → Out :=
    (sSeq (sFor (iListD (eVar 2)) (tgName 3)
      (sIf (tOf (eOp cIsNotN (eVar 1) (eC .non))) (sSet 1 (eCall 3 F__law_paid_out (aCons (eVar 0) (aCons (eVar 1) (aCons (eVar 3) aNil))))) sNext))
      (sRet (eVar 1)))
def F__law_paid_out_all : DL.Env → R Rv := runDef 4 [] g__law_paid_out_all
def g__law_folk : DL.Env → Out :=
    (sSeq (sSetO 3 (eLst aNil))
      (sSeq (sFor (iRng1D (aCons (eCall 2 F__law_draw (aSlot 0 (aCons (eOp opAdd (eVar 2) (eC (.int 1))) aNil))) aNil)) (tgName 4)
      (sSeq (sSet 5 (eAnd (eLent (eOp cNe (eVar 3) (eLst aNil))) (eOp cEq (eCall 2 F__law_draw (aSlot 0 (aCons (eC (.int 4)) aNil))) (eC (.int 0)))))
      (sApp 3 (eIf (tOf (eVar 5)) (eIxO 3 (eCall 2 F__law_draw (aSlot 0 (aCons (eLenO 3) aNil)))) (eCall 2 F__law_guest (aSlot 0 (aCons (eVar 1) aNil)))))))
      (sRet (eMove 3))))
def F__law_folk : DL.Env → R Rv := runDef 6 [0] g__law_folk
def g_check_coins : DL.Env → Out :=
    (sIf (tNotD (tOf (eCall 1 F_are_coins (aCons (eVar 0) aNil)))) sNever sNext)
def F_check_coins : DL.Env → R Rv := runDef 1 [] g_check_coins
def g__are_paid : DL.Env → Out :=
    (sRet (eAnd (eCall 2 F_are_for_each (aCons (eVar 0) (aCons (eVar 1) aNil))) (eOp cLe (eCB bMax1 (aCons (eVar 1) aNil)) (eC (.int 1000000)))))
def F__are_paid : DL.Env → R Rv := runDef 2 [] g__are_paid
def g__law_due : DL.Env → Out :=
    (sSeq (sFor (iListD (eCall 1 F__law_orders (aCons (eCB bLen (aCons (eVar 2) aNil)) aNil))) (tgName 3)
      (sIf (tOf (eOp cIsNotN (eCall 3 F__law_paid_out_all (aCons (eVar 0) (aCons (eVar 1) (aCons (eComp [4] (iListD (eVar 3)) (tgName 4) tYesD (eOp ixD (eVar 2) (eVar 4))) aNil)))) (eC .non))) (sRet (eVar 3)) sNext))
      (sRet (eC .non)))
def F__law_due : DL.Env → R Rv := runDef 5 [] g__law_due
def g_is_till : DL.Env → Out :=
    (sSeq (sDrop (eCall 1 F_check_coins (aCons (eVar 0) aNil)))
      (sRet (eCall 2 F_are_for_each (aCons (eVar 0) (aCons (eVar 1) aNil)))))
def F_is_till : DL.Env → R Rv := runDef 2 [] g_is_till
def g_is_customer : DL.Env → Out :=
    (sSeq (sDrop (eCall 1 F_check_coins (aCons (eVar 0) aNil)))
      (sSeq (sIf (tOrD (tNotD (tOf (eCB bIsi (aCons (eVar 1) (aCons (eC (.ty "tuple")) aNil))))) (tOf (eOp cNe (eCB bLen (aCons (eVar 1) aNil)) (eC (.int 2))))) (sRet (eC (.bl false))) sNext)
      (sSeq (sAsg (tgTup [(tgName 2), (tgName 3)]) (eVar 1))
      (sSeq (sIf (tOrD (tNotD (tOf (eCall 1 F_is_whole (aCons (eVar 2) aNil)))) (tNotD (tOf (eChain cLe cLe (eC (.int 0)) (eVar 2) (eC (.int 1000000000)))))) (sRet (eC (.bl false))) sNext)
      (sRet (eAnd (eCall 2 F__are_paid (aCons (eVar 0) (aCons (eVar 3) aNil))) (eOp cGe (eCall 2 F_worth_of (aCons (eVar 0) (aCons (eVar 3) aNil))) (eVar 2))))))))
def F_is_customer : DL.Env → R Rv := runDef 4 [] g_is_customer
def g_check_till : DL.Env → Out :=
    (sIf (tNotD (tOf (eCall 2 F_is_till (aCons (eVar 0) (aCons (eVar 1) aNil))))) sNever sNext)
def F_check_till : DL.Env → R Rv := runDef 2 [] g_check_till
def g_check_customer : DL.Env → Out :=
    (sIf (tNotD (tOf (eCall 2 F_is_customer (aCons (eVar 0) (aCons (eVar 1) aNil))))) sNever sNext)
def F_check_customer : DL.Env → R Rv := runDef 2 [] g_check_customer
def g_is_day : DL.Env → Out :=
    (sSeq (sDrop (eCall 1 F_check_coins (aCons (eVar 0) aNil)))
      (sSeq (sIf (tOrD (tNotD (tOf (eCB bIsi (aCons (eVar 1) (aCons (eC (.ty "list")) aNil))))) (tOf (eOp cGt (eCB bLen (aCons (eVar 1) aNil)) (eC (.int 40))))) (sRet (eC (.bl false))) sNext)
      (sSeq (sFor (iListD (eVar 1)) (tgName 2)
      (sIf (tNotD (tOf (eCall 2 F_is_customer (aCons (eVar 0) (aCons (eVar 2) aNil))))) (sRet (eC (.bl false))) sNext))
      (sRet (eC (.bl true))))))
def F_is_day : DL.Env → R Rv := runDef 3 [] g_is_day
def g_levels_of : DL.Env → Out :=
    (sSeq (sDrop (eCall 2 F_check_till (aCons (eVar 0) (aCons (eVar 1) aNil))))
      (sSeq (sSetO 2 (eLst aNil))
      (sSeq (sSet 3 (eC (.int 0)))
      (sSeq (sFor (iZipD (aCons (eVar 0) (aCons (eVar 1) aNil))) (tgTup [(tgName 4), (tgName 5)])
      (sSeq (sSet 3 (eOp opAdd (eVar 3) (eOp opMul (eVar 4) (eVar 5))))
      (sApp 2 (eVar 3))))
      (sRet (eMove 2))))))
def F_levels_of : DL.Env → R Rv := runDef 6 [] g_levels_of
def g_change_of : DL.Env → Out :=
    (sSeq (sDrop (eCall 2 F_check_customer (aCons (eVar 0) (aCons (eVar 1) aNil))))
      (sSeq (sAsg (tgTup [(tgName 2), (tgName 3)]) (eVar 1))
      (sRet (eOp opSub (eCall 2 F_worth_of (aCons (eVar 0) (aCons (eVar 3) aNil))) (eVar 2)))))
def F_change_of : DL.Env → R Rv := runDef 4 [] g_change_of
def g_check_day : DL.Env → Out :=
    (sIf (tNotD (tOf (eCall 2 F_is_day (aCons (eVar 0) (aCons (eVar 1) aNil))))) sNever sNext)
def F_check_day : DL.Env → R Rv := runDef 2 [] g_check_day
def g_adds : DL.Env → Out :=
    (sSeq (sSet 2 (eCall 2 F_change_of (aCons (eVar 0) (aCons (eVar 1) aNil))))
      (sSeq (sAsg (tgTup [(tgName 3), (tgName 4)]) (eVar 1))
      (sSeq (sSetO 5 (eLst aNil))
      (sSeq (sSet 6 (eC (.int 0)))
      (sSeq (sFor (iRng1D (aCons (eOp opSub (eCB bLen (aCons (eVar 0) aNil)) (eC (.int 1))) aNil)) (tgName 7)
      (sSeq (sSet 6 (eOp opAdd (eVar 6) (eOp opMul (eOp ixD (eVar 0) (eVar 7)) (eOp ixD (eVar 4) (eVar 7)))))
      (sApp 5 (eOp opSub (eVar 6) (eOp opMod (eVar 2) (eOp ixD (eVar 0) (eOp opAdd (eVar 7) (eC (.int 1)))))))))
      (sSeq (sApp 5 (eVar 3))
      (sRet (eMove 5))))))))
def F_adds : DL.Env → R Rv := runDef 8 [] g_adds
def g__law_same (RF : DL.Env → R Rv) : DL.Env → Out :=
    (sSeq (sIf (tOf (eCB bIsi (aCons (eVar 1) (aCons (eTup (aCons (eC (.ty "list")) (aCons (eC (.ty "tuple")) aNil))) aNil)))) (sSeq (sIf (tOrD (tNotD (tOf (eCB bIsi (aCons (eVar 0) (aCons (eTup (aCons (eC (.ty "list")) (aCons (eC (.ty "tuple")) aNil))) aNil))))) (tOf (eOp cNe (eCB bIsi (aCons (eVar 0) (aCons (eC (.ty "list")) aNil))) (eCB bIsi (aCons (eVar 1) (aCons (eC (.ty "list")) aNil)))))) (sRet (eC (.bl false))) sNext)
      (sRet (eAnd (eOp cEq (eCB bLen (aCons (eVar 0) aNil)) (eCB bLen (aCons (eVar 1) aNil))) (eCB bAll (aCons (eComp [2, 3] (iZipAD (aCons (eVar 0) (aCons (eVar 1) aNil))) (tgTup [(tgName 2), (tgName 3)]) tYesD (eCall0 2 RF (aCons (eVar 2) (aCons (eVar 3) aNil)))) aNil))))) sNext)
      (sRet (eAnd (eOp cEq (eCB bIsi (aCons (eVar 0) (aCons (eC (.ty "bool")) aNil))) (eCB bIsi (aCons (eVar 1) (aCons (eC (.ty "bool")) aNil)))) (eOp cEq (eVar 0) (eVar 1)))))
def F__law_same : Nat → DL.Env → R Rv
  | 0 => fun _ => .bad
  | n + 1 => runDef 4 [] (g__law_same (F__law_same n))
def g__first_order (RF : DL.Env → R Rv) : DL.Env → Out :=
    (sSeq (sIf (tLent (tOf (eOp cEq (eCB bLen (aCons (eVar 2) aNil)) (eCB bLen (aCons (eVar 0) aNil))))) (sRet (eMoveT 2)) sNext)
      (sSeq (sFor (iRng1D (aCons (eCB bLen (aCons (eVar 0) aNil)) aNil)) (tgName 3)
      (sSeq (sIf (tLent (tOf (eOp cIn (eVar 3) (eVar 2)))) sCont sNext)
      (sSeq (sSet 4 (eCall 2 F__pressed (aCons (eVar 1) (aCons (eOp ixD (eVar 0) (eVar 3)) aNil))))
      (sSeq (sIf (tOf (eOp cLt (eOp ixD (eVar 4) (eC (.int 0))) (eC (.int 0)))) sCont sNext)
      (sSeq (sSetT 5 (eCallM RF (eVar 0) (eVar 4) (eLent (eOp opAdd (eVar 2) (eLst (aCons (eVar 3) aNil))))))
      (sIf (tLent (tOf (eOp cIsNotN (eVar 5) (eC .non)))) (sRet (eMoveT 5)) sNext))))))
      (sRet (eC .non))))
def F__first_order : Nat → DL.Env → R Rv
  | 0 => fun _ => .bad
  | n + 1 => runDef 6 [2] (g__first_order (F__first_order n))
def g_order_for : DL.Env → Out :=
    (sSeq (sDrop (eCall 2 F_check_till (aCons (eVar 0) (aCons (eVar 1) aNil))))
      (sSeq (sDrop (eCall 2 F_check_day (aCons (eVar 0) (aCons (eVar 2) aNil))))
      (sSeq (sIf (tOf (eOp cGt (eCB bLen (aCons (eVar 2) aNil)) (eC (.int 7)))) sNever sNext)
      (sSeq (sSet 3 (eComp [4] (iListD (eVar 2)) (tgName 4) tYesD (eCall0 2 F_adds (aCons (eVar 0) (aCons (eVar 4) aNil)))))
      (sRet (eCallM (F__first_order 8) (eVar 3) (eCall 2 F_levels_of (aCons (eVar 0) (aCons (eVar 1) aNil))) (eLst aNil)))))))
def F_order_for : DL.Env → R Rv := runDef 5 [] g_order_for
def g_law : DL.Env → Out :=
    (sSeq (sSetO 1 (eCall 1 F__law_deck (aCons (eVar 0) aNil)))
      (sSeq (sFor (iRng1D (aCons (eC (.int 8)) aNil)) (tgName 2)
      (sSeq (sSet 3 (eCall 1 F__law_metal (aSlot 1 aNil)))
      (sSeq (sSet 4 (eCall 2 F__law_poor_box (aSlot 1 (aCons (eCB bLen (aCons (eVar 3) aNil)) aNil))))
      (sSeq (sSet 5 (eCall 3 F__law_folk (aSlot 1 (aCons (eVar 3) (aCons (eOp ixD (eLst (aCons (eC (.int 5)) (aCons (eC (.int 5)) (aCons (eC (.int 5)) (aCons (eC (.int 6)) aNil))))) (eCall 2 F__law_draw (aSlot 1 (aCons (eC (.int 4)) aNil)))) aNil)))))
      (sSeq (sSet 6 (eCall 3 F__law_due (aCons (eVar 3) (aCons (eVar 4) (aCons (eVar 5) aNil)))))
      (sSeq (sSet 7 (eCB bRepr (aCons (eLst (aCons (eVar 3) (aCons (eVar 4) (aCons (eVar 5) aNil)))) aNil)))
      (sSeq (sSetT 8 (eCall 3 F_order_for (aCons (eVar 3) (aCons (eVar 4) (aCons (eVar 5) aNil)))))
      (sSeq (sSetT 9 (eCallK 3 0 3 [2, 1, 0] F_order_for aNil (aCons (eVar 5) (aCons (eVar 4) (aCons (eVar 3) aNil)))))
      (sSeq (sIf (tOf (eOp cIsN (eVar 6) (eC .non))) (sIf (tLent (tOrD (tOf (eOp cIsNotN (eVar 8) (eC .non))) (tOf (eOp cIsNotN (eVar 9) (eC .non))))) (sRet (eC (.bl false))) sNext) (sSeq (sIf (tLent (tNotD (tOf (eCall 2 (F__law_same 7) (aCons (eLst (aCons (eVar 8) (aCons (eVar 9) aNil))) (aCons (eLst (aCons (eVar 6) (aCons (eVar 6) aNil))) aNil)))))) (sRet (eC (.bl false))) sNext)
      (sSeq (sAppT 8 (eC (.str (PySem.Str.ofString "more"))))
      (sIf (tOf (eOp cNe (eCall 3 F_order_for (aCons (eVar 3) (aCons (eVar 4) (aCons (eVar 5) aNil)))) (eVar 6))) (sRet (eC (.bl false))) sNext))))
      (sIf (tOf (eOp cNeX (eCB bRepr (aCons (eLst (aCons (eVar 3) (aCons (eVar 4) (aCons (eVar 5) aNil)))) aNil)) (eVar 7))) (sRet (eC (.bl false))) sNext))))))))))
      (sRet (eC (.bl true)))))
def F_law : DL.Env → R Rv := runDef 10 [] g_law
structure Ad where
  f_is_whole : Addr
  d_is_whole : FuncData
  f_worth_of : Addr
  d_worth_of : FuncData
  f__pressed : Addr
  d__pressed : FuncData
  f__law_deck : Addr
  d__law_deck : FuncData
  f__law_draw : Addr
  d__law_draw : FuncData
  f__law_worth : Addr
  d__law_worth : FuncData
  f__law_orders : Addr
  d__law_orders : FuncData
  f_are_counts : Addr
  d_are_counts : FuncData
  f__law_metal : Addr
  d__law_metal : FuncData
  f__law_guest : Addr
  d__law_guest : FuncData
  f__law_paid_out : Addr
  d__law_paid_out : FuncData
  f__law_poor_box : Addr
  d__law_poor_box : FuncData
  f_are_coins : Addr
  d_are_coins : FuncData
  f_are_for_each : Addr
  d_are_for_each : FuncData
  f__law_paid_out_all : Addr
  d__law_paid_out_all : FuncData
  f__law_folk : Addr
  d__law_folk : FuncData
  f_check_coins : Addr
  d_check_coins : FuncData
  f__are_paid : Addr
  d__are_paid : FuncData
  f__law_due : Addr
  d__law_due : FuncData
  f_is_till : Addr
  d_is_till : FuncData
  f_is_customer : Addr
  d_is_customer : FuncData
  f_check_till : Addr
  d_check_till : FuncData
  f_check_customer : Addr
  d_check_customer : FuncData
  f_is_day : Addr
  d_is_day : FuncData
  f_levels_of : Addr
  d_levels_of : FuncData
  f_change_of : Addr
  d_change_of : FuncData
  f_check_day : Addr
  d_check_day : FuncData
  f_adds : Addr
  d_adds : FuncData
  f__law_same : Addr
  d__law_same : FuncData
  f__first_order : Addr
  d__first_order : FuncData
  f_order_for : Addr
  d_order_for : FuncData
  f_law : Addr
  d_law : FuncData
structure Txt (K : PySem.W.Frag) (mg : Str → Option Value) (A : Ad) : Prop where
  F_is_whole : Fun K "is_whole" "is_whole" s_is_whole A.f_is_whole A.d_is_whole
  b_is_whole : Binds K A.d_is_whole ["thing"] []
  g_is_whole : mg "is_whole" = some (.ref A.f_is_whole)
  F_worth_of : Fun K "worth_of" "worth_of" s_worth_of A.f_worth_of A.d_worth_of
  b_worth_of : Binds K A.d_worth_of ["coins", "counts"] []
  g_worth_of : mg "worth_of" = some (.ref A.f_worth_of)
  F__pressed : Fun K "_pressed" "_pressed" s__pressed A.f__pressed A.d__pressed
  b__pressed : Binds K A.d__pressed ["levels", "row"] []
  g__pressed : mg "_pressed" = some (.ref A.f__pressed)
  F__law_deck : Fun K "_law_deck" "_law_deck" s__law_deck A.f__law_deck A.d__law_deck
  b__law_deck : Binds K A.d__law_deck ["script"] []
  g__law_deck : mg "_law_deck" = some (.ref A.f__law_deck)
  F__law_draw : Fun K "_law_draw" "_law_draw" s__law_draw A.f__law_draw A.d__law_draw
  b__law_draw : Binds K A.d__law_draw ["deck", "many"] []
  g__law_draw : mg "_law_draw" = some (.ref A.f__law_draw)
  F__law_worth : Fun K "_law_worth" "_law_worth" s__law_worth A.f__law_worth A.d__law_worth
  b__law_worth : Binds K A.d__law_worth ["metal", "counts"] []
  g__law_worth : mg "_law_worth" = some (.ref A.f__law_worth)
  F__law_orders : Fun K "_law_orders" "_law_orders" s__law_orders A.f__law_orders A.d__law_orders
  b__law_orders : Binds K A.d__law_orders ["many"] []
  g__law_orders : mg "_law_orders" = some (.ref A.f__law_orders)
  F_are_counts : Fun K "are_counts" "are_counts" s_are_counts A.f_are_counts A.d_are_counts
  b_are_counts : Binds K A.d_are_counts ["thing"] []
  g_are_counts : mg "are_counts" = some (.ref A.f_are_counts)
  F__law_metal : Fun K "_law_metal" "_law_metal" s__law_metal A.f__law_metal A.d__law_metal
  b__law_metal : Binds K A.d__law_metal ["deck"] []
  g__law_metal : mg "_law_metal" = some (.ref A.f__law_metal)
  F__law_guest : Fun K "_law_guest" "_law_guest" s__law_guest A.f__law_guest A.d__law_guest
  b__law_guest : Binds K A.d__law_guest ["deck", "metal"] []
  g__law_guest : mg "_law_guest" = some (.ref A.f__law_guest)
  F__law_paid_out : Fun K "_law_paid_out" "_law_paid_out" s__law_paid_out A.f__law_paid_out A.d__law_paid_out
  b__law_paid_out : Binds K A.d__law_paid_out ["metal", "box", "guest"] []
  g__law_paid_out : mg "_law_paid_out" = some (.ref A.f__law_paid_out)
  F__law_poor_box : Fun K "_law_poor_box" "_law_poor_box" s__law_poor_box A.f__law_poor_box A.d__law_poor_box
  b__law_poor_box : Binds K A.d__law_poor_box ["deck", "many"] []
  g__law_poor_box : mg "_law_poor_box" = some (.ref A.f__law_poor_box)
  F_are_coins : Fun K "are_coins" "are_coins" s_are_coins A.f_are_coins A.d_are_coins
  b_are_coins : Binds K A.d_are_coins ["thing"] []
  g_are_coins : mg "are_coins" = some (.ref A.f_are_coins)
  F_are_for_each : Fun K "are_for_each" "are_for_each" s_are_for_each A.f_are_for_each A.d_are_for_each
  b_are_for_each : Binds K A.d_are_for_each ["coins", "thing"] []
  g_are_for_each : mg "are_for_each" = some (.ref A.f_are_for_each)
  F__law_paid_out_all : Fun K "_law_paid_out_all" "_law_paid_out_all" s__law_paid_out_all A.f__law_paid_out_all A.d__law_paid_out_all
  b__law_paid_out_all : Binds K A.d__law_paid_out_all ["metal", "box", "guests"] []
  g__law_paid_out_all : mg "_law_paid_out_all" = some (.ref A.f__law_paid_out_all)
  F__law_folk : Fun K "_law_folk" "_law_folk" s__law_folk A.f__law_folk A.d__law_folk
  b__law_folk : Binds K A.d__law_folk ["deck", "metal", "most"] []
  g__law_folk : mg "_law_folk" = some (.ref A.f__law_folk)
  F_check_coins : Fun K "check_coins" "check_coins" s_check_coins A.f_check_coins A.d_check_coins
  b_check_coins : Binds K A.d_check_coins ["thing"] []
  g_check_coins : mg "check_coins" = some (.ref A.f_check_coins)
  F__are_paid : Fun K "_are_paid" "_are_paid" s__are_paid A.f__are_paid A.d__are_paid
  b__are_paid : Binds K A.d__are_paid ["coins", "thing"] []
  g__are_paid : mg "_are_paid" = some (.ref A.f__are_paid)
  F__law_due : Fun K "_law_due" "_law_due" s__law_due A.f__law_due A.d__law_due
  b__law_due : Binds K A.d__law_due ["metal", "box", "folk"] []
  g__law_due : mg "_law_due" = some (.ref A.f__law_due)
  F_is_till : Fun K "is_till" "is_till" s_is_till A.f_is_till A.d_is_till
  b_is_till : Binds K A.d_is_till ["coins", "thing"] []
  g_is_till : mg "is_till" = some (.ref A.f_is_till)
  F_is_customer : Fun K "is_customer" "is_customer" s_is_customer A.f_is_customer A.d_is_customer
  b_is_customer : Binds K A.d_is_customer ["coins", "thing"] []
  g_is_customer : mg "is_customer" = some (.ref A.f_is_customer)
  F_check_till : Fun K "check_till" "check_till" s_check_till A.f_check_till A.d_check_till
  b_check_till : Binds K A.d_check_till ["coins", "thing"] []
  g_check_till : mg "check_till" = some (.ref A.f_check_till)
  F_check_customer : Fun K "check_customer" "check_customer" s_check_customer A.f_check_customer A.d_check_customer
  b_check_customer : Binds K A.d_check_customer ["coins", "thing"] []
  g_check_customer : mg "check_customer" = some (.ref A.f_check_customer)
  F_is_day : Fun K "is_day" "is_day" s_is_day A.f_is_day A.d_is_day
  b_is_day : Binds K A.d_is_day ["coins", "thing"] []
  g_is_day : mg "is_day" = some (.ref A.f_is_day)
  F_levels_of : Fun K "levels_of" "levels_of" s_levels_of A.f_levels_of A.d_levels_of
  b_levels_of : Binds K A.d_levels_of ["coins", "till"] []
  g_levels_of : mg "levels_of" = some (.ref A.f_levels_of)
  F_change_of : Fun K "change_of" "change_of" s_change_of A.f_change_of A.d_change_of
  b_change_of : Binds K A.d_change_of ["coins", "customer"] []
  g_change_of : mg "change_of" = some (.ref A.f_change_of)
  F_check_day : Fun K "check_day" "check_day" s_check_day A.f_check_day A.d_check_day
  b_check_day : Binds K A.d_check_day ["coins", "thing"] []
  g_check_day : mg "check_day" = some (.ref A.f_check_day)
  F_adds : Fun K "adds" "adds" s_adds A.f_adds A.d_adds
  b_adds : Binds K A.d_adds ["coins", "customer"] []
  g_adds : mg "adds" = some (.ref A.f_adds)
  F__law_same : Fun K "_law_same" "_law_same" s__law_same A.f__law_same A.d__law_same
  b__law_same : Binds K A.d__law_same ["found", "due"] []
  g__law_same : mg "_law_same" = some (.ref A.f__law_same)
  F__first_order : Fun K "_first_order" "_first_order" s__first_order A.f__first_order A.d__first_order
  b__first_order : Binds K A.d__first_order ["rows", "levels", "begun"] []
  g__first_order : mg "_first_order" = some (.ref A.f__first_order)
  F_order_for : Fun K "order_for" "order_for" s_order_for A.f_order_for A.d_order_for
  b_order_for : Binds K A.d_order_for ["coins", "till", "day"] []
  g_order_for : mg "order_for" = some (.ref A.f_order_for)
  F_law : Fun K "law" "law" s_law A.f_law A.d_law
  b_law : Binds K A.d_law ["script"] []
  g_law : mg "law" = some (.ref A.f_law)
  kb_order_for_0_day_till_coins : KB K A.d_order_for ["coins", "till", "day"] ["day", "till", "coins"] 0 [2, 1, 0]
  c_FEWEST_COINS : ∃ t, mg "FEWEST_COINS" = some (.int 2 t)
  c_GREATEST_COIN : ∃ t, mg "GREATEST_COIN" = some (.int 100000 t)
  c_GREATEST_PRICE : ∃ t, mg "GREATEST_PRICE" = some (.int 1000000000 t)
  c_MOST_COINS : ∃ t, mg "MOST_COINS" = some (.int 5 t)
  c_MOST_CUSTOMERS : ∃ t, mg "MOST_CUSTOMERS" = some (.int 40 t)
  c_MOST_ORDERED : ∃ t, mg "MOST_ORDERED" = some (.int 7 t)
  c_MOST_PAID : ∃ t, mg "MOST_PAID" = some (.int 1000000 t)
  n_all : mg "all" = none
  n_bool : mg "bool" = none
  n_int : mg "int" = none
  n_isinstance : mg "isinstance" = none
  n_len : mg "len" = none
  n_list : mg "list" = none
  n_max : mg "max" = none
  n_min : mg "min" = none
  n_range : mg "range" = none
  n_repr : mg "repr" = none
  n_sum : mg "sum" = none
  n_tuple : mg "tuple" = none
  n_zip : mg "zip" = none
section
variable {P : Program} {w : World} {K : PySem.W.Frag} {mg : Str → Option Value} {base : Heap} {A : Ad}
theorem ok_is_whole (T : Txt K mg A) : GFn P w K mg base (L2.CX P w) 1 A.f_is_whole A.d_is_whole ["thing"] (spD K 1 F_is_whole) := by
  have sc := sc_is_whole
  refine def_okG T.F_is_whole sc [] g_is_whole rfl rfl (fun cdv A' outer s H E hr hgd => ?_)
  refine ⟨_, (pss_one (ps_ret (pe_and (pe_callB (cr_isiK rfl) (by rfl) T.n_isinstance (by decide +kernel) (pa_cons (pv 0) (pa_cons (pe_bltn (v := .ty "int") (by rfl) T.n_int (by decide +kernel) rfl) pa_nil))) (pe_one (pe_not (pe_callB (cr_isiK rfl) (by rfl) T.n_isinstance (by decide +kernel) (pa_cons (pv 0) (pa_cons (pe_bltn (v := .ty "bool") (by rfl) T.n_bool (by decide +kernel) rfl) pa_nil)))))))), ?_⟩
  exact (ds_ret (de_and (de_cb cd_isi (da_cons de_var (da_cons de_ty da_nil))) (de_not (de_cb cd_isi (da_cons de_var (da_cons de_ty da_nil))))))
theorem ok_worth_of (T : Txt K mg A) : GFn P w K mg base (L2.CX P w) 1 A.f_worth_of A.d_worth_of ["coins", "counts"] (spD K 2 F_worth_of) := by
  have sc := sc_worth_of
  refine def_okG T.F_worth_of sc [] g_worth_of rfl rfl (fun cdv A' outer s H E hr hgd => ?_)
  refine ⟨_, (pss_one (ps_ret (pe_callB (cr_sumK rfl rfl) (by rfl) T.n_sum (by decide +kernel) (pa_cons (pe_lc (own := [("coin", 2), ("many", 3)]) rfl sc.nd (pi_zip (by rfl) T.n_zip (pa_cons (pv 0) (pa_cons (pv 1) pa_nil))) (blkOk_by (own := [("coin", 2), ("many", 3)]) (N := ["coins", "counts", "coin", "many"]) (sc := defScope s_worth_of) (by decide +kernel)) (fun _ _ _ _ _ => (pg_tupK (n := 2) rfl rfl (pgs_cons (pg_name (i := 2) sc.nd rfl (.inl rfl)) (pgs_cons (pg_name (i := 3) sc.nd rfl (.inl rfl)) pgs_nil)))) (fun _ _ _ _ _ => pts_nil) (fun _ _ _ _ _ => (pe_op op_mulD (pv 2) (pv 3)))) pa_nil)))), ?_⟩
  exact (ds_ret (de_cb cd_sum (da_cons (de_comp (di_zip (da_cons de_var (da_cons de_var da_nil))) (dg_tup (by rfl) (dgs_cons (dg_name (by decide)) (dgs_cons (dg_name (by decide)) dgs_nil))) (by decide) dt_yes (de_op od_mul de_var de_var)) da_nil)))
theorem ok__pressed (T : Txt K mg A) : GFn P w K mg base (L2.CX P w) 1 A.f__pressed A.d__pressed ["levels", "row"] (spD K 2 F__pressed) := by
  have sc := sc__pressed
  refine def_okG T.F__pressed sc [] g__pressed rfl rfl (fun cdv A' outer s H E hr hgd => ?_)
  refine ⟨_, (pss_cons (ps_set (i := 2) sc.nd rfl (.inr rfl) (pe_lc (own := [("level", 3), ("e", 4)]) rfl sc.nd (pi_zip (by rfl) T.n_zip (pa_cons (pv 0) (pa_cons (pv 1) pa_nil))) (blkOk_by (own := [("level", 3), ("e", 4)]) (N := ["levels", "row", "added", "level", "e", "k"]) (sc := defScope s__pressed) (by decide +kernel)) (fun _ _ _ _ _ => (pg_tupK (n := 2) rfl rfl (pgs_cons (pg_name (i := 3) sc.nd rfl (.inl rfl)) (pgs_cons (pg_name (i := 4) sc.nd rfl (.inl rfl)) pgs_nil)))) (fun _ _ _ _ _ => pts_nil) (fun _ _ _ _ _ => (pe_op op_addD (pv 3) (pv 4)))))
      (pss_one (ps_ret (pe_lc (own := [("k", 5)]) rfl sc.nd (pi_range1 rfl T.n_range (pa_cons (pe_callB (cr_lenK rfl) (by rfl) T.n_len (by decide +kernel) (pa_cons (pv 2) pa_nil)) pa_nil)) (blkOk_by (own := [("k", 5)]) (N := ["levels", "row", "added", "level", "e", "k"]) (sc := defScope s__pressed) (by decide +kernel)) (fun _ _ _ _ _ => (pg_name (i := 5) sc.nd rfl (.inl rfl))) (fun _ _ _ _ _ => pts_nil) (fun _ _ _ _ _ => (pe_callB (cr_minK rfl rfl) (by rfl) T.n_min (by decide +kernel) (pa_cons (pe_slice (sl_listK rfl) (pv 2) (po_some (pv 5)) po_none) pa_nil))))))), ?_⟩
  exact (ds_seq (ds_set (by decide) (de_comp (di_zip (da_cons de_var (da_cons de_var da_nil))) (dg_tup (by rfl) (dgs_cons (dg_name (by decide)) (dgs_cons (dg_name (by decide)) dgs_nil))) (by decide) dt_yes (de_op od_add de_var de_var)))
      (ds_ret (de_comp (di_rng1 (da_cons (de_cb cd_len (da_cons de_var da_nil)) da_nil)) (dg_name (by decide)) (by decide) dt_yes (de_cb cd_min1 (da_cons (de_sl de_var (do_some de_var) do_none) da_nil)))))
theorem ok__law_deck (T : Txt K mg A) : GFn P w K mg base (L2.CX P w) 1 A.f__law_deck A.d__law_deck ["script"] (spD K 1 F__law_deck) := by
  have sc := sc__law_deck
  refine def_okG T.F__law_deck sc [] g__law_deck rfl rfl (fun cdv A' outer s H E hr hgd => ?_)
  refine ⟨_, (pss_cons (ps_set (i := 1) sc.nd rfl (.inl rfl) (pe_lst pa_nil))
      (pss_cons (ps_for (passes_of rfl) rfl (pi_range1 rfl T.n_range (pa_cons (pe_callB (cr_max2D rfl) (by rfl) T.n_max (by decide +kernel) (pa_cons pe_int (pa_cons (pe_callB (cr_min2D rfl) (by rfl) T.n_min (by decide +kernel) (pa_cons pe_int (pa_cons (pe_callB (cr_lenK rfl) (by rfl) T.n_len (by decide +kernel) (pa_cons (pv 0) pa_nil)) pa_nil))) pa_nil))) pa_nil)) (pg_name (i := 2) sc.nd rfl (.inl rfl))
      (pss_cons (ps_set (i := 3) sc.nd rfl (.inl rfl) pe_int)
      (pss_cons (ps_if (pt_cmpR op_lt (pv 2) (pe_callB (cr_lenK rfl) (by rfl) T.n_len (by decide +kernel) (pa_cons (pv 0) pa_nil)) (nomark _)) (pss_one (ps_set (i := 3) sc.nd rfl (.inl rfl) (pe_ix (ix_seqK rfl) (pv 0) (pv 2) (fun _ _ => rfl)))) pss_nil)
      (pss_one (ps_expr (pe_bm PySem.F.plainAttrs_list PySem.F.slot_list_append PySem.F.type_list_append mt_append (pv 1) (pa_cons (pe_lst (pa_cons (pv 3) (pa_cons (pe_callTy cr_intD (by rfl) T.n_int (by decide +kernel) (pa_cons (pe_cmpR op_ge (pv 3) (pe_op op_powW pe_int pe_int) (nomark _)) pa_nil)) (pa_cons (pe_op op_mulD pe_int (pv 2)) pa_nil)))) pa_nil)))))))
      (pss_one (ps_ret (pe_lst (pa_cons (pv 1) (pa_cons pe_int pa_nil))))))), ?_⟩
  exact (ds_seq (ds_setP (by decide) (de_lst da_nil))
      (ds_seq (ds_for (di_rng1 (da_cons (de_cb cd_max2 (da_cons de_int (da_cons (de_cb cd_min2 (da_cons de_int (da_cons (de_cb cd_len (da_cons de_var da_nil)) da_nil))) da_nil))) da_nil)) (dg_name (by decide))
      (ds_seq (ds_set (by decide) de_int)
      (ds_seq (ds_if (dt_test (de_op od_lt de_var (de_cb cd_len (da_cons de_var da_nil)))) (ds_set (by decide) (de_op od_ix de_var de_var)) ds_next)
      (ds_appP (de_lst (da_cons de_var (da_cons (de_cb cd_int (da_cons (de_op od_ge de_var (de_op od_pow de_int de_int)) da_nil)) (da_cons (de_op od_mul de_int de_var) da_nil))))))))
      (ds_ret de_deck)))
theorem ok__law_draw (T : Txt K mg A) : GFn P w K mg base (L2.CX P w) 1 A.f__law_draw A.d__law_draw ["deck", "many"] (spD K 2 F__law_draw) := by
  have sc := sc__law_draw
  refine def_okG T.F__law_draw sc [0] g__law_draw rfl rfl (fun cdv A' outer s H E hr hgd => ?_)
  refine ⟨_, (pss_cons (ps_set (i := 2) sc.nd rfl (.inl rfl) (pe_ix (ix_seqK rfl) (pe_ix (ix_seqK rfl) (pv 0) pe_int (fun _ _ => rfl)) (pe_op op_mod (pe_ix (ix_seqK rfl) (pv 0) pe_int (fun _ _ => rfl)) (pe_callB (cr_lenK rfl) (by rfl) T.n_len (by decide +kernel) (pa_cons (pe_ix (ix_seqK rfl) (pv 0) pe_int (fun _ _ => rfl)) pa_nil))) (fun _ _ => rfl)))
      (pss_cons (ps_asg (pe_op op_addD (pe_ix (ix_seqK rfl) (pv 0) pe_int (fun _ _ => rfl)) pe_int) (pg_sub (pv 0) pe_int set_list))
      (pss_cons (ps_if (PW.pt (pw_and (pt_cmpR (op_eqK rfl hr.units) (pe_ix (ix_seqK rfl) (pv 2) pe_int (fun _ _ => rfl)) pe_int (nomark _)) (pw_and1 (pt_cmpR op_gt (pe_ix (ix_seqK rfl) (pv 2) pe_int (fun _ _ => rfl)) pe_int (nomark _))))) (pss_cons (ps_set (i := 3) sc.nd rfl (.inl rfl) (pe_op op_mod (pe_ix (ix_seqK rfl) (pv 2) pe_int (fun _ _ => rfl)) (pv 1)))
      (pss_cons (ps_asg (pe_op op_fdivW (pe_ix (ix_seqK rfl) (pv 2) pe_int (fun _ _ => rfl)) (pv 1)) (pg_sub (pv 2) pe_int set_list))
      (pss_one (ps_ret (pv 3))))) pss_nil)
      (pss_cons (ps_asg (pe_op op_addD (pe_ix (ix_seqK rfl) (pv 2) pe_int (fun _ _ => rfl)) pe_int) (pg_sub (pv 2) pe_int set_list))
      (pss_cons (ps_set (i := 4) sc.nd rfl (.inl rfl) (pe_op op_addD (pe_op op_mod (pe_ix (ix_seqK rfl) (pv 2) pe_int (fun _ _ => rfl)) pe_int) (pe_op op_mulD pe_int (pe_ix (ix_seqK rfl) (pv 2) pe_int (fun _ _ => rfl)))))
      (pss_cons (ps_set (i := 4) sc.nd rfl (.inl rfl) (pe_op op_mod (pe_op op_powW (pv 4) pe_int) pe_int))
      (pss_cons (ps_set (i := 4) sc.nd rfl (.inl rfl) (pe_op op_mod (pe_op op_powW (pe_op op_addD (pv 4) (pe_op op_mulD pe_int (pe_ix (ix_seqK rfl) (pv 2) pe_int (fun _ _ => rfl)))) pe_int) pe_int))
      (pss_one (ps_ret (pe_op op_mod (pe_op op_fdivW (pv 4) pe_int) (pv 1))))))))))), ?_⟩
  exact draw_ds
theorem ok__law_worth (T : Txt K mg A) : GFn P w K mg base (L2.CX P w) 1 A.f__law_worth A.d__law_worth ["metal", "counts"] (spD K 2 F__law_worth) := by
  have sc := sc__law_worth
  refine def_okG T.F__law_worth sc [] g__law_worth rfl rfl (fun cdv A' outer s H E hr hgd => ?_)
  refine ⟨_, (pss_one (ps_ret (pe_callB (cr_sumK rfl rfl) (by rfl) T.n_sum (by decide +kernel) (pa_cons (pe_lc (own := [("coin", 2), ("many", 3)]) rfl sc.nd (pi_zip (by rfl) T.n_zip (pa_cons (pv 0) (pa_cons (pv 1) pa_nil))) (blkOk_by (own := [("coin", 2), ("many", 3)]) (N := ["metal", "counts", "coin", "many"]) (sc := defScope s__law_worth) (by decide +kernel)) (fun _ _ _ _ _ => (pg_tupK (n := 2) rfl rfl (pgs_cons (pg_name (i := 2) sc.nd rfl (.inl rfl)) (pgs_cons (pg_name (i := 3) sc.nd rfl (.inl rfl)) pgs_nil)))) (fun _ _ _ _ _ => pts_nil) (fun _ _ _ _ _ => (pe_op op_mulD (pv 2) (pv 3)))) pa_nil)))), ?_⟩
  exact (ds_ret (de_cb cd_sum (da_cons (de_comp (di_zip (da_cons de_var (da_cons de_var da_nil))) (dg_tup (by rfl) (dgs_cons (dg_name (by decide)) (dgs_cons (dg_name (by decide)) dgs_nil))) (by decide) dt_yes (de_op od_mul de_var de_var)) da_nil)))
theorem ok__law_orders (T : Txt K mg A) : GFn P w K mg base (L2.CX P w) 1 A.f__law_orders A.d__law_orders ["many"] (spD K 1 F__law_orders) := by
  have sc := sc__law_orders
  refine def_okG T.F__law_orders sc [] g__law_orders rfl rfl (fun cdv A' outer s H E hr hgd => ?_)
  refine ⟨_, (pss_cons (ps_set (i := 1) sc.nd rfl (.inl rfl) (pe_lst (pa_cons (pe_lst pa_nil) pa_nil)))
      (pss_cons (ps_for (passes_of rfl) rfl (pi_range1 rfl T.n_range (pa_cons (pv 0) pa_nil)) (pg_name (i := 2) sc.nd rfl (.inl rfl))
      (pss_cons (ps_set (i := 3) sc.nd rfl (.inl rfl) (pe_lst pa_nil))
      (pss_cons (ps_for (passes_of rfl) rfl (pi_listK rfl (pv 1)) (pg_name (i := 4) sc.nd rfl (.inr rfl))
      (pss_one (ps_expr (pe_bm PySem.F.plainAttrs_list PySem.F.slot_list_extend PySem.F.type_list_extend mt_extend (pv 3) (pa_cons (pe_lc (own := [("place", 5)]) rfl sc.nd (pi_range1 rfl T.n_range (pa_cons (pv 0) pa_nil)) (blkOk_by (own := [("place", 5)]) (N := ["many", "found", "k", "longer", "some", "place"]) (sc := defScope s__law_orders) (by decide +kernel)) (fun _ _ _ _ _ => (pg_name (i := 5) sc.nd rfl (.inl rfl))) (fun _ _ _ _ _ => (pts_one (pt_cmpR (op_notInK rfl (room65 hr)) (pv 5) (pv 4) rfl))) (fun _ _ _ _ _ => (pe_op op_addD (pv 4) (pe_lst (pa_cons (pv 5) pa_nil))))) pa_nil)))))
      (pss_one (ps_set (i := 1) sc.nd rfl (.inl rfl) (pv 3))))))
      (pss_one (ps_ret (pv 1))))), ?_⟩
  exact (ds_seq (ds_set (by decide) (de_lst (da_cons (de_lst da_nil) da_nil)))
      (ds_seq (ds_for (di_rng1 (da_cons de_var da_nil)) (dg_name (by decide))
      (ds_seq (ds_setO (by decide) (de_lst da_nil))
      (ds_seq (ds_for (di_list de_var) (dg_name (by decide))
      (ds_ext (de_comp (di_rng1 (da_cons de_var da_nil)) (dg_name (by decide)) (by decide) (dt_test (de_op od_notIn de_var de_var)) (de_op od_add de_var (de_lst (da_cons de_var da_nil))))))
      (ds_set (by decide) de_move))))
      (ds_ret de_var)))
theorem ok_are_counts (T : Txt K mg A) : GFn P w K mg base (L2.CX P w) 2 A.f_are_counts A.d_are_counts ["thing"] (spD K 1 F_are_counts) := by
  have sc := sc_are_counts
  refine def_okG T.F_are_counts sc [] g_are_counts rfl rfl (fun cdv A' outer s H E hr hgd => ?_)
  refine ⟨_, (pss_cons (ps_if (pt_not (pt_val (pe_callB (cr_isiK rfl) (by rfl) T.n_isinstance (by decide +kernel) (pa_cons (pv 0) (pa_cons (pe_bltn (v := .ty "list") (by rfl) T.n_list (by decide +kernel) rfl) pa_nil))))) (pss_one (ps_ret pe_bl)) pss_nil)
      (pss_cons (ps_for (passes_of rfl) rfl (pi_listK rfl (pv 0)) (pg_name (i := 1) sc.nd rfl (.inl rfl))
      (pss_one (ps_if (PW.pt (pw_or (pt_not (pt_val (pe_callG (ok_is_whole T) (hr.mono (by decide)) hgd (by rfl) T.g_is_whole T.F_is_whole.kp T.b_is_whole (fun σ => passAt (takes_of rfl rfl rfl rfl) σ) (pa_cons (pv 1) pa_nil)))) (pw_or1 (pt_cmpR op_lt (pv 1) pe_int (nomark _))))) (pss_one (ps_ret pe_bl)) pss_nil)))
      (pss_one (ps_ret pe_bl)))), ?_⟩
  exact (ds_seq (ds_if (dt_not (dt_B (de_cb cd_isi (da_cons de_var (da_cons de_ty da_nil))))) (ds_ret de_bl) ds_next)
      (ds_seq (ds_for (di_list de_var) (dg_name (by decide))
      (ds_if (dt_or (dt_not (dt_B (de_call (da_cons de_var da_nil)))) (dt_test (de_op od_lt de_var de_int))) (ds_ret de_bl) ds_next))
      (ds_ret de_bl)))
theorem ok__law_metal (T : Txt K mg A) : GFn P w K mg base (L2.CX P w) 2 A.f__law_metal A.d__law_metal ["deck"] (spD K 1 F__law_metal) := by
  have sc := sc__law_metal
  refine def_okG T.F__law_metal sc [0] g__law_metal rfl rfl (fun cdv A' outer s H E hr hgd => ?_)
  refine ⟨_, (pss_cons (ps_set (i := 1) sc.nd rfl (.inl rfl) (pe_lst (pa_cons pe_int pa_nil)))
      (pss_cons (ps_for (passes_of rfl) rfl (pi_range1 rfl T.n_range (pa_cons (pe_op op_addD pe_int (pe_callG (ok__law_draw T) (hr.mono (by decide)) hgd (by rfl) T.g__law_draw T.F__law_draw.kp T.b__law_draw (fun σ => passAt (takes_of rfl rfl rfl rfl) σ) (pa_cons (pv 0) (pa_cons pe_int pa_nil)))) pa_nil)) (pg_name (i := 2) sc.nd rfl (.inl rfl))
      (pss_cons (ps_set (i := 3) sc.nd rfl (.inl rfl) (pe_op op_sub (pe_op op_fdivW pe_int (pe_ix (ix_seqK rfl) (pv 1) (pe_un un_neg pe_int) (fun _ _ => rfl))) pe_int))
      (pss_one (ps_if (pt_cmpR op_gt (pv 3) pe_int (nomark _)) (pss_cons (ps_set (i := 4) sc.nd rfl (.inl rfl) (pe_callB (cr_min2D rfl) (by rfl) T.n_min (by decide +kernel) (pa_cons (pv 3) (pa_cons (pe_ix (ix_seqK rfl) (pe_lst (pa_cons pe_int (pa_cons pe_int (pa_cons pe_int (pa_cons (pv 3) pa_nil))))) (pe_callG (ok__law_draw T) (hr.mono (by decide)) hgd (by rfl) T.g__law_draw T.F__law_draw.kp T.b__law_draw (fun σ => passAt (takes_of rfl rfl rfl rfl) σ) (pa_cons (pv 0) (pa_cons pe_int pa_nil))) (fun _ _ => rfl)) pa_nil))))
      (pss_one (ps_expr (pe_bm PySem.F.plainAttrs_list PySem.F.slot_list_append PySem.F.type_list_append mt_append (pv 1) (pa_cons (pe_op op_mulD (pe_ix (ix_seqK rfl) (pv 1) (pe_un un_neg pe_int) (fun _ _ => rfl)) (pe_op op_addD pe_int (pe_callG (ok__law_draw T) (hr.mono (by decide)) hgd (by rfl) T.g__law_draw T.F__law_draw.kp T.b__law_draw (fun σ => passAt (takes_of rfl rfl rfl rfl) σ) (pa_cons (pv 0) (pa_cons (pv 4) pa_nil))))) pa_nil))))) pss_nil))))
      (pss_one (ps_ret (pv 1))))), ?_⟩
  exact (ds_seq (ds_setO (by decide) (de_lst (da_cons de_int da_nil)))
      (ds_seq (ds_for (di_rng1 (da_cons (de_op od_add de_int (de_call (da_slot (da_cons de_int da_nil)))) da_nil)) (dg_name (by decide))
      (ds_seq (ds_set (by decide) (de_op od_sub (de_op od_div de_int (de_ixO (de_un ud_neg de_int))) de_int))
      (ds_if (dt_test (de_op od_gt de_var de_int)) (ds_seq (ds_set (by decide) (de_cb cd_min2 (da_cons de_var (da_cons (de_op od_ix (de_lst (da_cons de_int (da_cons de_int (da_cons de_int (da_cons de_var da_nil))))) (de_call (da_slot (da_cons de_int da_nil)))) da_nil))))
      (ds_app (de_op od_mul (de_ixO (de_un ud_neg de_int)) (de_op od_add de_int (de_call (da_slot (da_cons de_var da_nil))))))) ds_next)))
      (ds_ret de_move)))
theorem ok__law_guest (T : Txt K mg A) : GFn P w K mg base (L2.CX P w) 2 A.f__law_guest A.d__law_guest ["deck", "metal"] (spD K 2 F__law_guest) := by
  have sc := sc__law_guest
  refine def_okG T.F__law_guest sc [0] g__law_guest rfl rfl (fun cdv A' outer s H E hr hgd => ?_)
  refine ⟨_, (pss_cons (ps_set (i := 2) sc.nd rfl (.inr rfl) (pe_ix (ix_seqK rfl) (pe_lst (pa_cons pe_int (pa_cons pe_int (pa_cons pe_int (pa_cons (pe_op op_addD (pe_op op_powW pe_int pe_int) pe_int) pa_nil))))) (pe_callG (ok__law_draw T) (hr.mono (by decide)) hgd (by rfl) T.g__law_draw T.F__law_draw.kp T.b__law_draw (fun σ => passAt (takes_of rfl rfl rfl rfl) σ) (pa_cons (pv 0) (pa_cons pe_int pa_nil))) (fun _ _ => rfl)))
      (pss_cons (ps_setLc (i := 3) (own := [("coin", 4)]) rfl sc.nd rfl rfl (sw_true rfl rfl rfl (by decide +kernel)) (pi_listK rfl (pv 1)) (blkOk_by (own := [("coin", 4)]) (N := ["deck", "metal", "wide", "paid", "coin", "most", "price"]) (sc := defScope s__law_guest) (by decide +kernel)) (fun _ _ _ _ _ => (pg_name (i := 4) sc.nd rfl (.inl rfl))) (fun _ _ _ _ _ => pts_nil) (fun _ _ _ _ _ => (pe_op op_mulD (pe_callG (ok__law_draw T) (hr.mono (by decide)) hgd (by rfl) T.g__law_draw T.F__law_draw.kp T.b__law_draw (fun σ => pass00 σ) (pa_cons (pv 0) (pa_cons (pv 2) pa_nil))) (pe_callB (cr_min2D rfl) (by rfl) T.n_min (by decide +kernel) (pa_cons pe_int (pa_cons (pe_callG (ok__law_draw T) (hr.mono (by decide)) hgd (by rfl) T.g__law_draw T.F__law_draw.kp T.b__law_draw (fun σ => pass00 σ) (pa_cons (pv 0) (pa_cons pe_int pa_nil))) pa_nil))))))
      (pss_cons (ps_set (i := 5) sc.nd rfl (.inl rfl) (pe_callB (cr_min2D rfl) (by rfl) T.n_min (by decide +kernel) (pa_cons (pe_callG (ok__law_worth T) (hr.mono (by decide)) hgd (by rfl) T.g__law_worth T.F__law_worth.kp T.b__law_worth (fun σ => passAt (takes_of rfl rfl rfl rfl) σ) (pa_cons (pv 1) (pa_cons (pv 3) pa_nil))) (pa_cons (pe_op op_powW pe_int pe_int) pa_nil))))
      (pss_cons (ps_set (i := 6) sc.nd rfl (.inl rfl) (pe_ix (ix_seqK rfl) (pe_lst (pa_cons (pv 5) (pa_cons pe_int (pa_cons (pe_callG (ok__law_draw T) (hr.mono (by decide)) hgd (by rfl) T.g__law_draw T.F__law_draw.kp T.b__law_draw (fun σ => passAt (takes_of rfl rfl rfl rfl) σ) (pa_cons (pv 0) (pa_cons (pe_op op_addD (pv 5) pe_int) pa_nil))) (pa_cons (pe_callB (cr_max2D rfl) (by rfl) T.n_max (by decide +kernel) (pa_cons pe_int (pa_cons (pe_op op_sub (pv 5) (pe_callG (ok__law_draw T) (hr.mono (by decide)) hgd (by rfl) T.g__law_draw T.F__law_draw.kp T.b__law_draw (fun σ => passAt (takes_of rfl rfl rfl rfl) σ) (pa_cons (pv 0) (pa_cons (pe_ix (ix_seqK rfl) (pv 1) pe_int (fun _ _ => rfl)) pa_nil)))) pa_nil))) pa_nil))))) (pe_callG (ok__law_draw T) (hr.mono (by decide)) hgd (by rfl) T.g__law_draw T.F__law_draw.kp T.b__law_draw (fun σ => passAt (takes_of rfl rfl rfl rfl) σ) (pa_cons (pv 0) (pa_cons pe_int pa_nil))) (fun _ _ => rfl)))
      (pss_one (ps_ret (pe_tup (pa_cons (pv 6) (pa_cons (pv 3) pa_nil))))))))), ?_⟩
  exact (ds_seq (ds_set (by decide) (de_op od_ix (de_lst (da_cons de_int (da_cons de_int (da_cons de_int (da_cons (de_op od_add (de_op od_pow de_int de_int) de_int) da_nil))))) (de_call (da_slot (da_cons de_int da_nil)))))
      (ds_seq (ds_set (by decide) (de_comp (di_list de_var) (dg_name (by decide)) (by decide) dt_yes (de_op od_mul (de_call0G (da_slot (da_cons de_var da_nil))) (de_cb cd_min2 (da_cons de_int (da_cons (de_call0G (da_slot (da_cons de_int da_nil))) da_nil))))))
      (ds_seq (ds_set (by decide) (de_cb cd_min2 (da_cons (de_call (da_cons de_var (da_cons de_var da_nil))) (da_cons (de_op od_pow de_int de_int) da_nil))))
      (ds_seq (ds_set (by decide) (de_op od_ix (de_lst (da_cons de_var (da_cons de_int (da_cons (de_call (da_slot (da_cons (de_op od_add de_var de_int) da_nil))) (da_cons (de_cb cd_max2 (da_cons de_int (da_cons (de_op od_sub de_var (de_call (da_slot (da_cons (de_op od_ix de_var de_int) da_nil)))) da_nil))) da_nil))))) (de_call (da_slot (da_cons de_int da_nil)))))
      (ds_ret (de_tup (da_cons de_var (da_cons de_var da_nil))))))))
theorem ok__law_paid_out (T : Txt K mg A) : GFn P w K mg base (L2.CX P w) 2 A.f__law_paid_out A.d__law_paid_out ["metal", "box", "guest"] (spD K 3 F__law_paid_out) := by
  have sc := sc__law_paid_out
  refine def_okG T.F__law_paid_out sc [] g__law_paid_out rfl rfl (fun cdv A' outer s H E hr hgd => ?_)
  refine ⟨_, (pss_cons (ps_asg (pv 2) (pg_tupK (n := 2) rfl rfl (pgs_cons (pg_name (i := 3) sc.nd rfl (.inl rfl)) (pgs_cons (pg_name (i := 4) sc.nd rfl (.inl rfl)) pgs_nil))))
      (pss_cons (ps_set (i := 5) sc.nd rfl (.inl rfl) (pe_op op_sub (pe_callG (ok__law_worth T) (hr.mono (by decide)) hgd (by rfl) T.g__law_worth T.F__law_worth.kp T.b__law_worth (fun σ => passAt (takes_of rfl rfl rfl rfl) σ) (pa_cons (pv 0) (pa_cons (pv 4) pa_nil))) (pv 3)))
      (pss_cons (ps_setLc (i := 6) (own := [("one", 7), ("two", 8)]) rfl sc.nd rfl rfl (sw_true rfl rfl rfl (by decide +kernel)) (pi_zip (by rfl) T.n_zip (pa_cons (pv 1) (pa_cons (pv 4) pa_nil))) (blkOk_by (own := [("one", 7), ("two", 8)]) (N := ["metal", "box", "guest", "price", "paid", "left", "found", "one", "two", "k", "many"]) (sc := defScope s__law_paid_out) (by decide +kernel)) (fun _ _ _ _ _ => (pg_tupK (n := 2) rfl rfl (pgs_cons (pg_name (i := 7) sc.nd rfl (.inl rfl)) (pgs_cons (pg_name (i := 8) sc.nd rfl (.inl rfl)) pgs_nil)))) (fun _ _ _ _ _ => pts_nil) (fun _ _ _ _ _ => (pe_op op_addD (pv 7) (pv 8))))
      (pss_cons (ps_for (passes_of rfl) rfl (pi_range3 (by rfl) T.n_range (pa_cons (pe_op op_sub (pe_callB (cr_lenK rfl) (by rfl) T.n_len (by decide +kernel) (pa_cons (pv 0) pa_nil)) pe_int) (pa_cons (pe_un un_neg pe_int) (pa_cons (pe_un un_neg pe_int) pa_nil)))) (pg_name (i := 9) sc.nd rfl (.inl rfl))
      (pss_cons (ps_set (i := 10) sc.nd rfl (.inl rfl) (pe_callB (cr_min2D rfl) (by rfl) T.n_min (by decide +kernel) (pa_cons (pe_ix (ix_seqK rfl) (pv 6) (pv 9) (fun _ _ => rfl)) (pa_cons (pe_op op_fdivW (pv 5) (pe_ix (ix_seqK rfl) (pv 0) (pv 9) (fun _ _ => rfl))) pa_nil))))
      (pss_cons (ps_asg (pe_op op_sub (pe_ix (ix_seqK rfl) (pv 6) (pv 9) (fun _ _ => rfl)) (pv 10)) (pg_sub (pv 6) (pv 9) set_list))
      (pss_one (ps_set (i := 5) sc.nd rfl (.inl rfl) (pe_op op_sub (pv 5) (pe_op op_mulD (pv 10) (pe_ix (ix_seqK rfl) (pv 0) (pv 9) (fun _ _ => rfl)))))))))
      (pss_one (ps_ret (pe_ifExp (pt_cmpR (op_eqK rfl hr.units) (pv 5) pe_int (nomark _)) (pv 6) pe_non))))))), ?_⟩
  exact (ds_seq (ds_asg (dg_tup (by rfl) (dgs_cons (dg_name (by decide)) (dgs_cons (dg_name (by decide)) dgs_nil))) de_var)
      (ds_seq (ds_set (by decide) (de_op od_sub (de_call (da_cons de_var (da_cons de_var da_nil))) de_var))
      (ds_seq (ds_setO (by decide) (de_comp (di_zip (da_cons de_var (da_cons de_var da_nil))) (dg_tup (by rfl) (dgs_cons (dg_name (by decide)) (dgs_cons (dg_name (by decide)) dgs_nil))) (by decide) dt_yes (de_op od_add de_var de_var)))
      (ds_seq (ds_for (di_rng3 (da_cons (de_op od_sub (de_cb cd_len (da_cons de_var da_nil)) de_int) (da_cons (de_un ud_neg de_int) (da_cons (de_un ud_neg de_int) da_nil)))) (dg_name (by decide))
      (ds_seq (ds_set (by decide) (de_cb cd_min2 (da_cons (de_ixO de_var) (da_cons (de_op od_div de_var (de_op od_ix de_var de_var)) da_nil))))
      (ds_seq (ds_setIx de_var (de_op od_sub (de_ixO de_var) de_var))
      (ds_set (by decide) (de_op od_sub de_var (de_op od_mul de_var (de_op od_ix de_var de_var)))))))
      (ds_ret (de_if (dt_test (de_op od_eq de_var de_int)) de_var de_non))))))
theorem ok__law_poor_box (T : Txt K mg A) : GFn P w K mg base (L2.CX P w) 2 A.f__law_poor_box A.d__law_poor_box ["deck", "many"] (spD K 2 F__law_poor_box) := by
  have sc := sc__law_poor_box
  refine def_okG T.F__law_poor_box sc [0] g__law_poor_box rfl rfl (fun cdv A' outer s H E hr hgd => ?_)
  refine ⟨_, (pss_one (ps_ret (pe_lc (own := [("k", 2)]) rfl sc.nd (pi_range1 rfl T.n_range (pa_cons (pv 1) pa_nil)) (blkOk_by (own := [("k", 2)]) (N := ["deck", "many", "k"]) (sc := defScope s__law_poor_box) (by decide +kernel)) (fun _ _ _ _ _ => (pg_name (i := 2) sc.nd rfl (.inl rfl))) (fun _ _ _ _ _ => pts_nil) (fun _ _ _ _ _ => (pe_op op_mulD (pe_callG (ok__law_draw T) (hr.mono (by decide)) hgd (by rfl) T.g__law_draw T.F__law_draw.kp T.b__law_draw (fun σ => pass00 σ) (pa_cons (pv 0) (pa_cons pe_int pa_nil))) (pe_callB (cr_min2D rfl) (by rfl) T.n_min (by decide +kernel) (pa_cons pe_int (pa_cons (pe_callG (ok__law_draw T) (hr.mono (by decide)) hgd (by rfl) T.g__law_draw T.F__law_draw.kp T.b__law_draw (fun σ => pass00 σ) (pa_cons (pv 0) (pa_cons pe_int pa_nil))) pa_nil)))))))), ?_⟩
  exact (ds_ret (de_comp (di_rng1 (da_cons de_var da_nil)) (dg_name (by decide)) (by decide) dt_yes (de_op od_mul (de_call0G (da_slot (da_cons de_int da_nil))) (de_cb cd_min2 (da_cons de_int (da_cons (de_call0G (da_slot (da_cons de_int da_nil))) da_nil))))))
theorem ok_are_coins (T : Txt K mg A) : GFn P w K mg base (L2.CX P w) 3 A.f_are_coins A.d_are_coins ["thing"] (spD K 1 F_are_coins) := by
  have sc := sc_are_coins
  refine def_okG T.F_are_coins sc [] g_are_coins rfl rfl (fun cdv A' outer s H E hr hgd => ?_)
  refine ⟨_, (pss_cons (ps_if (PW.pt (pw_or (pt_not (pt_val (pe_callG (ok_are_counts T) (hr.mono (by decide)) hgd (by rfl) T.g_are_counts T.F_are_counts.kp T.b_are_counts (fun σ => passAt (takes_of rfl rfl rfl rfl) σ) (pa_cons (pv 0) pa_nil)))) (pw_or1 (pt_not (pt_chain op_le op_le (pe_glob (v := .int 2) rfl T.c_FEWEST_COINS.choose_spec ⟨_, rfl⟩) (pe_callB (cr_lenK rfl) (by rfl) T.n_len (by decide +kernel) (pa_cons (pv 0) pa_nil)) (pe_glob (v := .int 5) rfl T.c_MOST_COINS.choose_spec ⟨_, rfl⟩)))))) (pss_one (ps_ret pe_bl)) pss_nil)
      (pss_cons (ps_if (PW.pt (pw_or (pt_cmpR (op_neK rfl hr.units) (pe_ix (ix_seqK rfl) (pv 0) pe_int (fun _ _ => rfl)) pe_int (nomark _)) (pw_or1 (pt_cmpR op_gt (pe_ix (ix_seqK rfl) (pv 0) (pe_un un_neg pe_int) (fun _ _ => rfl)) (pe_glob (v := .int 100000) rfl T.c_GREATEST_COIN.choose_spec ⟨_, rfl⟩) (nomark _))))) (pss_one (ps_ret pe_bl)) pss_nil)
      (pss_cons (ps_for (passes_of rfl) rfl (pi_range2 (by rfl) T.n_range (pa_cons pe_int (pa_cons (pe_callB (cr_lenK rfl) (by rfl) T.n_len (by decide +kernel) (pa_cons (pv 0) pa_nil)) pa_nil))) (pg_name (i := 1) sc.nd rfl (.inl rfl))
      (pss_one (ps_if (PW.pt (pw_or (pt_cmpR op_le (pe_ix (ix_seqK rfl) (pv 0) (pv 1) (fun _ _ => rfl)) (pe_ix (ix_seqK rfl) (pv 0) (pe_op op_sub (pv 1) pe_int) (fun _ _ => rfl)) (nomark _)) (pw_or1 (pt_cmpR (op_neK rfl hr.units) (pe_op op_mod (pe_ix (ix_seqK rfl) (pv 0) (pv 1) (fun _ _ => rfl)) (pe_ix (ix_seqK rfl) (pv 0) (pe_op op_sub (pv 1) pe_int) (fun _ _ => rfl))) pe_int (nomark _))))) (pss_one (ps_ret pe_bl)) pss_nil)))
      (pss_one (ps_ret pe_bl))))), ?_⟩
  exact (ds_seq (ds_if (dt_or (dt_not (dt_B (de_call (da_cons de_var da_nil)))) (dt_not (dt_test (de_chain od_le od_le de_int (de_cb cd_len (da_cons de_var da_nil)) de_int)))) (ds_ret de_bl) ds_next)
      (ds_seq (ds_if (dt_or (dt_test (de_op od_ne (de_op od_ix de_var de_int) de_int)) (dt_test (de_op od_gt (de_op od_ix de_var (de_un ud_neg de_int)) de_int))) (ds_ret de_bl) ds_next)
      (ds_seq (ds_for (di_rng2 (da_cons de_int (da_cons (de_cb cd_len (da_cons de_var da_nil)) da_nil))) (dg_name (by decide))
      (ds_if (dt_or (dt_test (de_op od_le (de_op od_ix de_var de_var) (de_op od_ix de_var (de_op od_sub de_var de_int)))) (dt_test (de_op od_ne (de_op od_mod (de_op od_ix de_var de_var) (de_op od_ix de_var (de_op od_sub de_var de_int))) de_int))) (ds_ret de_bl) ds_next))
      (ds_ret de_bl))))
theorem ok_are_for_each (T : Txt K mg A) : GFn P w K mg base (L2.CX P w) 3 A.f_are_for_each A.d_are_for_each ["coins", "thing"] (spD K 2 F_are_for_each) := by
  have sc := sc_are_for_each
  refine def_okG T.F_are_for_each sc [] g_are_for_each rfl rfl (fun cdv A' outer s H E hr hgd => ?_)
  refine ⟨_, (pss_one (ps_ret (pe_and (pe_callG (ok_are_counts T) (hr.mono (by decide)) hgd (by rfl) T.g_are_counts T.F_are_counts.kp T.b_are_counts (fun σ => passAt (takes_of rfl rfl rfl rfl) σ) (pa_cons (pv 1) pa_nil)) (pe_one (pe_cmpR (op_eqK rfl hr.units) (pe_callB (cr_lenK rfl) (by rfl) T.n_len (by decide +kernel) (pa_cons (pv 1) pa_nil)) (pe_callB (cr_lenK rfl) (by rfl) T.n_len (by decide +kernel) (pa_cons (pv 0) pa_nil)) (nomark _)))))), ?_⟩
  exact (ds_ret (de_and (de_call (da_cons de_var da_nil)) (de_op od_eq (de_cb cd_len (da_cons de_var da_nil)) (de_cb cd_len (da_cons de_var da_nil)))))
theorem ok__law_paid_out_all (T : Txt K mg A) : GFn P w K mg base (L2.CX P w) 3 A.f__law_paid_out_all A.d__law_paid_out_all ["metal", "box", "guests"] (spD K 3 F__law_paid_out_all) := by
  have sc := sc__law_paid_out_all
  refine def_okG T.F__law_paid_out_all sc [] g__law_paid_out_all rfl rfl (fun cdv A' outer s H E hr hgd => ?_)
  refine ⟨_, (pss_cons (ps_for (passes_of rfl) rfl (pi_listK rfl (pv 2)) (pg_name (i := 3) sc.nd rfl (.inl rfl))
      (pss_one (ps_if (pt_cmpR op_isNotND (pv 1) pe_non (nomark _)) (pss_one (ps_set (i := 1) sc.nd rfl (.inl rfl) (pe_callG (ok__law_paid_out T) (hr.mono (by decide)) hgd (by rfl) T.g__law_paid_out T.F__law_paid_out.kp T.b__law_paid_out (fun σ => passAt (takes_of rfl rfl rfl rfl) σ) (pa_cons (pv 0) (pa_cons (pv 1) (pa_cons (pv 3) pa_nil)))))) pss_nil)))
      (pss_one (ps_ret (pv 1)))), ?_⟩
  exact (ds_seq (ds_for (di_list de_var) (dg_name (by decide))
      (ds_if (dt_test (de_op od_isNotN de_var de_non)) (ds_set (by decide) (de_call (da_cons de_var (da_cons de_var (da_cons de_var da_nil))))) ds_next))
      (ds_ret de_var))
theorem ok__law_folk (T : Txt K mg A) : GFn P w K mg base (L2.CX P w) 3 A.f__law_folk A.d__law_folk ["deck", "metal", "most"] (spD K 3 F__law_folk) := by
  have sc := sc__law_folk
  refine def_okG T.F__law_folk sc [0] g__law_folk rfl rfl (fun cdv A' outer s H E hr hgd => ?_)
  refine ⟨_, (pss_cons (ps_set (i := 3) sc.nd rfl (.inl rfl) (pe_lst pa_nil))
      (pss_cons (ps_for (passes_of rfl) rfl (pi_range1 rfl T.n_range (pa_cons (pe_callG (ok__law_draw T) (hr.mono (by decide)) hgd (by rfl) T.g__law_draw T.F__law_draw.kp T.b__law_draw (fun σ => passAt (takes_of rfl rfl rfl rfl) σ) (pa_cons (pv 0) (pa_cons (pe_op op_addD (pv 2) pe_int) pa_nil))) pa_nil)) (pg_name (i := 4) sc.nd rfl (.inl rfl))
      (pss_cons (ps_set (i := 5) sc.nd rfl (.inl rfl) (pe_and (pe_cmpR (op_neK rfl hr.units) (pv 3) (pe_lst pa_nil) (nomark _)) (pe_one (pe_cmpR (op_eqK rfl hr.units) (pe_callG (ok__law_draw T) (hr.mono (by decide)) hgd (by rfl) T.g__law_draw T.F__law_draw.kp T.b__law_draw (fun σ => passAt (takes_of rfl rfl rfl rfl) σ) (pa_cons (pv 0) (pa_cons pe_int pa_nil))) pe_int (nomark _)))))
      (pss_one (ps_expr (pe_bm PySem.F.plainAttrs_list PySem.F.slot_list_append PySem.F.type_list_append mt_append (pv 3) (pa_cons (pe_ifExp (pt_val (pv 5)) (pe_ix (ix_seqK rfl) (pv 3) (pe_callG (ok__law_draw T) (hr.mono (by decide)) hgd (by rfl) T.g__law_draw T.F__law_draw.kp T.b__law_draw (fun σ => passAt (takes_of rfl rfl rfl rfl) σ) (pa_cons (pv 0) (pa_cons (pe_callB (cr_lenK rfl) (by rfl) T.n_len PySem.boot_len (pa_cons (pv 3) pa_nil)) pa_nil))) (fun _ _ => rfl)) (pe_callG (ok__law_guest T) (hr.mono (by decide)) hgd (by rfl) T.g__law_guest T.F__law_guest.kp T.b__law_guest (fun σ => passAt (takes_of rfl rfl rfl rfl) σ) (pa_cons (pv 0) (pa_cons (pv 1) pa_nil)))) pa_nil))))))
      (pss_one (ps_ret (pv 3))))), ?_⟩
  exact (ds_seq (ds_setO (by decide) (de_lst da_nil))
      (ds_seq (ds_for (di_rng1 (da_cons (de_call (da_slot (da_cons (de_op od_add de_var de_int) da_nil))) da_nil)) (dg_name (by decide))
      (ds_seq (ds_set (by decide) (de_and (de_lent (de_op od_ne de_var (de_lst da_nil))) (de_op od_eq (de_call (da_slot (da_cons de_int da_nil))) de_int)))
      (ds_app (de_if (dt_B de_var) (de_ixO (de_call (da_slot (da_cons de_lenO da_nil)))) (de_call (da_slot (da_cons de_var da_nil)))))))
      (ds_ret de_move)))
theorem ok_check_coins (T : Txt K mg A) : GFn P w K mg base (L2.CX P w) 4 A.f_check_coins A.d_check_coins ["thing"] (spD K 1 F_check_coins) := by
  have sc := sc_check_coins
  refine def_okG T.F_check_coins sc [] g_check_coins rfl rfl (fun cdv A' outer s H E hr hgd => ?_)
  refine ⟨_, (pss_one (ps_if (pt_not (pt_val (pe_callG (ok_are_coins T) (hr.mono (by decide)) hgd (by rfl) T.g_are_coins T.F_are_coins.kp T.b_are_coins (fun σ => passAt (takes_of rfl rfl rfl rfl) σ) (pa_cons (pv 0) pa_nil)))) (pss_one ps_never) pss_nil)), ?_⟩
  exact (ds_if (dt_not (dt_B (de_call (da_cons de_var da_nil)))) ds_never ds_next)
theorem ok__are_paid (T : Txt K mg A) : GFn P w K mg base (L2.CX P w) 4 A.f__are_paid A.d__are_paid ["coins", "thing"] (spD K 2 F__are_paid) := by
  have sc := sc__are_paid
  refine def_okG T.F__are_paid sc [] g__are_paid rfl rfl (fun cdv A' outer s H E hr hgd => ?_)
  refine ⟨_, (pss_one (ps_ret (pe_and (pe_callG (ok_are_for_each T) (hr.mono (by decide)) hgd (by rfl) T.g_are_for_each T.F_are_for_each.kp T.b_are_for_each (fun σ => passAt (takes_of rfl rfl rfl rfl) σ) (pa_cons (pv 0) (pa_cons (pv 1) pa_nil))) (pe_one (pe_cmpR op_le (pe_callB (cr_maxK rfl rfl) (by rfl) T.n_max (by decide +kernel) (pa_cons (pv 1) pa_nil)) (pe_glob (v := .int 1000000) rfl T.c_MOST_PAID.choose_spec ⟨_, rfl⟩) (nomark _)))))), ?_⟩
  exact (ds_ret (de_and (de_call (da_cons de_var (da_cons de_var da_nil))) (de_op od_le (de_cb cd_max1 (da_cons de_var da_nil)) de_int)))
theorem ok__law_due (T : Txt K mg A) : GFn P w K mg base (L2.CX P w) 4 A.f__law_due A.d__law_due ["metal", "box", "folk"] (spD K 3 F__law_due) := by
  have sc := sc__law_due
  refine def_okG T.F__law_due sc [] g__law_due rfl rfl (fun cdv A' outer s H E hr hgd => ?_)
  refine ⟨_, (pss_cons (ps_for (passes_of rfl) rfl (pi_listK rfl (pe_callG (ok__law_orders T) (hr.mono (by decide)) hgd (by rfl) T.g__law_orders T.F__law_orders.kp T.b__law_orders (fun σ => passAt (takes_of rfl rfl rfl rfl) σ) (pa_cons (pe_callB (cr_lenK rfl) (by rfl) T.n_len (by decide +kernel) (pa_cons (pv 2) pa_nil)) pa_nil))) (pg_name (i := 3) sc.nd rfl (.inl rfl))
      (pss_one (ps_if (pt_cmpR op_isNotND (pe_callG (ok__law_paid_out_all T) (hr.mono (by decide)) hgd (by rfl) T.g__law_paid_out_all T.F__law_paid_out_all.kp T.b__law_paid_out_all (fun σ => passAt (takes_of rfl rfl rfl rfl) σ) (pa_cons (pv 0) (pa_cons (pv 1) (pa_cons (pe_lc (own := [("place", 4)]) rfl sc.nd (pi_listK rfl (pv 3)) (blkOk_by (own := [("place", 4)]) (N := ["metal", "box", "folk", "places", "place"]) (sc := defScope s__law_due) (by decide +kernel)) (fun _ _ _ _ _ => (pg_name (i := 4) sc.nd rfl (.inl rfl))) (fun _ _ _ _ _ => pts_nil) (fun _ _ _ _ _ => (pe_ix (ix_seqK rfl) (pv 2) (pv 4) (fun _ _ => rfl)))) pa_nil)))) pe_non (nomark _)) (pss_one (ps_ret (pv 3))) pss_nil)))
      (pss_one (ps_ret pe_non))), ?_⟩
  exact (ds_seq (ds_for (di_list (de_call (da_cons (de_cb cd_len (da_cons de_var da_nil)) da_nil))) (dg_name (by decide))
      (ds_if (dt_test (de_op od_isNotN (de_call (da_cons de_var (da_cons de_var (da_cons (de_comp (di_list de_var) (dg_name (by decide)) (by decide) dt_yes (de_op od_ix de_var de_var)) da_nil)))) de_non)) (ds_ret de_var) ds_next))
      (ds_ret de_non))
theorem ok_is_till (T : Txt K mg A) : GFn P w K mg base (L2.CX P w) 5 A.f_is_till A.d_is_till ["coins", "thing"] (spD K 2 F_is_till) := by
  have sc := sc_is_till
  refine def_okG T.F_is_till sc [] g_is_till rfl rfl (fun cdv A' outer s H E hr hgd => ?_)
  refine ⟨_, (pss_cons (ps_expr (pe_callG (ok_check_coins T) (hr.mono (by decide)) hgd (by rfl) T.g_check_coins T.F_check_coins.kp T.b_check_coins (fun σ => passAt (takes_of rfl rfl rfl rfl) σ) (pa_cons (pv 0) pa_nil)))
      (pss_one (ps_ret (pe_callG (ok_are_for_each T) (hr.mono (by decide)) hgd (by rfl) T.g_are_for_each T.F_are_for_each.kp T.b_are_for_each (fun σ => passAt (takes_of rfl rfl rfl rfl) σ) (pa_cons (pv 0) (pa_cons (pv 1) pa_nil)))))), ?_⟩
  exact (ds_seq (ds_drop (de_call (da_cons de_var da_nil)))
      (ds_ret (de_call (da_cons de_var (da_cons de_var da_nil)))))
theorem ok_is_customer (T : Txt K mg A) : GFn P w K mg base (L2.CX P w) 5 A.f_is_customer A.d_is_customer ["coins", "thing"] (spD K 2 F_is_customer) := by
  have sc := sc_is_customer
  refine def_okG T.F_is_customer sc [] g_is_customer rfl rfl (fun cdv A' outer s H E hr hgd => ?_)
  refine ⟨_, (pss_cons (ps_expr (pe_callG (ok_check_coins T) (hr.mono (by decide)) hgd (by rfl) T.g_check_coins T.F_check_coins.kp T.b_check_coins (fun σ => passAt (takes_of rfl rfl rfl rfl) σ) (pa_cons (pv 0) pa_nil)))
      (pss_cons (ps_if (PW.pt (pw_or (pt_not (pt_val (pe_callB (cr_isiK rfl) (by rfl) T.n_isinstance (by decide +kernel) (pa_cons (pv 1) (pa_cons (pe_bltn (v := .ty "tuple") (by rfl) T.n_tuple (by decide +kernel) rfl) pa_nil))))) (pw_or1 (pt_cmpR (op_neK rfl hr.units) (pe_callB (cr_lenK rfl) (by rfl) T.n_len (by decide +kernel) (pa_cons (pv 1) pa_nil)) pe_int (nomark _))))) (pss_one (ps_ret pe_bl)) pss_nil)
      (pss_cons (ps_asg (pv 1) (pg_tupK (n := 2) rfl rfl (pgs_cons (pg_name (i := 2) sc.nd rfl (.inl rfl)) (pgs_cons (pg_name (i := 3) sc.nd rfl (.inl rfl)) pgs_nil))))
      (pss_cons (ps_if (PW.pt (pw_or (pt_not (pt_val (pe_callG (ok_is_whole T) (hr.mono (by decide)) hgd (by rfl) T.g_is_whole T.F_is_whole.kp T.b_is_whole (fun σ => passAt (takes_of rfl rfl rfl rfl) σ) (pa_cons (pv 2) pa_nil)))) (pw_or1 (pt_not (pt_chain op_le op_le pe_int (pv 2) (pe_glob (v := .int 1000000000) rfl T.c_GREATEST_PRICE.choose_spec ⟨_, rfl⟩)))))) (pss_one (ps_ret pe_bl)) pss_nil)
      (pss_one (ps_ret (pe_and (pe_callG (ok__are_paid T) (hr.mono (by decide)) hgd (by rfl) T.g__are_paid T.F__are_paid.kp T.b__are_paid (fun σ => passAt (takes_of rfl rfl rfl rfl) σ) (pa_cons (pv 0) (pa_cons (pv 3) pa_nil))) (pe_one (pe_cmpR op_ge (pe_callG (ok_worth_of T) (hr.mono (by decide)) hgd (by rfl) T.g_worth_of T.F_worth_of.kp T.b_worth_of (fun σ => passAt (takes_of rfl rfl rfl rfl) σ) (pa_cons (pv 0) (pa_cons (pv 3) pa_nil))) (pv 2) (nomark _)))))))))), ?_⟩
  exact (ds_seq (ds_drop (de_call (da_cons de_var da_nil)))
      (ds_seq (ds_if (dt_or (dt_not (dt_B (de_cb cd_isi (da_cons de_var (da_cons de_ty da_nil))))) (dt_test (de_op od_ne (de_cb cd_len (da_cons de_var da_nil)) de_int))) (ds_ret de_bl) ds_next)
      (ds_seq (ds_asg (dg_tup (by rfl) (dgs_cons (dg_name (by decide)) (dgs_cons (dg_name (by decide)) dgs_nil))) de_var)
      (ds_seq (ds_if (dt_or (dt_not (dt_B (de_call (da_cons de_var da_nil)))) (dt_not (dt_test (de_chain od_le od_le de_int de_var de_int)))) (ds_ret de_bl) ds_next)
      (ds_ret (de_and (de_call (da_cons de_var (da_cons de_var da_nil))) (de_op od_ge (de_call (da_cons de_var (da_cons de_var da_nil))) de_var)))))))
theorem ok_check_till (T : Txt K mg A) : GFn P w K mg base (L2.CX P w) 6 A.f_check_till A.d_check_till ["coins", "thing"] (spD K 2 F_check_till) := by
  have sc := sc_check_till
  refine def_okG T.F_check_till sc [] g_check_till rfl rfl (fun cdv A' outer s H E hr hgd => ?_)
  refine ⟨_, (pss_one (ps_if (pt_not (pt_val (pe_callG (ok_is_till T) (hr.mono (by decide)) hgd (by rfl) T.g_is_till T.F_is_till.kp T.b_is_till (fun σ => passAt (takes_of rfl rfl rfl rfl) σ) (pa_cons (pv 0) (pa_cons (pv 1) pa_nil))))) (pss_one ps_never) pss_nil)), ?_⟩
  exact (ds_if (dt_not (dt_B (de_call (da_cons de_var (da_cons de_var da_nil))))) ds_never ds_next)
theorem ok_check_customer (T : Txt K mg A) : GFn P w K mg base (L2.CX P w) 6 A.f_check_customer A.d_check_customer ["coins", "thing"] (spD K 2 F_check_customer) := by
  have sc := sc_check_customer
  refine def_okG T.F_check_customer sc [] g_check_customer rfl rfl (fun cdv A' outer s H E hr hgd => ?_)
  refine ⟨_, (pss_one (ps_if (pt_not (pt_val (pe_callG (ok_is_customer T) (hr.mono (by decide)) hgd (by rfl) T.g_is_customer T.F_is_customer.kp T.b_is_customer (fun σ => passAt (takes_of rfl rfl rfl rfl) σ) (pa_cons (pv 0) (pa_cons (pv 1) pa_nil))))) (pss_one ps_never) pss_nil)), ?_⟩
  exact (ds_if (dt_not (dt_B (de_call (da_cons de_var (da_cons de_var da_nil))))) ds_never ds_next)
theorem ok_is_day (T : Txt K mg A) : GFn P w K mg base (L2.CX P w) 6 A.f_is_day A.d_is_day ["coins", "thing"] (spD K 2 F_is_day) := by
  have sc := sc_is_day
  refine def_okG T.F_is_day sc [] g_is_day rfl rfl (fun cdv A' outer s H E hr hgd => ?_)
  refine ⟨_, (pss_cons (ps_expr (pe_callG (ok_check_coins T) (hr.mono (by decide)) hgd (by rfl) T.g_check_coins T.F_check_coins.kp T.b_check_coins (fun σ => passAt (takes_of rfl rfl rfl rfl) σ) (pa_cons (pv 0) pa_nil)))
      (pss_cons (ps_if (PW.pt (pw_or (pt_not (pt_val (pe_callB (cr_isiK rfl) (by rfl) T.n_isinstance (by decide +kernel) (pa_cons (pv 1) (pa_cons (pe_bltn (v := .ty "list") (by rfl) T.n_list (by decide +kernel) rfl) pa_nil))))) (pw_or1 (pt_cmpR op_gt (pe_callB (cr_lenK rfl) (by rfl) T.n_len (by decide +kernel) (pa_cons (pv 1) pa_nil)) (pe_glob (v := .int 40) rfl T.c_MOST_CUSTOMERS.choose_spec ⟨_, rfl⟩) (nomark _))))) (pss_one (ps_ret pe_bl)) pss_nil)
      (pss_cons (ps_for (passes_of rfl) rfl (pi_listK rfl (pv 1)) (pg_name (i := 2) sc.nd rfl (.inl rfl))
      (pss_one (ps_if (pt_not (pt_val (pe_callG (ok_is_customer T) (hr.mono (by decide)) hgd (by rfl) T.g_is_customer T.F_is_customer.kp T.b_is_customer (fun σ => passAt (takes_of rfl rfl rfl rfl) σ) (pa_cons (pv 0) (pa_cons (pv 2) pa_nil))))) (pss_one (ps_ret pe_bl)) pss_nil)))
      (pss_one (ps_ret pe_bl))))), ?_⟩
  exact (ds_seq (ds_drop (de_call (da_cons de_var da_nil)))
      (ds_seq (ds_if (dt_or (dt_not (dt_B (de_cb cd_isi (da_cons de_var (da_cons de_ty da_nil))))) (dt_test (de_op od_gt (de_cb cd_len (da_cons de_var da_nil)) de_int))) (ds_ret de_bl) ds_next)
      (ds_seq (ds_for (di_list de_var) (dg_name (by decide))
      (ds_if (dt_not (dt_B (de_call (da_cons de_var (da_cons de_var da_nil))))) (ds_ret de_bl) ds_next))
      (ds_ret de_bl))))
theorem ok_levels_of (T : Txt K mg A) : GFn P w K mg base (L2.CX P w) 7 A.f_levels_of A.d_levels_of ["coins", "till"] (spD K 2 F_levels_of) := by
  have sc := sc_levels_of
  refine def_okG T.F_levels_of sc [] g_levels_of rfl rfl (fun cdv A' outer s H E hr hgd => ?_)
  refine ⟨_, (pss_cons (ps_expr (pe_callG (ok_check_till T) (hr.mono (by decide)) hgd (by rfl) T.g_check_till T.F_check_till.kp T.b_check_till (fun σ => passAt (takes_of rfl rfl rfl rfl) σ) (pa_cons (pv 0) (pa_cons (pv 1) pa_nil))))
      (pss_cons (ps_set (i := 2) sc.nd rfl (.inl rfl) (pe_lst pa_nil))
      (pss_cons (ps_set (i := 3) sc.nd rfl (.inl rfl) pe_int)
      (pss_cons (ps_for (passes_of rfl) rfl (pi_zip (by rfl) T.n_zip (pa_cons (pv 0) (pa_cons (pv 1) pa_nil))) (pg_tupK (n := 2) rfl rfl (pgs_cons (pg_name (i := 4) sc.nd rfl (.inl rfl)) (pgs_cons (pg_name (i := 5) sc.nd rfl (.inl rfl)) pgs_nil)))
      (pss_cons (ps_set (i := 3) sc.nd rfl (.inl rfl) (pe_op op_addD (pv 3) (pe_op op_mulD (pv 4) (pv 5))))
      (pss_one (ps_expr (pe_bm PySem.F.plainAttrs_list PySem.F.slot_list_append PySem.F.type_list_append mt_append (pv 2) (pa_cons (pv 3) pa_nil))))))
      (pss_one (ps_ret (pv 2))))))), ?_⟩
  exact (ds_seq (ds_drop (de_call (da_cons de_var (da_cons de_var da_nil))))
      (ds_seq (ds_setO (by decide) (de_lst da_nil))
      (ds_seq (ds_set (by decide) de_int)
      (ds_seq (ds_for (di_zip (da_cons de_var (da_cons de_var da_nil))) (dg_tup (by rfl) (dgs_cons (dg_name (by decide)) (dgs_cons (dg_name (by decide)) dgs_nil)))
      (ds_seq (ds_set (by decide) (de_op od_add de_var (de_op od_mul de_var de_var)))
      (ds_app de_var)))
      (ds_ret de_move)))))
theorem ok_change_of (T : Txt K mg A) : GFn P w K mg base (L2.CX P w) 7 A.f_change_of A.d_change_of ["coins", "customer"] (spD K 2 F_change_of) := by
  have sc := sc_change_of
  refine def_okG T.F_change_of sc [] g_change_of rfl rfl (fun cdv A' outer s H E hr hgd => ?_)
  refine ⟨_, (pss_cons (ps_expr (pe_callG (ok_check_customer T) (hr.mono (by decide)) hgd (by rfl) T.g_check_customer T.F_check_customer.kp T.b_check_customer (fun σ => passAt (takes_of rfl rfl rfl rfl) σ) (pa_cons (pv 0) (pa_cons (pv 1) pa_nil))))
      (pss_cons (ps_asg (pv 1) (pg_tupK (n := 2) rfl rfl (pgs_cons (pg_name (i := 2) sc.nd rfl (.inl rfl)) (pgs_cons (pg_name (i := 3) sc.nd rfl (.inl rfl)) pgs_nil))))
      (pss_one (ps_ret (pe_op op_sub (pe_callG (ok_worth_of T) (hr.mono (by decide)) hgd (by rfl) T.g_worth_of T.F_worth_of.kp T.b_worth_of (fun σ => passAt (takes_of rfl rfl rfl rfl) σ) (pa_cons (pv 0) (pa_cons (pv 3) pa_nil))) (pv 2)))))), ?_⟩
  exact (ds_seq (ds_drop (de_call (da_cons de_var (da_cons de_var da_nil))))
      (ds_seq (ds_asg (dg_tup (by rfl) (dgs_cons (dg_name (by decide)) (dgs_cons (dg_name (by decide)) dgs_nil))) de_var)
      (ds_ret (de_op od_sub (de_call (da_cons de_var (da_cons de_var da_nil))) de_var))))
theorem ok_check_day (T : Txt K mg A) : GFn P w K mg base (L2.CX P w) 7 A.f_check_day A.d_check_day ["coins", "thing"] (spD K 2 F_check_day) := by
  have sc := sc_check_day
  refine def_okG T.F_check_day sc [] g_check_day rfl rfl (fun cdv A' outer s H E hr hgd => ?_)
  refine ⟨_, (pss_one (ps_if (pt_not (pt_val (pe_callG (ok_is_day T) (hr.mono (by decide)) hgd (by rfl) T.g_is_day T.F_is_day.kp T.b_is_day (fun σ => passAt (takes_of rfl rfl rfl rfl) σ) (pa_cons (pv 0) (pa_cons (pv 1) pa_nil))))) (pss_one ps_never) pss_nil)), ?_⟩
  exact (ds_if (dt_not (dt_B (de_call (da_cons de_var (da_cons de_var da_nil))))) ds_never ds_next)
theorem ok_adds (T : Txt K mg A) : GFn P w K mg base (L2.CX P w) 8 A.f_adds A.d_adds ["coins", "customer"] (spD K 2 F_adds) := by
  have sc := sc_adds
  refine def_okG T.F_adds sc [] g_adds rfl rfl (fun cdv A' outer s H E hr hgd => ?_)
  refine ⟨_, (pss_cons (ps_set (i := 2) sc.nd rfl (.inl rfl) (pe_callG (ok_change_of T) (hr.mono (by decide)) hgd (by rfl) T.g_change_of T.F_change_of.kp T.b_change_of (fun σ => passAt (takes_of rfl rfl rfl rfl) σ) (pa_cons (pv 0) (pa_cons (pv 1) pa_nil))))
      (pss_cons (ps_asg (pv 1) (pg_tupK (n := 2) rfl rfl (pgs_cons (pg_name (i := 3) sc.nd rfl (.inl rfl)) (pgs_cons (pg_name (i := 4) sc.nd rfl (.inl rfl)) pgs_nil))))
      (pss_cons (ps_set (i := 5) sc.nd rfl (.inl rfl) (pe_lst pa_nil))
      (pss_cons (ps_set (i := 6) sc.nd rfl (.inl rfl) pe_int)
      (pss_cons (ps_for (passes_of rfl) rfl (pi_range1 rfl T.n_range (pa_cons (pe_op op_sub (pe_callB (cr_lenK rfl) (by rfl) T.n_len (by decide +kernel) (pa_cons (pv 0) pa_nil)) pe_int) pa_nil)) (pg_name (i := 7) sc.nd rfl (.inl rfl))
      (pss_cons (ps_set (i := 6) sc.nd rfl (.inl rfl) (pe_op op_addD (pv 6) (pe_op op_mulD (pe_ix (ix_seqK rfl) (pv 0) (pv 7) (fun _ _ => rfl)) (pe_ix (ix_seqK rfl) (pv 4) (pv 7) (fun _ _ => rfl)))))
      (pss_one (ps_expr (pe_bm PySem.F.plainAttrs_list PySem.F.slot_list_append PySem.F.type_list_append mt_append (pv 5) (pa_cons (pe_op op_sub (pv 6) (pe_op op_mod (pv 2) (pe_ix (ix_seqK rfl) (pv 0) (pe_op op_addD (pv 7) pe_int) (fun _ _ => rfl)))) pa_nil))))))
      (pss_cons (ps_expr (pe_bm PySem.F.plainAttrs_list PySem.F.slot_list_append PySem.F.type_list_append mt_append (pv 5) (pa_cons (pv 3) pa_nil)))
      (pss_one (ps_ret (pv 5))))))))), ?_⟩
  exact (ds_seq (ds_set (by decide) (de_call (da_cons de_var (da_cons de_var da_nil))))
      (ds_seq (ds_asg (dg_tup (by rfl) (dgs_cons (dg_name (by decide)) (dgs_cons (dg_name (by decide)) dgs_nil))) de_var)
      (ds_seq (ds_setO (by decide) (de_lst da_nil))
      (ds_seq (ds_set (by decide) de_int)
      (ds_seq (ds_for (di_rng1 (da_cons (de_op od_sub (de_cb cd_len (da_cons de_var da_nil)) de_int) da_nil)) (dg_name (by decide))
      (ds_seq (ds_set (by decide) (de_op od_add de_var (de_op od_mul (de_op od_ix de_var de_var) (de_op od_ix de_var de_var))))
      (ds_app (de_op od_sub de_var (de_op od_mod de_var (de_op od_ix de_var (de_op od_add de_var de_int)))))))
      (ds_seq (ds_app de_var)
      (ds_ret de_move)))))))
theorem ok__law_same (T : Txt K mg A) : ∀ n : Nat, GFn P w K mg base (L2.CX P w) (1 + n) A.f__law_same A.d__law_same ["found", "due"] (spD K 2 (F__law_same n))
  | 0 => gfn_bad rfl
  | n + 1 => by
    have ih : GFn P w K mg base (L2.CX P w) (1 + n) A.f__law_same A.d__law_same ["found", "due"] (spD K 2 (F__law_same n)) := ok__law_same T n
    have sc := sc__law_same
    refine def_okG (k := 1 + n) T.F__law_same sc [] (g__law_same (F__law_same n)) rfl rfl (fun cdv A' outer s H E hr hgd => ?_)
    refine ⟨_, (pss_cons (ps_if (pt_val (pe_callB (cr_isiK rfl) (by rfl) T.n_isinstance (by decide +kernel) (pa_cons (pv 1) (pa_cons (pe_tup (pa_cons (pe_bltn (v := .ty "list") (by rfl) T.n_list (by decide +kernel) rfl) (pa_cons (pe_bltn (v := .ty "tuple") (by rfl) T.n_tuple (by decide +kernel) rfl) pa_nil))) pa_nil)))) (pss_cons (ps_if (PW.pt (pw_or (pt_not (pt_val (pe_callB (cr_isiK rfl) (by rfl) T.n_isinstance (by decide +kernel) (pa_cons (pv 0) (pa_cons (pe_tup (pa_cons (pe_bltn (v := .ty "list") (by rfl) T.n_list (by decide +kernel) rfl) (pa_cons (pe_bltn (v := .ty "tuple") (by rfl) T.n_tuple (by decide +kernel) rfl) pa_nil))) pa_nil))))) (pw_or1 (pt_cmpR (op_neK rfl hr.units) (pe_callB (cr_isiK rfl) (by rfl) T.n_isinstance (by decide +kernel) (pa_cons (pv 0) (pa_cons (pe_bltn (v := .ty "list") (by rfl) T.n_list (by decide +kernel) rfl) pa_nil))) (pe_callB (cr_isiK rfl) (by rfl) T.n_isinstance (by decide +kernel) (pa_cons (pv 1) (pa_cons (pe_bltn (v := .ty "list") (by rfl) T.n_list (by decide +kernel) rfl) pa_nil))) (nomark _))))) (pss_one (ps_ret pe_bl)) pss_nil)
      (pss_one (ps_ret (pe_and (pe_cmpR (op_eqK rfl hr.units) (pe_callB (cr_lenK rfl) (by rfl) T.n_len (by decide +kernel) (pa_cons (pv 0) pa_nil)) (pe_callB (cr_lenK rfl) (by rfl) T.n_len (by decide +kernel) (pa_cons (pv 1) pa_nil)) (nomark _)) (pe_one (pe_callB (cr_allK rfl rfl) (by rfl) T.n_all (by decide +kernel) (pa_cons (pe_lc (own := [("one", 2), ("two", 3)]) rfl sc.nd (pi_zipAK rfl (by rfl) T.n_zip (pa_cons (pv 0) (pa_cons (pv 1) pa_nil))) (blkOk_by (own := [("one", 2), ("two", 3)]) (N := ["found", "due", "one", "two"]) (sc := defScope s__law_same) (by decide +kernel)) (fun _ _ _ _ _ => (pg_tupK (n := 2) rfl rfl (pgs_cons (pg_name (i := 2) sc.nd rfl (.inl rfl)) (pgs_cons (pg_name (i := 3) sc.nd rfl (.inl rfl)) pgs_nil)))) (fun _ _ _ _ _ => pts_nil) (fun _ _ _ _ _ => (pe_callG ih hr hgd (by rfl) T.g__law_same T.F__law_same.kp T.b__law_same (fun σ => pass00 σ) (pa_cons (pv 2) (pa_cons (pv 3) pa_nil))))) pa_nil))))))) pss_nil)
      (pss_one (ps_ret (pe_and (pe_cmpR (op_eqK rfl hr.units) (pe_callB (cr_isiK rfl) (by rfl) T.n_isinstance (by decide +kernel) (pa_cons (pv 0) (pa_cons (pe_bltn (v := .ty "bool") (by rfl) T.n_bool (by decide +kernel) rfl) pa_nil))) (pe_callB (cr_isiK rfl) (by rfl) T.n_isinstance (by decide +kernel) (pa_cons (pv 1) (pa_cons (pe_bltn (v := .ty "bool") (by rfl) T.n_bool (by decide +kernel) rfl) pa_nil))) (nomark _)) (pe_one (pe_cmpR (op_eqK rfl hr.units) (pv 0) (pv 1) (nomark _))))))), ?_⟩
    exact (ds_seq (ds_if (dt_B (de_cb cd_isi (da_cons de_var (da_cons (de_tup (da_cons de_ty (da_cons de_ty da_nil))) da_nil)))) (ds_seq (ds_if (dt_or (dt_not (dt_B (de_cb cd_isi (da_cons de_var (da_cons (de_tup (da_cons de_ty (da_cons de_ty da_nil))) da_nil))))) (dt_test (de_op od_ne (de_cb cd_isi (da_cons de_var (da_cons de_ty da_nil))) (de_cb cd_isi (da_cons de_var (da_cons de_ty da_nil)))))) (ds_ret de_bl) ds_next)
      (ds_ret (de_and (de_op od_eq (de_cb cd_len (da_cons de_var da_nil)) (de_cb cd_len (da_cons de_var da_nil))) (de_cb cd_all (da_cons (de_comp (di_zipA (da_cons de_var (da_cons de_var da_nil))) (dg_tup (by rfl) (dgs_cons (dg_name (by decide)) (dgs_cons (dg_name (by decide)) dgs_nil))) (by decide) dt_yes (de_call0G (da_cons de_var (da_cons de_var da_nil)))) da_nil))))) ds_next)
      (ds_ret (de_and (de_op od_eq (de_cb cd_isi (da_cons de_var (da_cons de_ty da_nil))) (de_cb cd_isi (da_cons de_var (da_cons de_ty da_nil)))) (de_op od_eq de_var de_var))))
theorem ok__first_order (T : Txt K mg A) : ∀ n : Nat, GFn P w K mg base (L2.CX P w) (2 + n) A.f__first_order A.d__first_order ["rows", "levels", "begun"] (spD K 3 (F__first_order n))
  | 0 => gfn_bad rfl
  | n + 1 => by
    have ih : GFn P w K mg base (L2.CX P w) (2 + n) A.f__first_order A.d__first_order ["rows", "levels", "begun"] (spD K 3 (F__first_order n)) := ok__first_order T n
    have sc := sc__first_order
    refine def_okG (k := 2 + n) T.F__first_order sc [2] (g__first_order (F__first_order n)) rfl rfl (fun cdv A' outer s H E hr hgd => ?_)
    refine ⟨_, (pss_cons (ps_if (pt_cmpR (op_eqK rfl hr.units) (pe_callB (cr_lenK rfl) (by rfl) T.n_len (by decide +kernel) (pa_cons (pv 2) pa_nil)) (pe_callB (cr_lenK rfl) (by rfl) T.n_len (by decide +kernel) (pa_cons (pv 0) pa_nil)) (nomark _)) (pss_one (ps_ret (pv 2))) pss_nil)
      (pss_cons (ps_for (passes_of rfl) rfl (pi_range1 rfl T.n_range (pa_cons (pe_callB (cr_lenK rfl) (by rfl) T.n_len (by decide +kernel) (pa_cons (pv 0) pa_nil)) pa_nil)) (pg_name (i := 3) sc.nd rfl (.inl rfl))
      (pss_cons (ps_if (pt_cmpR (op_inK rfl (room65 hr)) (pv 3) (pv 2) rfl) (pss_one ps_continue) pss_nil)
      (pss_cons (ps_set (i := 4) sc.nd rfl (.inl rfl) (pe_callG (ok__pressed T) (hr.mono (by omega)) hgd (by rfl) T.g__pressed T.F__pressed.kp T.b__pressed (fun σ => passAt (takes_of rfl rfl rfl rfl) σ) (pa_cons (pv 1) (pa_cons (pe_ix (ix_seqK rfl) (pv 0) (pv 3) (fun _ _ => rfl)) pa_nil))))
      (pss_cons (ps_if (pt_cmpR op_lt (pe_ix (ix_seqK rfl) (pv 4) pe_int (fun _ _ => rfl)) pe_int (nomark _)) (pss_one ps_continue) pss_nil)
      (pss_cons (ps_set (i := 5) sc.nd rfl (.inl rfl) (pe_callG ih hr hgd (by rfl) T.g__first_order T.F__first_order.kp T.b__first_order (fun σ => passAt (takes_of rfl rfl rfl rfl) σ) (pa_cons (pv 0) (pa_cons (pv 4) (pa_cons (pe_op op_addD (pv 2) (pe_lst (pa_cons (pv 3) pa_nil))) pa_nil)))))
      (pss_one (ps_if (pt_cmpR op_isNotND (pv 5) pe_non (nomark _)) (pss_one (ps_ret (pv 5))) pss_nil)))))))
      (pss_one (ps_ret pe_non)))), ?_⟩
    exact (ds_seq (ds_if (dt_lent (dt_test (de_op od_eq (de_cb cd_len (da_cons de_var da_nil)) (de_cb cd_len (da_cons de_var da_nil))))) (ds_ret de_moveT) ds_next)
      (ds_seq (ds_for (di_rng1 (da_cons (de_cb cd_len (da_cons de_var da_nil)) da_nil)) (dg_name (by decide))
      (ds_seq (ds_if (dt_lent (dt_test (de_op od_in de_var de_var))) ds_cont ds_next)
      (ds_seq (ds_set (by decide) (de_call (da_cons de_var (da_cons (de_op od_ix de_var de_var) da_nil))))
      (ds_seq (ds_if (dt_test (de_op od_lt (de_op od_ix de_var de_int) de_int)) ds_cont ds_next)
      (ds_seq (ds_setT (by decide) (de_callM de_var de_var (de_lent (de_op od_add de_var (de_lst (da_cons de_var da_nil))))))
      (ds_if (dt_lent (dt_test (de_op od_isNotN de_var de_non))) (ds_ret de_moveT) ds_next))))))
      (ds_ret de_non)))
theorem ok_order_for (T : Txt K mg A) : GFn P w K mg base (L2.CX P w) 11 A.f_order_for A.d_order_for ["coins", "till", "day"] (spD K 3 F_order_for) := by
  have sc := sc_order_for
  refine def_okG T.F_order_for sc [] g_order_for rfl rfl (fun cdv A' outer s H E hr hgd => ?_)
  refine ⟨_, (pss_cons (ps_expr (pe_callG (ok_check_till T) (hr.mono (by decide)) hgd (by rfl) T.g_check_till T.F_check_till.kp T.b_check_till (fun σ => passAt (takes_of rfl rfl rfl rfl) σ) (pa_cons (pv 0) (pa_cons (pv 1) pa_nil))))
      (pss_cons (ps_expr (pe_callG (ok_check_day T) (hr.mono (by decide)) hgd (by rfl) T.g_check_day T.F_check_day.kp T.b_check_day (fun σ => passAt (takes_of rfl rfl rfl rfl) σ) (pa_cons (pv 0) (pa_cons (pv 2) pa_nil))))
      (pss_cons (ps_if (pt_cmpR op_gt (pe_callB (cr_lenK rfl) (by rfl) T.n_len (by decide +kernel) (pa_cons (pv 2) pa_nil)) (pe_glob (v := .int 7) rfl T.c_MOST_ORDERED.choose_spec ⟨_, rfl⟩) (nomark _)) (pss_one ps_never) pss_nil)
      (pss_cons (ps_setLc (i := 3) (own := [("customer", 4)]) rfl sc.nd rfl rfl (sw_true rfl rfl rfl (by decide +kernel)) (pi_listK rfl (pv 2)) (blkOk_by (own := [("customer", 4)]) (N := ["coins", "till", "day", "rows", "customer"]) (sc := defScope s_order_for) (by decide +kernel)) (fun _ _ _ _ _ => (pg_name (i := 4) sc.nd rfl (.inl rfl))) (fun _ _ _ _ _ => pts_nil) (fun _ _ _ _ _ => (pe_callG (ok_adds T) (hr.mono (by decide)) hgd (by rfl) T.g_adds T.F_adds.kp T.b_adds (fun σ => pass00 σ) (pa_cons (pv 0) (pa_cons (pv 4) pa_nil)))))
      (pss_one (ps_ret (pe_callG (ok__first_order T 8) (hr.mono (by decide)) hgd (by rfl) T.g__first_order T.F__first_order.kp T.b__first_order (fun σ => passAt (takes_of rfl rfl rfl rfl) σ) (pa_cons (pv 3) (pa_cons (pe_callG (ok_levels_of T) (hr.mono (by decide)) hgd (by rfl) T.g_levels_of T.F_levels_of.kp T.b_levels_of (fun σ => passAt (takes_of rfl rfl rfl rfl) σ) (pa_cons (pv 0) (pa_cons (pv 1) pa_nil))) (pa_cons (pe_lst pa_nil) pa_nil)))))))))), ?_⟩
  exact (ds_seq (ds_drop (de_call (da_cons de_var (da_cons de_var da_nil))))
      (ds_seq (ds_drop (de_call (da_cons de_var (da_cons de_var da_nil))))
      (ds_seq (ds_if (dt_test (de_op od_gt (de_cb cd_len (da_cons de_var da_nil)) de_int)) ds_never ds_next)
      (ds_seq (ds_set (by decide) (de_comp (di_list de_var) (dg_name (by decide)) (by decide) dt_yes (de_call0G (da_cons de_var (da_cons de_var da_nil)))))
      (ds_ret (de_callM de_var (de_call (da_cons de_var (da_cons de_var da_nil))) (de_lst da_nil)))))))
theorem ok_law (T : Txt K mg A) : GFn P w K mg base (L2.CX P w) 12 A.f_law A.d_law ["script"] (spD K 1 F_law) := by
  have sc := sc_law
  refine def_okG T.F_law sc [] g_law rfl rfl (fun cdv A' outer s H E hr hgd => ?_)
  refine ⟨_, (pss_cons (ps_set (i := 1) sc.nd rfl (.inl rfl) (pe_callG (ok__law_deck T) (hr.mono (by decide)) hgd (by rfl) T.g__law_deck T.F__law_deck.kp T.b__law_deck (fun σ => passAt (takes_of rfl rfl rfl rfl) σ) (pa_cons (pv 0) pa_nil)))
      (pss_cons (ps_for (passes_of rfl) rfl (pi_range1 rfl T.n_range (pa_cons pe_int pa_nil)) (pg_name (i := 2) sc.nd rfl (.inl rfl))
      (pss_cons (ps_set (i := 3) sc.nd rfl (.inl rfl) (pe_callG (ok__law_metal T) (hr.mono (by decide)) hgd (by rfl) T.g__law_metal T.F__law_metal.kp T.b__law_metal (fun σ => passAt (takes_of rfl rfl rfl rfl) σ) (pa_cons (pv 1) pa_nil)))
      (pss_cons (ps_set (i := 4) sc.nd rfl (.inl rfl) (pe_callG (ok__law_poor_box T) (hr.mono (by decide)) hgd (by rfl) T.g__law_poor_box T.F__law_poor_box.kp T.b__law_poor_box (fun σ => passAt (takes_of rfl rfl rfl rfl) σ) (pa_cons (pv 1) (pa_cons (pe_callB (cr_lenK rfl) (by rfl) T.n_len (by decide +kernel) (pa_cons (pv 3) pa_nil)) pa_nil))))
      (pss_cons (ps_set (i := 5) sc.nd rfl (.inl rfl) (pe_callG (ok__law_folk T) (hr.mono (by decide)) hgd (by rfl) T.g__law_folk T.F__law_folk.kp T.b__law_folk (fun σ => passAt (takes_of rfl rfl rfl rfl) σ) (pa_cons (pv 1) (pa_cons (pv 3) (pa_cons (pe_ix (ix_seqK rfl) (pe_lst (pa_cons pe_int (pa_cons pe_int (pa_cons pe_int (pa_cons pe_int pa_nil))))) (pe_callG (ok__law_draw T) (hr.mono (by decide)) hgd (by rfl) T.g__law_draw T.F__law_draw.kp T.b__law_draw (fun σ => passAt (takes_of rfl rfl rfl rfl) σ) (pa_cons (pv 1) (pa_cons pe_int pa_nil))) (fun _ _ => rfl)) pa_nil)))))
      (pss_cons (ps_set (i := 6) sc.nd rfl (.inl rfl) (pe_callG (ok__law_due T) (hr.mono (by decide)) hgd (by rfl) T.g__law_due T.F__law_due.kp T.b__law_due (fun σ => passAt (takes_of rfl rfl rfl rfl) σ) (pa_cons (pv 3) (pa_cons (pv 4) (pa_cons (pv 5) pa_nil)))))
      (pss_cons (ps_set (i := 7) sc.nd rfl (.inl rfl) (pe_callB (cr_reprK rfl hgd hr.units) (by rfl) T.n_repr (by decide +kernel) (pa_cons (pe_lst (pa_cons (pv 3) (pa_cons (pv 4) (pa_cons (pv 5) pa_nil)))) pa_nil)))
      (pss_cons (ps_set (i := 8) sc.nd rfl (.inl rfl) (pe_callG (ok_order_for T) (hr.mono (by decide)) hgd (by rfl) T.g_order_for T.F_order_for.kp T.b_order_for (fun σ => passAt (takes_of rfl rfl rfl rfl) σ) (pa_cons (pv 3) (pa_cons (pv 4) (pa_cons (pv 5) pa_nil)))))
      (pss_cons (ps_set (i := 9) sc.nd rfl (.inl rfl) (pe_callKG0 (by decide) (ok_order_for T) (hr.mono (by decide)) hgd (by rfl) T.g_order_for T.F_order_for.kp T.kb_order_for_0_day_till_coins (fun σ => passAt (takes_of rfl rfl rfl rfl) σ) (pk_cons (pv 5) (pk_cons (pv 4) (pk_cons (pv 3) pk_nil)))))
      (pss_cons (ps_if (pt_cmpR op_isND (pv 6) pe_non (nomark _)) (pss_one (ps_if (PW.pt (pw_or (pt_cmpR op_isNotND (pv 8) pe_non (nomark _)) (pw_or1 (pt_cmpR op_isNotND (pv 9) pe_non (nomark _))))) (pss_one (ps_ret pe_bl)) pss_nil)) (pss_cons (ps_if (pt_not (pt_val (pe_callG (ok__law_same T 7) (hr.mono (by decide)) hgd (by rfl) T.g__law_same T.F__law_same.kp T.b__law_same (fun σ => passAt (takes_of rfl rfl rfl rfl) σ) (pa_cons (pe_lst (pa_cons (pv 8) (pa_cons (pv 9) pa_nil))) (pa_cons (pe_lst (pa_cons (pv 6) (pa_cons (pv 6) pa_nil))) pa_nil))))) (pss_one (ps_ret pe_bl)) pss_nil)
      (pss_cons (ps_expr (pe_bm PySem.F.plainAttrs_list PySem.F.slot_list_append PySem.F.type_list_append mt_append (pv 8) (pa_cons pe_str pa_nil)))
      (pss_one (ps_if (pt_cmpR (op_neK rfl hr.units) (pe_callG (ok_order_for T) (hr.mono (by decide)) hgd (by rfl) T.g_order_for T.F_order_for.kp T.b_order_for (fun σ => passAt (takes_of rfl rfl rfl rfl) σ) (pa_cons (pv 3) (pa_cons (pv 4) (pa_cons (pv 5) pa_nil)))) (pv 6) (nomark _)) (pss_one (ps_ret pe_bl)) pss_nil)))))
      (pss_one (ps_if (pt_cmpR (op_neX rfl hr.units) (pe_callB (cr_reprK rfl hgd hr.units) (by rfl) T.n_repr (by decide +kernel) (pa_cons (pe_lst (pa_cons (pv 3) (pa_cons (pv 4) (pa_cons (pv 5) pa_nil)))) pa_nil)) (pv 7) (nomark _)) (pss_one (ps_ret pe_bl)) pss_nil)))))))))))
      (pss_one (ps_ret pe_bl)))), ?_⟩
  exact (ds_seq (ds_setO (by decide) (de_call (da_cons de_var da_nil)))
      (ds_seq (ds_for (di_rng1 (da_cons de_int da_nil)) (dg_name (by decide))
      (ds_seq (ds_set (by decide) (de_call (da_slot da_nil)))
      (ds_seq (ds_set (by decide) (de_call (da_slot (da_cons (de_cb cd_len (da_cons de_var da_nil)) da_nil))))
      (ds_seq (ds_set (by decide) (de_call (da_slot (da_cons de_var (da_cons (de_op od_ix (de_lst (da_cons de_int (da_cons de_int (da_cons de_int (da_cons de_int da_nil))))) (de_call (da_slot (da_cons de_int da_nil)))) da_nil)))))
      (ds_seq (ds_set (by decide) (de_call (da_cons de_var (da_cons de_var (da_cons de_var da_nil)))))
      (ds_seq (ds_set (by decide) (de_cb cd_repr (da_cons (de_lst (da_cons de_var (da_cons de_var (da_cons de_var da_nil)))) da_nil)))
      (ds_seq (ds_setT (by decide) (de_call (da_cons de_var (da_cons de_var (da_cons de_var da_nil)))))
      (ds_seq (ds_setT (by decide) (de_callK da_nil (da_cons de_var (da_cons de_var (da_cons de_var da_nil)))))
      (ds_seq (ds_if (dt_test (de_op od_isN de_var de_non)) (ds_if (dt_lent (dt_or (dt_test (de_op od_isNotN de_var de_non)) (dt_test (de_op od_isNotN de_var de_non)))) (ds_ret de_bl) ds_next) (ds_seq (ds_if (dt_lent (dt_not (dt_B (de_call (da_cons (de_lst (da_cons de_var (da_cons de_var da_nil))) (da_cons (de_lst (da_cons de_var (da_cons de_var da_nil))) da_nil)))))) (ds_ret de_bl) ds_next)
      (ds_seq (ds_appT de_str)
      (ds_if (dt_test (de_op od_ne (de_call (da_cons de_var (da_cons de_var (da_cons de_var da_nil)))) de_var)) (ds_ret de_bl) ds_next))))
      (ds_if (dt_test (de_op od_neX (de_cb cd_repr (da_cons (de_lst (da_cons de_var (da_cons de_var (da_cons de_var da_nil)))) da_nil)) de_var)) (ds_ret de_bl) ds_next))))))))))
      (ds_ret de_bl)))
end
theorem all_mk {l : PySem.W.OpenLaw} {w : World} {K : PySem.W.Frag} {h : Heap} {mg : Str → Option Value} {fa : Addr} (X : K.In h) (G : h.Ns mainGlobals mg) (hfa : mg "law" = some (.ref fa))
    {f0 : Addr} {od0 an0 : Option Addr} {sl0 : Array (Option Value)} {oc0 kV0 dc0 pm0 cd0 ct0 : Value}
    (a0 : PySem.W.nsIn K mainGlobals "is_whole" = some (some (.ref f0)))
    (l0 : K.lookup f0 = some ⟨oc0, od0, .func (PySem.W.fnOf "is_whole" "is_whole" (defArgs s_is_whole) (defBody s_is_whole) (defScope s_is_whole) .none kV0 dc0 pm0 an0 cd0 ct0), sl0⟩)
    (c0 : PySem.W.codeIn K cd0 "is_whole" = true) (k0 : PySem.W.keepIn K (.ref f0) = true)
    {f1 : Addr} {od1 an1 : Option Addr} {sl1 : Array (Option Value)} {oc1 kV1 dc1 pm1 cd1 ct1 : Value}
    (a1 : PySem.W.nsIn K mainGlobals "worth_of" = some (some (.ref f1)))
    (l1 : K.lookup f1 = some ⟨oc1, od1, .func (PySem.W.fnOf "worth_of" "worth_of" (defArgs s_worth_of) (defBody s_worth_of) (defScope s_worth_of) .none kV1 dc1 pm1 an1 cd1 ct1), sl1⟩)
    (c1 : PySem.W.codeIn K cd1 "worth_of" = true) (k1 : PySem.W.keepIn K (.ref f1) = true)
    {f2 : Addr} {od2 an2 : Option Addr} {sl2 : Array (Option Value)} {oc2 kV2 dc2 pm2 cd2 ct2 : Value}
    (a2 : PySem.W.nsIn K mainGlobals "_pressed" = some (some (.ref f2)))
    (l2 : K.lookup f2 = some ⟨oc2, od2, .func (PySem.W.fnOf "_pressed" "_pressed" (defArgs s__pressed) (defBody s__pressed) (defScope s__pressed) .none kV2 dc2 pm2 an2 cd2 ct2), sl2⟩)
    (c2 : PySem.W.codeIn K cd2 "_pressed" = true) (k2 : PySem.W.keepIn K (.ref f2) = true)
    {f3 : Addr} {od3 an3 : Option Addr} {sl3 : Array (Option Value)} {oc3 kV3 dc3 pm3 cd3 ct3 : Value}
    (a3 : PySem.W.nsIn K mainGlobals "_law_deck" = some (some (.ref f3)))
    (l3 : K.lookup f3 = some ⟨oc3, od3, .func (PySem.W.fnOf "_law_deck" "_law_deck" (defArgs s__law_deck) (defBody s__law_deck) (defScope s__law_deck) .none kV3 dc3 pm3 an3 cd3 ct3), sl3⟩)
    (c3 : PySem.W.codeIn K cd3 "_law_deck" = true) (k3 : PySem.W.keepIn K (.ref f3) = true)
    {f4 : Addr} {od4 an4 : Option Addr} {sl4 : Array (Option Value)} {oc4 kV4 dc4 pm4 cd4 ct4 : Value}
    (a4 : PySem.W.nsIn K mainGlobals "_law_draw" = some (some (.ref f4)))
    (l4 : K.lookup f4 = some ⟨oc4, od4, .func (PySem.W.fnOf "_law_draw" "_law_draw" (defArgs s__law_draw) (defBody s__law_draw) (defScope s__law_draw) .none kV4 dc4 pm4 an4 cd4 ct4), sl4⟩)
    (c4 : PySem.W.codeIn K cd4 "_law_draw" = true) (k4 : PySem.W.keepIn K (.ref f4) = true)
    {f5 : Addr} {od5 an5 : Option Addr} {sl5 : Array (Option Value)} {oc5 kV5 dc5 pm5 cd5 ct5 : Value}
    (a5 : PySem.W.nsIn K mainGlobals "_law_worth" = some (some (.ref f5)))
    (l5 : K.lookup f5 = some ⟨oc5, od5, .func (PySem.W.fnOf "_law_worth" "_law_worth" (defArgs s__law_worth) (defBody s__law_worth) (defScope s__law_worth) .none kV5 dc5 pm5 an5 cd5 ct5), sl5⟩)
    (c5 : PySem.W.codeIn K cd5 "_law_worth" = true) (k5 : PySem.W.keepIn K (.ref f5) = true)
    {f6 : Addr} {od6 an6 : Option Addr} {sl6 : Array (Option Value)} {oc6 kV6 dc6 pm6 cd6 ct6 : Value}
    (a6 : PySem.W.nsIn K mainGlobals "_law_orders" = some (some (.ref f6)))
    (l6 : K.lookup f6 = some ⟨oc6, od6, .func (PySem.W.fnOf "_law_orders" "_law_orders" (defArgs s__law_orders) (defBody s__law_orders) (defScope s__law_orders) .none kV6 dc6 pm6 an6 cd6 ct6), sl6⟩)
    (c6 : PySem.W.codeIn K cd6 "_law_orders" = true) (k6 : PySem.W.keepIn K (.ref f6) = true)
    {f7 : Addr} {od7 an7 : Option Addr} {sl7 : Array (Option Value)} {oc7 kV7 dc7 pm7 cd7 ct7 : Value}
    (a7 : PySem.W.nsIn K mainGlobals "are_counts" = some (some (.ref f7)))
    (l7 : K.lookup f7 = some ⟨oc7, od7, .func (PySem.W.fnOf "are_counts" "are_counts" (defArgs s_are_counts) (defBody s_are_counts) (defScope s_are_counts) .none kV7 dc7 pm7 an7 cd7 ct7), sl7⟩)
    (c7 : PySem.W.codeIn K cd7 "are_counts" = true) (k7 : PySem.W.keepIn K (.ref f7) = true)
    {f8 : Addr} {od8 an8 : Option Addr} {sl8 : Array (Option Value)} {oc8 kV8 dc8 pm8 cd8 ct8 : Value}
    (a8 : PySem.W.nsIn K mainGlobals "_law_metal" = some (some (.ref f8)))
    (l8 : K.lookup f8 = some ⟨oc8, od8, .func (PySem.W.fnOf "_law_metal" "_law_metal" (defArgs s__law_metal) (defBody s__law_metal) (defScope s__law_metal) .none kV8 dc8 pm8 an8 cd8 ct8), sl8⟩)
    (c8 : PySem.W.codeIn K cd8 "_law_metal" = true) (k8 : PySem.W.keepIn K (.ref f8) = true)
    {f9 : Addr} {od9 an9 : Option Addr} {sl9 : Array (Option Value)} {oc9 kV9 dc9 pm9 cd9 ct9 : Value}
    (a9 : PySem.W.nsIn K mainGlobals "_law_guest" = some (some (.ref f9)))
    (l9 : K.lookup f9 = some ⟨oc9, od9, .func (PySem.W.fnOf "_law_guest" "_law_guest" (defArgs s__law_guest) (defBody s__law_guest) (defScope s__law_guest) .none kV9 dc9 pm9 an9 cd9 ct9), sl9⟩)
    (c9 : PySem.W.codeIn K cd9 "_law_guest" = true) (k9 : PySem.W.keepIn K (.ref f9) = true)
    {f10 : Addr} {od10 an10 : Option Addr} {sl10 : Array (Option Value)} {oc10 kV10 dc10 pm10 cd10 ct10 : Value}
    (a10 : PySem.W.nsIn K mainGlobals "_law_paid_out" = some (some (.ref f10)))
    (l10 : K.lookup f10 = some ⟨oc10, od10, .func (PySem.W.fnOf "_law_paid_out" "_law_paid_out" (defArgs s__law_paid_out) (defBody s__law_paid_out) (defScope s__law_paid_out) .none kV10 dc10 pm10 an10 cd10 ct10), sl10⟩)
    (c10 : PySem.W.codeIn K cd10 "_law_paid_out" = true) (k10 : PySem.W.keepIn K (.ref f10) = true)
    {f11 : Addr} {od11 an11 : Option Addr} {sl11 : Array (Option Value)} {oc11 kV11 dc11 pm11 cd11 ct11 : Value}
    (a11 : PySem.W.nsIn K mainGlobals "_law_poor_box" = some (some (.ref f11)))
    (l11 : K.lookup f11 = some ⟨oc11, od11, .func (PySem.W.fnOf "_law_poor_box" "_law_poor_box" (defArgs s__law_poor_box) (defBody s__law_poor_box) (defScope s__law_poor_box) .none kV11 dc11 pm11 an11 cd11 ct11), sl11⟩)
    (c11 : PySem.W.codeIn K cd11 "_law_poor_box" = true) (k11 : PySem.W.keepIn K (.ref f11) = true)
    {f12 : Addr} {od12 an12 : Option Addr} {sl12 : Array (Option Value)} {oc12 kV12 dc12 pm12 cd12 ct12 : Value}
    (a12 : PySem.W.nsIn K mainGlobals "are_coins" = some (some (.ref f12)))
    (l12 : K.lookup f12 = some ⟨oc12, od12, .func (PySem.W.fnOf "are_coins" "are_coins" (defArgs s_are_coins) (defBody s_are_coins) (defScope s_are_coins) .none kV12 dc12 pm12 an12 cd12 ct12), sl12⟩)
    (c12 : PySem.W.codeIn K cd12 "are_coins" = true) (k12 : PySem.W.keepIn K (.ref f12) = true)
    {f13 : Addr} {od13 an13 : Option Addr} {sl13 : Array (Option Value)} {oc13 kV13 dc13 pm13 cd13 ct13 : Value}
    (a13 : PySem.W.nsIn K mainGlobals "are_for_each" = some (some (.ref f13)))
    (l13 : K.lookup f13 = some ⟨oc13, od13, .func (PySem.W.fnOf "are_for_each" "are_for_each" (defArgs s_are_for_each) (defBody s_are_for_each) (defScope s_are_for_each) .none kV13 dc13 pm13 an13 cd13 ct13), sl13⟩)
    (c13 : PySem.W.codeIn K cd13 "are_for_each" = true) (k13 : PySem.W.keepIn K (.ref f13) = true)
    {f14 : Addr} {od14 an14 : Option Addr} {sl14 : Array (Option Value)} {oc14 kV14 dc14 pm14 cd14 ct14 : Value}
    (a14 : PySem.W.nsIn K mainGlobals "_law_paid_out_all" = some (some (.ref f14)))
    (l14 : K.lookup f14 = some ⟨oc14, od14, .func (PySem.W.fnOf "_law_paid_out_all" "_law_paid_out_all" (defArgs s__law_paid_out_all) (defBody s__law_paid_out_all) (defScope s__law_paid_out_all) .none kV14 dc14 pm14 an14 cd14 ct14), sl14⟩)
    (c14 : PySem.W.codeIn K cd14 "_law_paid_out_all" = true) (k14 : PySem.W.keepIn K (.ref f14) = true)
    {f15 : Addr} {od15 an15 : Option Addr} {sl15 : Array (Option Value)} {oc15 kV15 dc15 pm15 cd15 ct15 : Value}
    (a15 : PySem.W.nsIn K mainGlobals "_law_folk" = some (some (.ref f15)))
    (l15 : K.lookup f15 = some ⟨oc15, od15, .func (PySem.W.fnOf "_law_folk" "_law_folk" (defArgs s__law_folk) (defBody s__law_folk) (defScope s__law_folk) .none kV15 dc15 pm15 an15 cd15 ct15), sl15⟩)
    (c15 : PySem.W.codeIn K cd15 "_law_folk" = true) (k15 : PySem.W.keepIn K (.ref f15) = true)
    {f16 : Addr} {od16 an16 : Option Addr} {sl16 : Array (Option Value)} {oc16 kV16 dc16 pm16 cd16 ct16 : Value}
    (a16 : PySem.W.nsIn K mainGlobals "check_coins" = some (some (.ref f16)))
    (l16 : K.lookup f16 = some ⟨oc16, od16, .func (PySem.W.fnOf "check_coins" "check_coins" (defArgs s_check_coins) (defBody s_check_coins) (defScope s_check_coins) .none kV16 dc16 pm16 an16 cd16 ct16), sl16⟩)
    (c16 : PySem.W.codeIn K cd16 "check_coins" = true) (k16 : PySem.W.keepIn K (.ref f16) = true)
    {f17 : Addr} {od17 an17 : Option Addr} {sl17 : Array (Option Value)} {oc17 kV17 dc17 pm17 cd17 ct17 : Value}
    (a17 : PySem.W.nsIn K mainGlobals "_are_paid" = some (some (.ref f17)))
    (l17 : K.lookup f17 = some ⟨oc17, od17, .func (PySem.W.fnOf "_are_paid" "_are_paid" (defArgs s__are_paid) (defBody s__are_paid) (defScope s__are_paid) .none kV17 dc17 pm17 an17 cd17 ct17), sl17⟩)
    (c17 : PySem.W.codeIn K cd17 "_are_paid" = true) (k17 : PySem.W.keepIn K (.ref f17) = true)
    {f18 : Addr} {od18 an18 : Option Addr} {sl18 : Array (Option Value)} {oc18 kV18 dc18 pm18 cd18 ct18 : Value}
    (a18 : PySem.W.nsIn K mainGlobals "_law_due" = some (some (.ref f18)))
    (l18 : K.lookup f18 = some ⟨oc18, od18, .func (PySem.W.fnOf "_law_due" "_law_due" (defArgs s__law_due) (defBody s__law_due) (defScope s__law_due) .none kV18 dc18 pm18 an18 cd18 ct18), sl18⟩)
    (c18 : PySem.W.codeIn K cd18 "_law_due" = true) (k18 : PySem.W.keepIn K (.ref f18) = true)
    {f19 : Addr} {od19 an19 : Option Addr} {sl19 : Array (Option Value)} {oc19 kV19 dc19 pm19 cd19 ct19 : Value}
    (a19 : PySem.W.nsIn K mainGlobals "is_till" = some (some (.ref f19)))
    (l19 : K.lookup f19 = some ⟨oc19, od19, .func (PySem.W.fnOf "is_till" "is_till" (defArgs s_is_till) (defBody s_is_till) (defScope s_is_till) .none kV19 dc19 pm19 an19 cd19 ct19), sl19⟩)
    (c19 : PySem.W.codeIn K cd19 "is_till" = true) (k19 : PySem.W.keepIn K (.ref f19) = true)
    {f20 : Addr} {od20 an20 : Option Addr} {sl20 : Array (Option Value)} {oc20 kV20 dc20 pm20 cd20 ct20 : Value}
    (a20 : PySem.W.nsIn K mainGlobals "is_customer" = some (some (.ref f20)))
    (l20 : K.lookup f20 = some ⟨oc20, od20, .func (PySem.W.fnOf "is_customer" "is_customer" (defArgs s_is_customer) (defBody s_is_customer) (defScope s_is_customer) .none kV20 dc20 pm20 an20 cd20 ct20), sl20⟩)
    (c20 : PySem.W.codeIn K cd20 "is_customer" = true) (k20 : PySem.W.keepIn K (.ref f20) = true)
    {f21 : Addr} {od21 an21 : Option Addr} {sl21 : Array (Option Value)} {oc21 kV21 dc21 pm21 cd21 ct21 : Value}
    (a21 : PySem.W.nsIn K mainGlobals "check_till" = some (some (.ref f21)))
    (l21 : K.lookup f21 = some ⟨oc21, od21, .func (PySem.W.fnOf "check_till" "check_till" (defArgs s_check_till) (defBody s_check_till) (defScope s_check_till) .none kV21 dc21 pm21 an21 cd21 ct21), sl21⟩)
    (c21 : PySem.W.codeIn K cd21 "check_till" = true) (k21 : PySem.W.keepIn K (.ref f21) = true)
    {f22 : Addr} {od22 an22 : Option Addr} {sl22 : Array (Option Value)} {oc22 kV22 dc22 pm22 cd22 ct22 : Value}
    (a22 : PySem.W.nsIn K mainGlobals "check_customer" = some (some (.ref f22)))
    (l22 : K.lookup f22 = some ⟨oc22, od22, .func (PySem.W.fnOf "check_customer" "check_customer" (defArgs s_check_customer) (defBody s_check_customer) (defScope s_check_customer) .none kV22 dc22 pm22 an22 cd22 ct22), sl22⟩)
    (c22 : PySem.W.codeIn K cd22 "check_customer" = true) (k22 : PySem.W.keepIn K (.ref f22) = true)
    {f23 : Addr} {od23 an23 : Option Addr} {sl23 : Array (Option Value)} {oc23 kV23 dc23 pm23 cd23 ct23 : Value}
    (a23 : PySem.W.nsIn K mainGlobals "is_day" = some (some (.ref f23)))
    (l23 : K.lookup f23 = some ⟨oc23, od23, .func (PySem.W.fnOf "is_day" "is_day" (defArgs s_is_day) (defBody s_is_day) (defScope s_is_day) .none kV23 dc23 pm23 an23 cd23 ct23), sl23⟩)
    (c23 : PySem.W.codeIn K cd23 "is_day" = true) (k23 : PySem.W.keepIn K (.ref f23) = true)
    {f24 : Addr} {od24 an24 : Option Addr} {sl24 : Array (Option Value)} {oc24 kV24 dc24 pm24 cd24 ct24 : Value}
    (a24 : PySem.W.nsIn K mainGlobals "levels_of" = some (some (.ref f24)))
    (l24 : K.lookup f24 = some ⟨oc24, od24, .func (PySem.W.fnOf "levels_of" "levels_of" (defArgs s_levels_of) (defBody s_levels_of) (defScope s_levels_of) .none kV24 dc24 pm24 an24 cd24 ct24), sl24⟩)
    (c24 : PySem.W.codeIn K cd24 "levels_of" = true) (k24 : PySem.W.keepIn K (.ref f24) = true)
    {f25 : Addr} {od25 an25 : Option Addr} {sl25 : Array (Option Value)} {oc25 kV25 dc25 pm25 cd25 ct25 : Value}
    (a25 : PySem.W.nsIn K mainGlobals "change_of" = some (some (.ref f25)))
    (l25 : K.lookup f25 = some ⟨oc25, od25, .func (PySem.W.fnOf "change_of" "change_of" (defArgs s_change_of) (defBody s_change_of) (defScope s_change_of) .none kV25 dc25 pm25 an25 cd25 ct25), sl25⟩)
    (c25 : PySem.W.codeIn K cd25 "change_of" = true) (k25 : PySem.W.keepIn K (.ref f25) = true)
    {f26 : Addr} {od26 an26 : Option Addr} {sl26 : Array (Option Value)} {oc26 kV26 dc26 pm26 cd26 ct26 : Value}
    (a26 : PySem.W.nsIn K mainGlobals "check_day" = some (some (.ref f26)))
    (l26 : K.lookup f26 = some ⟨oc26, od26, .func (PySem.W.fnOf "check_day" "check_day" (defArgs s_check_day) (defBody s_check_day) (defScope s_check_day) .none kV26 dc26 pm26 an26 cd26 ct26), sl26⟩)
    (c26 : PySem.W.codeIn K cd26 "check_day" = true) (k26 : PySem.W.keepIn K (.ref f26) = true)
    {f27 : Addr} {od27 an27 : Option Addr} {sl27 : Array (Option Value)} {oc27 kV27 dc27 pm27 cd27 ct27 : Value}
    (a27 : PySem.W.nsIn K mainGlobals "adds" = some (some (.ref f27)))
    (l27 : K.lookup f27 = some ⟨oc27, od27, .func (PySem.W.fnOf "adds" "adds" (defArgs s_adds) (defBody s_adds) (defScope s_adds) .none kV27 dc27 pm27 an27 cd27 ct27), sl27⟩)
    (c27 : PySem.W.codeIn K cd27 "adds" = true) (k27 : PySem.W.keepIn K (.ref f27) = true)
    {f28 : Addr} {od28 an28 : Option Addr} {sl28 : Array (Option Value)} {oc28 kV28 dc28 pm28 cd28 ct28 : Value}
    (a28 : PySem.W.nsIn K mainGlobals "_law_same" = some (some (.ref f28)))
    (l28 : K.lookup f28 = some ⟨oc28, od28, .func (PySem.W.fnOf "_law_same" "_law_same" (defArgs s__law_same) (defBody s__law_same) (defScope s__law_same) .none kV28 dc28 pm28 an28 cd28 ct28), sl28⟩)
    (c28 : PySem.W.codeIn K cd28 "_law_same" = true) (k28 : PySem.W.keepIn K (.ref f28) = true)
    {f29 : Addr} {od29 an29 : Option Addr} {sl29 : Array (Option Value)} {oc29 kV29 dc29 pm29 cd29 ct29 : Value}
    (a29 : PySem.W.nsIn K mainGlobals "_first_order" = some (some (.ref f29)))
    (l29 : K.lookup f29 = some ⟨oc29, od29, .func (PySem.W.fnOf "_first_order" "_first_order" (defArgs s__first_order) (defBody s__first_order) (defScope s__first_order) .none kV29 dc29 pm29 an29 cd29 ct29), sl29⟩)
    (c29 : PySem.W.codeIn K cd29 "_first_order" = true) (k29 : PySem.W.keepIn K (.ref f29) = true)
    {f30 : Addr} {od30 an30 : Option Addr} {sl30 : Array (Option Value)} {oc30 kV30 dc30 pm30 cd30 ct30 : Value}
    (a30 : PySem.W.nsIn K mainGlobals "order_for" = some (some (.ref f30)))
    (l30 : K.lookup f30 = some ⟨oc30, od30, .func (PySem.W.fnOf "order_for" "order_for" (defArgs s_order_for) (defBody s_order_for) (defScope s_order_for) .none kV30 dc30 pm30 an30 cd30 ct30), sl30⟩)
    (c30 : PySem.W.codeIn K cd30 "order_for" = true) (k30 : PySem.W.keepIn K (.ref f30) = true)
    {f31 : Addr} {od31 an31 : Option Addr} {sl31 : Array (Option Value)} {oc31 kV31 dc31 pm31 cd31 ct31 : Value}
    (a31 : PySem.W.nsIn K mainGlobals "law" = some (some (.ref f31)))
    (l31 : K.lookup f31 = some ⟨oc31, od31, .func (PySem.W.fnOf "law" "law" (defArgs s_law) (defBody s_law) (defScope s_law) .none kV31 dc31 pm31 an31 cd31 ct31), sl31⟩)
    (c31 : PySem.W.codeIn K cd31 "law" = true) (k31 : PySem.W.keepIn K (.ref f31) = true)
    {t0 : Tok} (q0 : PySem.W.nsIn K mainGlobals "FEWEST_COINS" = some (some (.int 2 t0)))
    {t1 : Tok} (q1 : PySem.W.nsIn K mainGlobals "GREATEST_COIN" = some (some (.int 100000 t1)))
    {t2 : Tok} (q2 : PySem.W.nsIn K mainGlobals "GREATEST_PRICE" = some (some (.int 1000000000 t2)))
    {t3 : Tok} (q3 : PySem.W.nsIn K mainGlobals "MOST_COINS" = some (some (.int 5 t3)))
    {t4 : Tok} (q4 : PySem.W.nsIn K mainGlobals "MOST_CUSTOMERS" = some (some (.int 40 t4)))
    {t5 : Tok} (q5 : PySem.W.nsIn K mainGlobals "MOST_ORDERED" = some (some (.int 7 t5)))
    {t6 : Tok} (q6 : PySem.W.nsIn K mainGlobals "MOST_PAID" = some (some (.int 1000000 t6)))
    (z0 : PySem.W.nsIn K mainGlobals "all" = some none)
    (z1 : PySem.W.nsIn K mainGlobals "bool" = some none)
    (z2 : PySem.W.nsIn K mainGlobals "int" = some none)
    (z3 : PySem.W.nsIn K mainGlobals "isinstance" = some none)
    (z4 : PySem.W.nsIn K mainGlobals "len" = some none)
    (z5 : PySem.W.nsIn K mainGlobals "list" = some none)
    (z6 : PySem.W.nsIn K mainGlobals "max" = some none)
    (z7 : PySem.W.nsIn K mainGlobals "min" = some none)
    (z8 : PySem.W.nsIn K mainGlobals "range" = some none)
    (z9 : PySem.W.nsIn K mainGlobals "repr" = some none)
    (z10 : PySem.W.nsIn K mainGlobals "sum" = some none)
    (z11 : PySem.W.nsIn K mainGlobals "tuple" = some none)
    (z12 : PySem.W.nsIn K mainGlobals "zip" = some none) :
    ∃ fd : FuncData, (∀ (s : Shared) (v : Value), BindsTo s fd ⟨[v], []⟩ [("script", v)]) ∧ ∀ base : Heap, K.In base → base.Ns mainGlobals mg → GFn l.prog w K mg base (L2.CX l.prog w) 12 fa fd ["script"] (spD K 1 F_law) := by
  have e := hfa.symm.trans (PySem.W.mg_of X G a31)
  cases e
  have T : Txt K mg ⟨f0, (PySem.W.fnOf "is_whole" "is_whole" (defArgs s_is_whole) (defBody s_is_whole) (defScope s_is_whole) .none kV0 dc0 pm0 an0 cd0 ct0), f1, (PySem.W.fnOf "worth_of" "worth_of" (defArgs s_worth_of) (defBody s_worth_of) (defScope s_worth_of) .none kV1 dc1 pm1 an1 cd1 ct1), f2, (PySem.W.fnOf "_pressed" "_pressed" (defArgs s__pressed) (defBody s__pressed) (defScope s__pressed) .none kV2 dc2 pm2 an2 cd2 ct2), f3, (PySem.W.fnOf "_law_deck" "_law_deck" (defArgs s__law_deck) (defBody s__law_deck) (defScope s__law_deck) .none kV3 dc3 pm3 an3 cd3 ct3), f4, (PySem.W.fnOf "_law_draw" "_law_draw" (defArgs s__law_draw) (defBody s__law_draw) (defScope s__law_draw) .none kV4 dc4 pm4 an4 cd4 ct4), f5, (PySem.W.fnOf "_law_worth" "_law_worth" (defArgs s__law_worth) (defBody s__law_worth) (defScope s__law_worth) .none kV5 dc5 pm5 an5 cd5 ct5), f6, (PySem.W.fnOf "_law_orders" "_law_orders" (defArgs s__law_orders) (defBody s__law_orders) (defScope s__law_orders) .none kV6 dc6 pm6 an6 cd6 ct6), f7, (PySem.W.fnOf "are_counts" "are_counts" (defArgs s_are_counts) (defBody s_are_counts) (defScope s_are_counts) .none kV7 dc7 pm7 an7 cd7 ct7), f8, (PySem.W.fnOf "_law_metal" "_law_metal" (defArgs s__law_metal) (defBody s__law_metal) (defScope s__law_metal) .none kV8 dc8 pm8 an8 cd8 ct8), f9, (PySem.W.fnOf "_law_guest" "_law_guest" (defArgs s__law_guest) (defBody s__law_guest) (defScope s__law_guest) .none kV9 dc9 pm9 an9 cd9 ct9), f10, (PySem.W.fnOf "_law_paid_out" "_law_paid_out" (defArgs s__law_paid_out) (defBody s__law_paid_out) (defScope s__law_paid_out) .none kV10 dc10 pm10 an10 cd10 ct10), f11, (PySem.W.fnOf "_law_poor_box" "_law_poor_box" (defArgs s__law_poor_box) (defBody s__law_poor_box) (defScope s__law_poor_box) .none kV11 dc11 pm11 an11 cd11 ct11), f12, (PySem.W.fnOf "are_coins" "are_coins" (defArgs s_are_coins) (defBody s_are_coins) (defScope s_are_coins) .none kV12 dc12 pm12 an12 cd12 ct12), f13, (PySem.W.fnOf "are_for_each" "are_for_each" (defArgs s_are_for_each) (defBody s_are_for_each) (defScope s_are_for_each) .none kV13 dc13 pm13 an13 cd13 ct13), f14, (PySem.W.fnOf "_law_paid_out_all" "_law_paid_out_all" (defArgs s__law_paid_out_all) (defBody s__law_paid_out_all) (defScope s__law_paid_out_all) .none kV14 dc14 pm14 an14 cd14 ct14), f15, (PySem.W.fnOf "_law_folk" "_law_folk" (defArgs s__law_folk) (defBody s__law_folk) (defScope s__law_folk) .none kV15 dc15 pm15 an15 cd15 ct15), f16, (PySem.W.fnOf "check_coins" "check_coins" (defArgs s_check_coins) (defBody s_check_coins) (defScope s_check_coins) .none kV16 dc16 pm16 an16 cd16 ct16), f17, (PySem.W.fnOf "_are_paid" "_are_paid" (defArgs s__are_paid) (defBody s__are_paid) (defScope s__are_paid) .none kV17 dc17 pm17 an17 cd17 ct17), f18, (PySem.W.fnOf "_law_due" "_law_due" (defArgs s__law_due) (defBody s__law_due) (defScope s__law_due) .none kV18 dc18 pm18 an18 cd18 ct18), f19, (PySem.W.fnOf "is_till" "is_till" (defArgs s_is_till) (defBody s_is_till) (defScope s_is_till) .none kV19 dc19 pm19 an19 cd19 ct19), f20, (PySem.W.fnOf "is_customer" "is_customer" (defArgs s_is_customer) (defBody s_is_customer) (defScope s_is_customer) .none kV20 dc20 pm20 an20 cd20 ct20), f21, (PySem.W.fnOf "check_till" "check_till" (defArgs s_check_till) (defBody s_check_till) (defScope s_check_till) .none kV21 dc21 pm21 an21 cd21 ct21), f22, (PySem.W.fnOf "check_customer" "check_customer" (defArgs s_check_customer) (defBody s_check_customer) (defScope s_check_customer) .none kV22 dc22 pm22 an22 cd22 ct22), f23, (PySem.W.fnOf "is_day" "is_day" (defArgs s_is_day) (defBody s_is_day) (defScope s_is_day) .none kV23 dc23 pm23 an23 cd23 ct23), f24, (PySem.W.fnOf "levels_of" "levels_of" (defArgs s_levels_of) (defBody s_levels_of) (defScope s_levels_of) .none kV24 dc24 pm24 an24 cd24 ct24), f25, (PySem.W.fnOf "change_of" "change_of" (defArgs s_change_of) (defBody s_change_of) (defScope s_change_of) .none kV25 dc25 pm25 an25 cd25 ct25), f26, (PySem.W.fnOf "check_day" "check_day" (defArgs s_check_day) (defBody s_check_day) (defScope s_check_day) .none kV26 dc26 pm26 an26 cd26 ct26), f27, (PySem.W.fnOf "adds" "adds" (defArgs s_adds) (defBody s_adds) (defScope s_adds) .none kV27 dc27 pm27 an27 cd27 ct27), f28, (PySem.W.fnOf "_law_same" "_law_same" (defArgs s__law_same) (defBody s__law_same) (defScope s__law_same) .none kV28 dc28 pm28 an28 cd28 ct28), f29, (PySem.W.fnOf "_first_order" "_first_order" (defArgs s__first_order) (defBody s__first_order) (defScope s__first_order) .none kV29 dc29 pm29 an29 cd29 ct29), f30, (PySem.W.fnOf "order_for" "order_for" (defArgs s_order_for) (defBody s_order_for) (defScope s_order_for) .none kV30 dc30 pm30 an30 cd30 ct30), fa, (PySem.W.fnOf "law" "law" (defArgs s_law) (defBody s_law) (defScope s_law) .none kV31 dc31 pm31 an31 cd31 ct31)⟩ := ⟨fun_mk (st := s_is_whole) l0 c0 k0,
    (fun_mk (st := s_is_whole) l0 c0 k0).binds (ps := ["thing"]) fun _ _ _ _ _ _ us hl => match us, hl with | [_], _ => rfl,
    PySem.W.mg_of X G a0,
    fun_mk (st := s_worth_of) l1 c1 k1,
    (fun_mk (st := s_worth_of) l1 c1 k1).binds (ps := ["coins", "counts"]) fun _ _ _ _ _ _ us hl => match us, hl with | [_, _], _ => rfl,
    PySem.W.mg_of X G a1,
    fun_mk (st := s__pressed) l2 c2 k2,
    (fun_mk (st := s__pressed) l2 c2 k2).binds (ps := ["levels", "row"]) fun _ _ _ _ _ _ us hl => match us, hl with | [_, _], _ => rfl,
    PySem.W.mg_of X G a2,
    fun_mk (st := s__law_deck) l3 c3 k3,
    (fun_mk (st := s__law_deck) l3 c3 k3).binds (ps := ["script"]) fun _ _ _ _ _ _ us hl => match us, hl with | [_], _ => rfl,
    PySem.W.mg_of X G a3,
    fun_mk (st := s__law_draw) l4 c4 k4,
    (fun_mk (st := s__law_draw) l4 c4 k4).binds (ps := ["deck", "many"]) fun _ _ _ _ _ _ us hl => match us, hl with | [_, _], _ => rfl,
    PySem.W.mg_of X G a4,
    fun_mk (st := s__law_worth) l5 c5 k5,
    (fun_mk (st := s__law_worth) l5 c5 k5).binds (ps := ["metal", "counts"]) fun _ _ _ _ _ _ us hl => match us, hl with | [_, _], _ => rfl,
    PySem.W.mg_of X G a5,
    fun_mk (st := s__law_orders) l6 c6 k6,
    (fun_mk (st := s__law_orders) l6 c6 k6).binds (ps := ["many"]) fun _ _ _ _ _ _ us hl => match us, hl with | [_], _ => rfl,
    PySem.W.mg_of X G a6,
    fun_mk (st := s_are_counts) l7 c7 k7,
    (fun_mk (st := s_are_counts) l7 c7 k7).binds (ps := ["thing"]) fun _ _ _ _ _ _ us hl => match us, hl with | [_], _ => rfl,
    PySem.W.mg_of X G a7,
    fun_mk (st := s__law_metal) l8 c8 k8,
    (fun_mk (st := s__law_metal) l8 c8 k8).binds (ps := ["deck"]) fun _ _ _ _ _ _ us hl => match us, hl with | [_], _ => rfl,
    PySem.W.mg_of X G a8,
    fun_mk (st := s__law_guest) l9 c9 k9,
    (fun_mk (st := s__law_guest) l9 c9 k9).binds (ps := ["deck", "metal"]) fun _ _ _ _ _ _ us hl => match us, hl with | [_, _], _ => rfl,
    PySem.W.mg_of X G a9,
    fun_mk (st := s__law_paid_out) l10 c10 k10,
    (fun_mk (st := s__law_paid_out) l10 c10 k10).binds (ps := ["metal", "box", "guest"]) fun _ _ _ _ _ _ us hl => match us, hl with | [_, _, _], _ => rfl,
    PySem.W.mg_of X G a10,
    fun_mk (st := s__law_poor_box) l11 c11 k11,
    (fun_mk (st := s__law_poor_box) l11 c11 k11).binds (ps := ["deck", "many"]) fun _ _ _ _ _ _ us hl => match us, hl with | [_, _], _ => rfl,
    PySem.W.mg_of X G a11,
    fun_mk (st := s_are_coins) l12 c12 k12,
    (fun_mk (st := s_are_coins) l12 c12 k12).binds (ps := ["thing"]) fun _ _ _ _ _ _ us hl => match us, hl with | [_], _ => rfl,
    PySem.W.mg_of X G a12,
    fun_mk (st := s_are_for_each) l13 c13 k13,
    (fun_mk (st := s_are_for_each) l13 c13 k13).binds (ps := ["coins", "thing"]) fun _ _ _ _ _ _ us hl => match us, hl with | [_, _], _ => rfl,
    PySem.W.mg_of X G a13,
    fun_mk (st := s__law_paid_out_all) l14 c14 k14,
    (fun_mk (st := s__law_paid_out_all) l14 c14 k14).binds (ps := ["metal", "box", "guests"]) fun _ _ _ _ _ _ us hl => match us, hl with | [_, _, _], _ => rfl,
    PySem.W.mg_of X G a14,
    fun_mk (st := s__law_folk) l15 c15 k15,
    (fun_mk (st := s__law_folk) l15 c15 k15).binds (ps := ["deck", "metal", "most"]) fun _ _ _ _ _ _ us hl => match us, hl with | [_, _, _], _ => rfl,
    PySem.W.mg_of X G a15,
    fun_mk (st := s_check_coins) l16 c16 k16,
    (fun_mk (st := s_check_coins) l16 c16 k16).binds (ps := ["thing"]) fun _ _ _ _ _ _ us hl => match us, hl with | [_], _ => rfl,
    PySem.W.mg_of X G a16,
    fun_mk (st := s__are_paid) l17 c17 k17,
    (fun_mk (st := s__are_paid) l17 c17 k17).binds (ps := ["coins", "thing"]) fun _ _ _ _ _ _ us hl => match us, hl with | [_, _], _ => rfl,
    PySem.W.mg_of X G a17,
    fun_mk (st := s__law_due) l18 c18 k18,
    (fun_mk (st := s__law_due) l18 c18 k18).binds (ps := ["metal", "box", "folk"]) fun _ _ _ _ _ _ us hl => match us, hl with | [_, _, _], _ => rfl,
    PySem.W.mg_of X G a18,
    fun_mk (st := s_is_till) l19 c19 k19,
    (fun_mk (st := s_is_till) l19 c19 k19).binds (ps := ["coins", "thing"]) fun _ _ _ _ _ _ us hl => match us, hl with | [_, _], _ => rfl,
    PySem.W.mg_of X G a19,
    fun_mk (st := s_is_customer) l20 c20 k20,
    (fun_mk (st := s_is_customer) l20 c20 k20).binds (ps := ["coins", "thing"]) fun _ _ _ _ _ _ us hl => match us, hl with | [_, _], _ => rfl,
    PySem.W.mg_of X G a20,
    fun_mk (st := s_check_till) l21 c21 k21,
    (fun_mk (st := s_check_till) l21 c21 k21).binds (ps := ["coins", "thing"]) fun _ _ _ _ _ _ us hl => match us, hl with | [_, _], _ => rfl,
    PySem.W.mg_of X G a21,
    fun_mk (st := s_check_customer) l22 c22 k22,
    (fun_mk (st := s_check_customer) l22 c22 k22).binds (ps := ["coins", "thing"]) fun _ _ _ _ _ _ us hl => match us, hl with | [_, _], _ => rfl,
    PySem.W.mg_of X G a22,
    fun_mk (st := s_is_day) l23 c23 k23,
    (fun_mk (st := s_is_day) l23 c23 k23).binds (ps := ["coins", "thing"]) fun _ _ _ _ _ _ us hl => match us, hl with | [_, _], _ => rfl,
    PySem.W.mg_of X G a23,
    fun_mk (st := s_levels_of) l24 c24 k24,
    (fun_mk (st := s_levels_of) l24 c24 k24).binds (ps := ["coins", "till"]) fun _ _ _ _ _ _ us hl => match us, hl with | [_, _], _ => rfl,
    PySem.W.mg_of X G a24,
    fun_mk (st := s_change_of) l25 c25 k25,
    (fun_mk (st := s_change_of) l25 c25 k25).binds (ps := ["coins", "customer"]) fun _ _ _ _ _ _ us hl => match us, hl with | [_, _], _ => rfl,
    PySem.W.mg_of X G a25,
    fun_mk (st := s_check_day) l26 c26 k26,
    (fun_mk (st := s_check_day) l26 c26 k26).binds (ps := ["coins", "thing"]) fun _ _ _ _ _ _ us hl => match us, hl with | [_, _], _ => rfl,
    PySem.W.mg_of X G a26,
    fun_mk (st := s_adds) l27 c27 k27,
    (fun_mk (st := s_adds) l27 c27 k27).binds (ps := ["coins", "customer"]) fun _ _ _ _ _ _ us hl => match us, hl with | [_, _], _ => rfl,
    PySem.W.mg_of X G a27,
    fun_mk (st := s__law_same) l28 c28 k28,
    (fun_mk (st := s__law_same) l28 c28 k28).binds (ps := ["found", "due"]) fun _ _ _ _ _ _ us hl => match us, hl with | [_, _], _ => rfl,
    PySem.W.mg_of X G a28,
    fun_mk (st := s__first_order) l29 c29 k29,
    (fun_mk (st := s__first_order) l29 c29 k29).binds (ps := ["rows", "levels", "begun"]) fun _ _ _ _ _ _ us hl => match us, hl with | [_, _, _], _ => rfl,
    PySem.W.mg_of X G a29,
    fun_mk (st := s_order_for) l30 c30 k30,
    (fun_mk (st := s_order_for) l30 c30 k30).binds (ps := ["coins", "till", "day"]) fun _ _ _ _ _ _ us hl => match us, hl with | [_, _, _], _ => rfl,
    PySem.W.mg_of X G a30,
    fun_mk (st := s_law) l31 c31 k31,
    (fun_mk (st := s_law) l31 c31 k31).binds (ps := ["script"]) fun _ _ _ _ _ _ us hl => match us, hl with | [_], _ => rfl,
    PySem.W.mg_of X G a31,
    (fun _ us ws _ hl hl2 => match us, ws, hl, hl2 with | [], [_, _, _], _, _ => .of_eq rfl),
    ⟨_, PySem.W.mg_of X G q0⟩,
    ⟨_, PySem.W.mg_of X G q1⟩,
    ⟨_, PySem.W.mg_of X G q2⟩,
    ⟨_, PySem.W.mg_of X G q3⟩,
    ⟨_, PySem.W.mg_of X G q4⟩,
    ⟨_, PySem.W.mg_of X G q5⟩,
    ⟨_, PySem.W.mg_of X G q6⟩,
    PySem.W.mg_none_of X G z0,
    PySem.W.mg_none_of X G z1,
    PySem.W.mg_none_of X G z2,
    PySem.W.mg_none_of X G z3,
    PySem.W.mg_none_of X G z4,
    PySem.W.mg_none_of X G z5,
    PySem.W.mg_none_of X G z6,
    PySem.W.mg_none_of X G z7,
    PySem.W.mg_none_of X G z8,
    PySem.W.mg_none_of X G z9,
    PySem.W.mg_none_of X G z10,
    PySem.W.mg_none_of X G z11,
    PySem.W.mg_none_of X G z12⟩
  exact ⟨_, fun s v => .of_eq rfl, fun base _ _ => ok_law T⟩
end Law

namespace Law
open PySem PySem.Spec PyProof.Rows L2 DL
local macro_rules | `(tactic| walk_at "ev") => `(tactic| simp (disch := omega) only [x_bind, x_toO, x_nx, x_seq1, x_seq2, x_lift, x_dI, x_dO, x_slI, x_slO, x_c, x_var, x_varI, x_varO, x_move, x_moveI, x_moveO, x_op, x_un, x_asB, x_asI, x_tOf, x_tAnd, x_tOr, x_tNot, x_tYes, x_and, x_or, x_not, x_if, x_chain,
  x_aNil, x_aCons, x_aSlot, x_slotO, x_slotB, x_slB, u_bk, x_fr4, x_setP, x_setPK, x_setT, x_setTO, x_setTI, x_setTB, x_eCompT, x_moveT, x_moveTB, x_moveTI, x_isTree, x_sAppT, x_lentK, x_frTt, x_frTf, bdLeaf_t, x_setIxT, x_keepF, x_catchKFN, x_catchKFR, x_two, x_twoK1, x_twoK2, x_par2, x_parTK, x_toI, x_toO2, x_toT, x_isFF, x_isF, x_maxT, x_tryF, x_catchFN, x_eDct0, x_eSlT, x_eDictZip, x_dzK, x_eDct1, x_keep, x_catchKN, x_catchKR, x_frD, x_frP, x_frM, x_frT, x_setM, x_setMO, x_setMB, x_lstM1, x_lstM2, x_tupM2, x_lstMO, x_lstMI, x_isMix, x_sAppM, x_sRevM, x_revMK, x_moveB, x_moveBK, x_varB, x_varBK, x_varBI, x_itemI, x_itemO, x_eIxT, x_ixTK, x_takeM, x_takeMK, x_setIxM, x_aliasM, x_revIn, x_appIn, xX_bind, xX_toO, xX_seq, xX_end, x_ims0, x_ims1, x_lst, x_tup, x_cb, x_oNone, x_oSome, x_slD, x_eSl, x_ixO, x_ixK1, x_ixK2, x_lenO, x_lenK, x_add, x_sub, x_mul, x_div, x_mod, x_pow, x_neg, x_lt, x_le, x_gt, x_ge, x_eqI, x_neI, x_isN, x_isNotN, x_isB, x_isNotB, x_ixL, x_ixT, x_ixS,
  x_len, x_lenT, x_lenS, x_max, x_min, x_list, x_isi, x_next, x_sSeq, x_set, x_setO, x_drop, x_ret, x_sIf, x_par, x_parK, x_app, x_appK1, x_appK2, x_setIx, x_stK1, x_for, x_asg, x_asgK, x_tgName, x_tgTup, x_tgAll0, x_tgAll1, x_rng1, x_rng1K, x_rng2, x_rng2K, x_zip, x_zipK, x_zipA, x_zipKL, x_zipKT, x_sClrAll, x_sortFst, x_callM, x_call, x_call0, x_comp,
  g_zero, g_succ, s_zero, s_succ, o_map, o_bind, c_true, c_false, decide_true, decide_false, lt_t, lt_f, le_t, le_f, eq_t, eq_f, ble_t, ble_f, Bool.false_eq_true, Bool.true_eq_false, not_true_eq_false, not_false_eq_true, eq_self, reduceCtorEq, Bool.not_true, Bool.not_false, Bool.true_and, Bool.and_true, Bool.false_and, Bool.and_false, Bool.true_or, Bool.or_true, Bool.false_or, Bool.or_false, l_cons, l_nil, List.length_map, List.length_set, Int.toNat_natCast, tn1, tn0,
  if_pos, if_neg, x_stK2, x_stK3, ixN_at, ix0, ix1, ix2, ix3, ix4, ixm, x_endR, x_endN, u_nil, u_im, u_own, w_1, w_2, r_1, r_2, d_zero, d_succ, k_cons, k_nil, k_im, k_no, cut_take, cut_drop, x_eqL, x_neL, x_eqL0, x_neL0, x_eqB, x_neB, x_sum, x_rng3, x_rng3K, x_rev1, x_rev1K, x_enum, x_enumK, x_raise1, x_raiseK, x_raise0, x_try, x_catchN, x_catchR, x_catchX, isC_t, x_non1, x_non2, x_non3, x_abs, x_listO, x_copyK1, x_copyK2, x_eSlO, x_tgLst, x_ixB, x_ixB1, x_ixB2, x_rev2, x_rev2K, x_revL, x_revLK, x_intI, x_intB, x_tupL, x_tupT, x_max3, x_eRevL, x_truO, x_truK, x_truI, x_eIndex, x_idK1, x_revRK, x_revRO, x_slK1, x_slK2, x_sRev, x_sClr, x_chgK, x_callK, x_eLent, x_tLent, x_lentB, x_lentI, x_lentO, x_leaf1, x_leaf2, x_leaf3, x_leaf4, x_leaf5, x_fr0, x_fr1, x_fr2, x_fr3, x_eqS, x_neS, x_seq3, x_seq4,  Int.reduceToNat, Int.reducePow, Int.reduceAdd, Int.reduceSub, Int.reduceMul, Int.reduceNeg, Int.reduceLT, Int.reduceLE, Int.reduceEq, Int.reduceDiv, Int.reduceMod, Nat.reduceAdd, Nat.reduceLT, Nat.reduceLeDiff, Nat.reduceSub, Nat.reduceMul, Int.toNat_zero, Int.toNat_one])

theorem pick {P : Int → Prop} {xs : List Int} {r : Int} (h0 : 0 ≤ r) (h1 : r < xs.length) (h : ∀ x ∈ xs, P x) : ∃ v, atI (xs.map D.int) r = some (.int v) ∧ P v := by
  have hl : r.toNat < xs.length := by omega
  refine ⟨xs[r.toNat], ?_, h _ (List.getElem_mem _)⟩
  rw [atI_at h0 (by rw [List.length_map]; omega), List.getElem?_map, List.getElem?_eq_getElem hl]
  rfl
/-- each goes into the next one -/
def Chain : List Int → Prop
  | a :: b :: r => a < b ∧ b % a = 0 ∧ Chain (b :: r)
  | _ => True
theorem Chain.app : ∀ {xs : List Int} {l m : Int}, Chain (xs ++ [l]) → l < m → m % l = 0 → Chain (xs ++ [l, m])
  | [], l, m, _, h1, h2 => ⟨h1, h2, trivial⟩
  | [x], l, m, h, h1, h2 => ⟨h.1, h.2.1, h1, h2, trivial⟩
  | x :: y :: r, l, m, h, h1, h2 => ⟨h.1, h.2.1, Chain.app (xs := y :: r) h.2.2 h1 h2⟩
structure Coins (cs : List Int) : Prop where
  lo : 2 ≤ cs.length
  hi : cs.length ≤ 5
  one : cs[0]? = some 1
  ch : Chain cs
  le : ∀ c ∈ cs, c ≤ 100000
/-! ### the deck -/
theorem deck_ok {ns : List Int} (hl : ns.length ≤ 63) : ∃ δ : Dkt, F__law_deck [.im (.scr ns)] = .ok (.bk (.deck δ.1 δ.2)) [.im (.scr ns)] ∧ Dk 0 δ := by
  unfold F__law_deck
  rw [x_run rfl]
  show ∃ δ : Dkt, endOf _ (g__law_deck [.im (.scr ns), .no, .no, .no]) = _ ∧ _
  unfold g__law_deck
  walk_at "ev"
  generalize hn : (if (1 : Int) < (if (ns.length : Int) < 63 then (ns.length : Int) else 63) then (if (ns.length : Int) < 63 then (ns.length : Int) else 63) else 1) = n
  have hn8 : 1 ≤ n ∧ n ≤ 63 := by
    subst hn
    split <;> split <;> omega
  generalize hstep : stepOf (tgName 2) _ = step
  obtain ⟨ρ', e, ps, s2, s3, rfl, hlen, hc⟩ := dFor_run (step := step) (items := rngD 0 n.toNat)
    (fun i ρ => ∃ (ps : List T3) (s2 s3 : Sl), ρ = [.im (.scr ns), .bk (.pile ps), s2, s3] ∧ ps.length = i ∧ ∀ q ∈ ps, 0 ≤ q.2.2 ∧ q.2.2 ≤ 3000)
    (ρ := [.im (.scr ns), .bk (.pile []), .no, .no]) ⟨[], _, _, rfl, rfl, by simp⟩ (by
    rintro i d ρ hi ⟨ps, s2, s3, rfl, hlen, hc⟩
    have hin : i < n.toNat := by
      have := (List.getElem?_eq_some_iff.mp hi).1
      rwa [rngD_len] at this
    rw [rngD_get hin, Int.zero_add] at hi
    cases hi
    subst hstep
    have fin : ∀ cell : Int, ∃ ρ', sAppP 1 (eLst (aCons (eVar 3) (aCons (eCB bInt (aCons (eOp cGe (eVar 3) (eOp opPow (eC (.int 10)) (eC (.int 18)))) aNil)) (aCons (eOp opMul (eC (.int 41)) (eVar 2)) aNil)))) [.im (.scr ns), .bk (.pile ps), .im (.int (i : Int)), .im (.int cell)] = .nx ρ' ∧
        ∃ (ps : List T3) (s2 s3 : Sl), ρ' = [.im (.scr ns), .bk (.pile ps), s2, s3] ∧ ps.length = i + 1 ∧ ∀ q ∈ ps, 0 ≤ q.2.2 ∧ q.2.2 ≤ 3000 := by
      intro cell
      have hf : (eLst (aCons (eVar 3) (aCons (eCB bInt (aCons (eOp cGe (eVar 3) (eOp opPow (eC (.int 10)) (eC (.int 18)))) aNil)) (aCons (eOp opMul (eC (.int 41)) (eVar 2)) aNil)))) [.im (.scr ns), .bk (.pile ps), .im (.int (i : Int)), .im (.int cell)] =
          .ok (.own [.int cell, .int (if leB (10 ^ 18) cell = true then 1 else 0), .int (41 * (i : Int))]) [.im (.scr ns), .bk (.pile ps), .im (.int (i : Int)), .im (.int cell)] := by
        walk_at "ev"
      refine ⟨_, x_appP (ρ := [.im (.scr ns), .bk (.pile ps), .im (.int (i : Int)), .im (.int cell)]) rfl hf rfl (by omega), _, _, _, rfl, by simp [hlen], fun q hq => ?_⟩
      rcases List.mem_append.mp hq with hq | hq
      · exact hc q hq
      · rw [List.mem_singleton] at hq
        subst hq
        exact ⟨show 0 ≤ 41 * (i : Int) by omega, show 41 * (i : Int) ≤ 3000 by omega⟩
    rw [x_step x_tgName]
    by_cases h : (i : Int) < ns.length
    · obtain ⟨ρ', e1, e2⟩ := fin (ns[i]'(by omega))
      refine ⟨ρ', ?_, e2⟩
      rw [← e1]
      walk_at "ev"
      rw [atI_at (by omega) (by omega), Int.toNat_natCast, List.getElem?_eq_getElem (by omega)]
      walk_at "ev"
    · obtain ⟨ρ', e1, e2⟩ := fin 0
      refine ⟨ρ', ?_, e2⟩
      rw [← e1]
      walk_at "ev")
  rw [rngD_len] at hlen
  rw [e]
  walk_at "ev"
  rw [x_eDeck (ps := ps) rfl]
  walk_at "ev"
  refine ⟨(ps, 0), rfl, fun z => ?_, Int.le_refl 0, fun q hq => ⟨(hc q hq).1, by have := (hc q hq).2; omega⟩⟩
  have z : ps = [] := z
  rw [z] at hlen
  simp at hlen
  omega


theorem metal_ok {N : Nat} {δ : Dkt} (S : Dk N δ) (hN : N < 100000000) : ∃ cs δ', F__law_metal [dkS δ] = .ok (.own (cs.map D.int)) [dkS δ'] ∧ Coins cs ∧ Dk (N + 13) δ' := by
  unfold F__law_metal
  rw [x_run rfl]
  show ∃ cs δ', endOf _ (g__law_metal [dkS δ, .no, .no, .no, .no]) = _ ∧ _
  unfold g__law_metal
  obtain ⟨r, δ1, e, h1, h2, S1⟩ := draw_ok (m := 4) S (by omega) (by omega) (by omega)
  walk_at "ev"
  rw [x_doBI (F := F__law_draw) rfl e]
  walk_at "ev"
  generalize hstep : stepOf (tgName 2) _ = step
  obtain ⟨ρ', e2, xs, l, δ2, x, y, z, rfl, hlen, hlo, hone, hch, hle, hl1, S2⟩ := dFor_run (step := step) (items := rngD 0 (1 + r).toNat)
    (fun i ρ => ∃ (xs : List Int) (l : Int) (δ2 : Dkt) (x y z : Sl), ρ = [dkS δ2, .own (xs.map D.int ++ [D.int l]), x, y, z] ∧ xs.length ≤ i ∧ (1 ≤ i → 1 ≤ xs.length) ∧ (xs ++ [l])[0]? = some 1 ∧ Chain (xs ++ [l]) ∧ (∀ c ∈ xs ++ [l], c ≤ 100000) ∧ (1 ≤ l ∧ (i = 0 → l = 1)) ∧ Dk (N + 1 + 3 * i) δ2)
    (ρ := [dkS δ1, Sl.own [D.int 1], Sl.no, Sl.no, Sl.no]) ⟨[], 1, δ1, .no, .no, .no, rfl, by simp, by omega, rfl, trivial, by simp, by omega, S1⟩ (by
      rintro i d ρ hi ⟨xs, l, δ2, x, y, z, rfl, hlen, hlo, hone, hch, hle, ⟨hl1, hl0⟩, S2⟩
      have hin : i < (1 + r).toNat := by
        have := (List.getElem?_eq_some_iff.mp hi).1
        rwa [rngD_len] at this
      rw [rngD_get hin] at hi
      cases hi
      subst hstep
      have hl2 : l ≤ 100000 := hle l (by simp)
      have hd1 : 1 ≤ 100000 / l := by
        rw [Int.le_ediv_iff_mul_le (by omega)]
        omega
      have hd2 : 100000 / l ≤ 100000 := Int.ediv_le_self _ (by omega)
      rw [x_step x_tgName]
      walk_at "ev"
      by_cases hm : 0 < 100000 / l - 1
      · obtain ⟨r1, δ3, e3, k1, k2, S3⟩ := draw_ok (m := 4) S2 (by omega) (by omega) (by omega)
        obtain ⟨f, ef, hf1, hf2⟩ := pick (P := fun f => 1 ≤ f ∧ f ≤ 100000) (xs := [1, 4, 11, 100000 / l - 1]) k1 (by simpa using k2) (by simp; omega)
        simp only [List.map_cons, List.map_nil] at ef
        walk_at "ev"
        rw [x_doBI (F := F__law_draw) rfl e3]
        walk_at "ev"
        rw [ef]
        walk_at "ev"
        generalize hw : (if f < 100000 / l - 1 then f else 100000 / l - 1) = w
        have hw1 : 1 ≤ w ∧ w ≤ 100000 / l - 1 := by
          subst hw
          split <;> omega
        obtain ⟨r2, δ4, e4, k3, k4, S4⟩ := draw_ok (m := w) S3 (by omega) (by omega) (by omega)
        rw [x_doBI (F := F__law_draw) rfl e4]
        walk_at "ev"
        have hll : l < l * (2 + r2) := by
          have h1 : l * 2 ≤ l * (2 + r2) := Int.mul_le_mul_of_nonneg_left (by omega) (by omega)
          omega
        have hlt : l * (2 + r2) ≤ 100000 := by
          have h1 : l * (2 + r2) ≤ l * (100000 / l) := Int.mul_le_mul_of_nonneg_left (by omega) (by omega)
          have h2 : l * (100000 / l) ≤ 100000 := Int.mul_ediv_self_le (by omega)
          omega
        rw [x_appK2 (by rw [List.length_append, List.length_map, List.length_singleton]; omega)]
        walk_at "ev"
        refine ⟨_, rfl, xs ++ [l], l * (2 + r2), δ4, _, _, _, by rw [List.map_append]; rfl, by rw [List.length_append, List.length_singleton]; omega, fun _ => by rw [List.length_append, List.length_singleton]; omega, ?_, ?_, ?_, ⟨by omega, fun h0 => h0.elim⟩, S4.mono (by omega)⟩
        · rw [List.getElem?_append_left (by rw [List.length_append, List.length_singleton]; omega)]
          exact hone
        · rw [List.append_assoc]
          exact Chain.app hch hll (Int.mul_emod_right l _)
        · intro c hc
          rcases List.mem_append.mp hc with hc | hc
          · exact hle c hc
          · rw [List.mem_singleton] at hc
            omega
      · walk_at "ev"
        refine ⟨_, rfl, xs, l, δ2, _, _, _, rfl, by omega, fun _ => ?_, hone, hch, hle, ⟨hl1, fun h0 => h0.elim⟩, S2.mono (by omega)⟩
        by_cases h0 : i = 0
        · have := hl0 h0
          subst this
          exact absurd (show (0 : Int) < 100000 / 1 - 1 by omega) hm
        · exact hlo (by omega))
  rw [rngD_len] at hlen hlo S2
  rw [e2]
  walk_at "ev"
  refine ⟨xs ++ [l], δ2, by rw [List.map_append]; rfl, ⟨by rw [List.length_append, List.length_singleton]; have := hlo (by omega); omega, by rw [List.length_append, List.length_singleton]; omega, hone, hch, hle⟩, S2.mono (by omega)⟩
/-- what a box may hold -/
abbrev Bx (ns : List Int) : Prop := ∀ n ∈ ns, 0 ≤ n ∧ n < 2 ^ 100

/-! ### the program: coins -/
theorem is_whole_ok {d : D} (h : plain d = true) : F_is_whole [.im d] = .ok (.im (.bl (isIntD d))) [.im d] := by
  unfold F_is_whole
  rw [x_run rfl]
  show endOf _ (g_is_whole [.im d]) = _
  unfold g_is_whole
  walk_at "ev"
  rw [isi_int h]
  walk_at "ev"
  cases hb : (isIntD d || isBoolD d) with
  | false =>
    walk_at "ev"
    rw [Bool.or_eq_false_iff] at hb
    rw [hb.1]
  | true =>
    walk_at "ev"
    rw [isi_bool h]
    walk_at "ev"
    cases d <;> first | rfl | exact Bool.noConfusion hb
def countD : D → Bool
  | .int i => leB 0 i
  | _ => false
def countsD : D → Bool
  | .lst ds => ds.all countD
  | _ => false
/-- plain, and its items, where it is a list -/
def plain2 : D → Bool
  | .lst ds => ds.all plain
  | d => plain d
theorem plain_of2 {d : D} (h : plain2 d = true) : plain d = true := by
  cases d <;> first | rfl | exact h
theorem are_counts_ok {d : D} (h : plain2 d = true) : F_are_counts [.im d] = .ok (.im (.bl (countsD d))) [.im d] := by
  unfold F_are_counts
  rw [x_run rfl]
  show endOf _ (g_are_counts [.im d, .no]) = _
  unfold g_are_counts
  walk_at "ev"
  rw [isi_list (plain_of2 h)]
  walk_at "ev"
  cases d with
  | lst ds =>
    simp only [isListD, countsD]
    walk_at "ev"
    rw [x_iList]
    walk_at "ev"
    generalize hstep : stepOf (tgName 1) _ = step
    obtain ⟨y, e⟩ := dFor_test (step := step) (ev := fun x => [Sl.im (D.lst ds), x]) (p := countD) (rv := .im (.bl false)) ds .no (fun d hd x => by
      have hp : plain d = true := List.all_eq_true.mp h d hd
      subst hstep
      rw [x_step x_tgName]
      walk_at "ev"
      rw [x_do1 (is_whole_ok hp)]
      walk_at "ev"
      cases d with
      | int i =>
        simp only [isIntD, countD]
        by_cases h0 : i < 0
        · walk_at "ev"
        · walk_at "ev"
      | _ => rfl)
    rw [e]
    cases ds.all countD <;> rfl
  | _ => rfl
def ChainB : List Int → Bool
  | a :: b :: r => ltB a b && eqB (b % a) 0 && ChainB (b :: r)
  | _ => true
theorem chainB_iff : ∀ {ns : List Int}, ChainB ns = true ↔ Chain ns
  | [] => ⟨fun _ => trivial, fun _ => rfl⟩
  | [_] => ⟨fun _ => trivial, fun _ => rfl⟩
  | a :: b :: r => by
    show (ltB a b && eqB (b % a) 0 && ChainB (b :: r)) = true ↔ (a < b ∧ b % a = 0 ∧ Chain (b :: r))
    unfold ltB eqB
    rw [Bool.and_eq_true, Bool.and_eq_true, decide_eq_true_eq, decide_eq_true_eq, chainB_iff, and_assoc]
def coinsB (ns : List Int) : Bool := Nat.ble 2 ns.length && Nat.ble ns.length 5 && eqB (ns.headD 0) 1 && ChainB ns && leB ((atI ns (-1)).getD 0) 100000
theorem coinsB_iff {ns : List Int} : coinsB ns = true ↔ (((2 ≤ ns.length ∧ ns.length ≤ 5) ∧ ns.headD 0 = 1) ∧ Chain ns) ∧ (atI ns (-1)).getD 0 ≤ 100000 := by
  unfold coinsB eqB leB
  rw [Bool.and_eq_true, Bool.and_eq_true, Bool.and_eq_true, Bool.and_eq_true, decide_eq_true_eq, decide_eq_true_eq, chainB_iff, Nat.ble_eq, Nat.ble_eq]
def intsOf : List D → Option (List Int)
  | [] => some []
  | .int i :: r => (intsOf r).map (i :: ·)
  | _ :: _ => none
theorem intsOf_map : ∀ ns : List Int, intsOf (ns.map D.int) = some ns
  | [] => rfl
  | n :: r => by
    show (intsOf (r.map D.int)).map (n :: ·) = _
    rw [intsOf_map r]
    rfl
theorem intsOf_some : ∀ {ds : List D} {ns : List Int}, intsOf ds = some ns → ds = ns.map D.int
  | [], _, e => by
    cases e
    rfl
  | .int i :: r, ns, e => by
    rw [show intsOf (.int i :: r) = (intsOf r).map (i :: ·) from rfl] at e
    cases q : intsOf r with
    | none => rw [q] at e; cases e
    | some ms =>
      rw [q] at e
      cases e
      rw [intsOf_some q]
      rfl
/-- what is coins, of anything -/
def coinsD : D → Bool
  | .lst ds =>
    match intsOf ds with
    | some ns => coinsB ns
    | none => false
  | _ => false
theorem counts_ints : ∀ {ds : List D}, ds.all countD = true → ∃ ns : List Int, ds = ns.map D.int ∧ ∀ n ∈ ns, 0 ≤ n
  | [], _ => ⟨[], rfl, fun _ h => by cases h⟩
  | d :: ds, h => by
    rw [List.all_cons, Bool.and_eq_true] at h
    obtain ⟨ns, e, k⟩ := counts_ints h.2
    cases d with
    | int i =>
      refine ⟨i :: ns, by rw [e]; rfl, fun n hn => ?_⟩
      rcases List.mem_cons.mp hn with rfl | hn
      · exact of_decide_eq_true h.1
      · exact k n hn
    | _ => exact Bool.noConfusion h.1
theorem counts_map {ns : List Int} : (ns.map D.int).all countD = ns.all fun n => leB 0 n := by
  rw [List.all_map]
  rfl
theorem chain_pos : ∀ {a : Int} {r : List Int}, Chain (a :: r) → 1 ≤ a → ∀ n ∈ a :: r, 1 ≤ n
  | a, [], _, h, n, hn => by
    rw [List.mem_singleton] at hn
    omega
  | a, b :: r, hc, h, n, hn => by
    rcases List.mem_cons.mp hn with rfl | hn
    · exact h
    · exact chain_pos (a := b) (r := r) hc.2.2 (by have := hc.1; omega) n hn
theorem coins_loop {step : D → DL.Env → Out} (hs : step = stepOf (tgName 1) (sIf (tOrD (tOf (eOp cLe (eOp ixD (eVar 0) (eVar 1)) (eOp ixD (eVar 0) (eOp opSub (eVar 1) (eC (.int 1)))))) (tOf (eOp cNe (eOp opMod (eOp ixD (eVar 0) (eVar 1)) (eOp ixD (eVar 0) (eOp opSub (eVar 1) (eC (.int 1))))) (eC (.int 0))))) (sRet (eC (.bl false))) sNext)) :
    ∀ (r pre : List Int) (a : Int) (x : Sl), 1 ≤ a → ∃ y, dFor step (rngD (1 + (pre.length : Int)) r.length) [.im (.lst ((pre ++ a :: r).map D.int)), x] =
      cond (ChainB (a :: r)) (.nx [.im (.lst ((pre ++ a :: r).map D.int)), y]) (.ret (.im (.bl false)) [.im (.lst ((pre ++ a :: r).map D.int)), y])
  | [], pre, a, x, _ => ⟨x, rfl⟩
  | b :: r, pre, a, x, h => by
    have e1 : atI ((pre ++ a :: b :: r).map D.int) (1 + (pre.length : Int)) = some (.int b) := by
      refine (congrArg _ (by omega)).trans (atI_nat (j := pre.length + 1) (v := D.int b) ?_)
      rw [List.getElem?_map, List.getElem?_append_right (by omega), Nat.add_sub_cancel_left]
      rfl
    have e2 : atI ((pre ++ a :: b :: r).map D.int) (1 + (pre.length : Int) - 1) = some (.int a) := by
      refine (congrArg _ (by omega)).trans (atI_nat (j := pre.length) (v := D.int a) ?_)
      rw [List.getElem?_map, List.getElem?_append_right (by omega), Nat.sub_self]
      rfl
    have e0 : pre ++ a :: b :: r = (pre ++ [a]) ++ b :: r := by simp
    rw [List.length_cons, rngD_cons]
    have hstep : step (.int (1 + (pre.length : Int))) [.im (.lst ((pre ++ a :: b :: r).map D.int)), x] = cond (ltB a b && eqB (b % a) 0) (.nx [.im (.lst ((pre ++ a :: b :: r).map D.int)), .im (.int (1 + (pre.length : Int)))])
        (.ret (.im (.bl false)) [.im (.lst ((pre ++ a :: b :: r).map D.int)), .im (.int (1 + (pre.length : Int)))]) := by
      rw [hs, x_step x_tgName]
      walk_at "ev"
      rw [e1]
      walk_at "ev"
      rw [e2]
      walk_at "ev"
      by_cases h1 : b ≤ a
      · walk_at "ev"
      · walk_at "ev"
        rw [e1]
        walk_at "ev"
        rw [e2]
        walk_at "ev"
        by_cases h2 : b % a = 0
        · walk_at "ev"
        · walk_at "ev"
    cases hc : (ltB a b && eqB (b % a) 0) with
    | true =>
      rw [hc, cond_true] at hstep
      have hab : a < b := by
        rw [Bool.and_eq_true] at hc
        exact of_decide_eq_true hc.1
      obtain ⟨y, e⟩ := coins_loop hs r (pre ++ [a]) b (.im (.int (1 + (pre.length : Int)))) (by omega)
      refine ⟨y, ?_⟩
      rw [dFor_cons hstep]
      rw [List.length_append, List.length_singleton, ← e0] at e
      rw [show (1 : Int) + (pre.length : Int) + 1 = 1 + ((pre.length + 1 : Nat) : Int) by omega, e]
      show _ = cond (ltB a b && eqB (b % a) 0 && ChainB (b :: r)) _ _
      rw [hc, Bool.true_and]
    | false =>
      rw [hc, cond_false] at hstep
      refine ⟨.im (.int (1 + (pre.length : Int))), ?_⟩
      rw [dFor_ret hstep]
      show _ = cond (ltB a b && eqB (b % a) 0 && ChainB (b :: r)) _ _
      rw [hc, Bool.false_and, cond_false]
theorem are_coins_ok {d : D} (h : plain2 d = true) : F_are_coins [.im d] = .ok (.im (.bl (coinsD d))) [.im d] := by
  unfold F_are_coins
  rw [x_run rfl]
  show endOf _ (g_are_coins [.im d, .no]) = _
  unfold g_are_coins
  walk_at "ev"
  rw [x_do1 (are_counts_ok h)]
  walk_at "ev"
  cases hc : countsD d with
  | false =>
    walk_at "ev"
    have hcd : coinsD d = false := by
      cases d with
      | lst ds =>
        show (match intsOf ds with | some ns => coinsB ns | none => false) = false
        cases q : intsOf ds with
        | none => rfl
        | some ns =>
          have hds := intsOf_some q
          show coinsB ns = false
          cases hb : coinsB ns with
          | false => rfl
          | true =>
            exfalso
            obtain ⟨⟨⟨⟨h1, h2⟩, h3⟩, h4⟩, h5⟩ := coinsB_iff.mp hb
            cases ns with
            | nil => simp at h1
            | cons n r =>
              have hn : n = 1 := by simpa using h3
              have := chain_pos h4 (by omega)
              have : (ds.all countD) = true := by
                rw [hds, counts_map]
                exact List.all_eq_true.mpr fun m hm => decide_eq_true (by have := this m hm; omega)
              rw [show countsD (.lst ds) = ds.all countD from rfl, this] at hc
              exact Bool.noConfusion hc
      | _ => rfl
    rw [hcd]
  | true =>
    walk_at "ev"
    cases d with
    | lst ds =>
      obtain ⟨ns, rfl, hpos⟩ := counts_ints (show ds.all countD = true from hc)
      have hcd : coinsD (.lst (ns.map D.int)) = coinsB ns := by
        show (match intsOf (ns.map D.int) with | some ns => coinsB ns | none => false) = _
        rw [intsOf_map]
      rw [hcd]
      unfold coinsB
      walk_at "ev"
      by_cases h1 : 2 ≤ ns.length
      case neg =>
        have : ¬ (2 : Int) ≤ (ns.length : Int) := by omega
        walk_at "ev"
      have h1' : (2 : Int) ≤ (ns.length : Int) := by omega
      walk_at "ev"
      by_cases h2 : ns.length ≤ 5
      case neg =>
        have : ¬ (ns.length : Int) ≤ 5 := by omega
        walk_at "ev"
      have h2' : (ns.length : Int) ≤ 5 := by omega
      walk_at "ev"
      obtain ⟨n, r, rfl⟩ : ∃ n r, ns = n :: r := by
        cases ns with
        | nil => simp at h1
        | cons n r => exact ⟨n, r, rfl⟩
      rw [List.map_cons]
      walk_at "ev"
      by_cases h3 : n = 1
      case neg =>
        rw [List.headD_cons]
        walk_at "ev"
      subst h3
      walk_at "ev"
      have hlast : atI (D.int 1 :: r.map D.int) (-1) = (atI ((1 : Int) :: r) (-1)).map D.int := by
        rw [← List.map_cons (f := D.int)]
        unfold atI
        rw [List.length_map]
        cases ixN ((1 : Int) :: r).length (-1) with
        | none => rfl
        | some j => exact List.getElem?_map
      obtain ⟨l, hl⟩ : ∃ l, atI ((1 : Int) :: r) (-1) = some l := by
        refine ⟨((1 : Int) :: r).getLast (List.cons_ne_nil _ _), ?_⟩
        have := atI_last ((1 : Int) :: r).dropLast (((1 : Int) :: r).getLast (List.cons_ne_nil _ _))
        rwa [List.dropLast_concat_getLast] at this
      rw [hlast, hl]
      walk_at "ev"
      simp only [Option.getD_some]
      by_cases h4 : l ≤ 100000
      case neg =>
        walk_at "ev"
      have h2r : r.length ≤ 4 := by
        rw [List.length_cons] at h2
        omega
      walk_at "ev"
      obtain ⟨y, e⟩ := coins_loop rfl r [] 1 .no (by omega)
      have hlen : (((r.length : Nat) + 1 : Nat) : Int) - 1 = (r.length : Int) := by omega
      rw [hlen]
      rw [show ((1 : Int) + (([] : List Int).length : Int)) = 1 by rfl, List.nil_append, List.map_cons] at e
      rw [show ((r.length : Int)).toNat = r.length by omega, e]
      rw [List.length_cons] at h1 h2
      cases ChainB (1 :: r) <;> rfl
    | _ => exact Bool.noConfusion hc


theorem Coins.b {ns : List Int} (C : Coins ns) : coinsB ns = true := by
  refine coinsB_iff.mpr ?_
  have hne : ns ≠ [] := fun z => by
    have := C.lo
    rw [z] at this
    simp at this
  obtain ⟨l, hl, hm⟩ : ∃ l, atI ns (-1) = some l ∧ l ∈ ns := by
    refine ⟨ns.getLast hne, ?_, List.getLast_mem hne⟩
    have := atI_last ns.dropLast (ns.getLast hne)
    rwa [List.dropLast_concat_getLast] at this
  refine ⟨⟨⟨⟨C.lo, C.hi⟩, ?_⟩, C.ch⟩, by rw [hl, Option.getD_some]; exact C.le l hm⟩
  have h1 := C.one
  cases ns with
  | nil => cases h1
  | cons n r =>
    cases h1
    rfl
theorem chain_le : ∀ {a : Int} {r : List Int}, Chain (a :: r) → ∀ n ∈ a :: r, a ≤ n ∧ ∀ l, atI (a :: r) (-1) = some l → n ≤ l
  | a, [], _, n, hn => by
    rw [List.mem_singleton] at hn
    subst hn
    refine ⟨Int.le_refl _, fun l hl => ?_⟩
    rw [show ([n] : List Int) = [] ++ [n] from rfl, atI_last] at hl
    cases hl
    exact Int.le_refl _
  | a, b :: r, hc, n, hn => by
    have hlast : atI (a :: b :: r) (-1) = atI (b :: r) (-1) := by
      have h1 := atI_last (a :: b :: r).dropLast ((a :: b :: r).getLast (List.cons_ne_nil _ _))
      have h2 := atI_last (b :: r).dropLast ((b :: r).getLast (List.cons_ne_nil _ _))
      rw [List.dropLast_concat_getLast] at h1 h2
      rw [h1, h2, List.getLast_cons]
    rcases List.mem_cons.mp hn with rfl | hn
    · refine ⟨Int.le_refl _, fun l hl => ?_⟩
      rw [hlast] at hl
      have := (chain_le (a := b) (r := r) hc.2.2 b List.mem_cons_self).2 l hl
      have := hc.1
      omega
    · obtain ⟨h1, h2⟩ := chain_le (a := b) (r := r) hc.2.2 n hn
      have := hc.1
      exact ⟨by omega, fun l hl => h2 l (by rw [← hlast]; exact hl)⟩
theorem coins_of {ns : List Int} (h : coinsB ns = true) : Coins ns := by
  obtain ⟨⟨⟨⟨h1, h2⟩, h3⟩, h4⟩, h5⟩ := coinsB_iff.mp h
  refine ⟨h1, h2, ?_, h4, fun c hc => ?_⟩
  · cases ns with
    | nil => simp at h1
    | cons n r =>
      have h3 : n = 1 := h3
      rw [h3]
      rfl
  cases ns with
  | nil => cases hc
  | cons n r =>
    obtain ⟨l, hl⟩ : ∃ l, atI (n :: r) (-1) = some l := by
      refine ⟨(n :: r).getLast (List.cons_ne_nil _ _), ?_⟩
      have := atI_last (n :: r).dropLast ((n :: r).getLast (List.cons_ne_nil _ _))
      rwa [List.dropLast_concat_getLast] at this
    rw [hl, Option.getD_some] at h5
    have := (chain_le h4 c hc).2 l hl
    omega
theorem Coins.pos {ns : List Int} (C : Coins ns) : ∀ n ∈ ns, 1 ≤ n := by
  obtain ⟨h1, _, h3, h4, _⟩ := C
  cases ns with
  | nil => simp at h1
  | cons n r =>
    have hn : n = 1 := by simpa using h3
    exact chain_pos h4 (by omega)
theorem plain2_ints (ns : List Int) : plain2 (.lst (ns.map D.int)) = true := by
  show (ns.map D.int).all plain = true
  rw [List.all_map]
  exact List.all_eq_true.mpr fun _ _ => rfl
theorem coinsD_ints (ns : List Int) : coinsD (.lst (ns.map D.int)) = coinsB ns := by
  show (match intsOf (ns.map D.int) with | some ns => coinsB ns | none => false) = _
  rw [intsOf_map]
theorem check_coins_ok {cs : List Int} (C : Coins cs) : F_check_coins [.im (.lst (cs.map D.int))] = .ok (.im .non) [.im (.lst (cs.map D.int))] := by
  unfold F_check_coins
  rw [x_run rfl]
  show endOf _ (g_check_coins [.im (.lst (cs.map D.int))]) = _
  unfold g_check_coins
  walk_at "ev"
  rw [x_do1 (are_coins_ok (plain2_ints cs))]
  rw [coinsD_ints, C.b]
  walk_at "ev"
/-- one number from 0 on for each coin -/
structure Till (cs ns : List Int) : Prop where
  len : ns.length = cs.length
  nn : ∀ n ∈ ns, 0 ≤ n
theorem countsD_ints (ns : List Int) : countsD (.lst (ns.map D.int)) = decide (∀ n ∈ ns, 0 ≤ n) := by
  show (ns.map D.int).all countD = _
  rw [counts_map]
  by_cases h : ∀ n ∈ ns, 0 ≤ n
  · rw [decide_eq_true h]
    exact List.all_eq_true.mpr fun n hn => decide_eq_true (h n hn)
  · rw [decide_eq_false h]
    rw [← Bool.not_eq_true]
    exact fun z => h fun n hn => of_decide_eq_true (List.all_eq_true.mp z n hn)
def eachD (cs : List Int) (d : D) : Bool :=
  match d with
  | .lst ds => ds.all countD && eqB ds.length cs.length
  | _ => false
theorem are_for_each_ok {cs : List Int} {d : D} (h : plain2 d = true) : F_are_for_each [.im (.lst (cs.map D.int)), .im d] = .ok (.im (.bl (eachD cs d))) [.im (.lst (cs.map D.int)), .im d] := by
  unfold F_are_for_each
  rw [x_run rfl]
  show endOf _ (g_are_for_each [.im (.lst (cs.map D.int)), .im d]) = _
  unfold g_are_for_each
  walk_at "ev"
  rw [x_do1 (are_counts_ok h)]
  walk_at "ev"
  cases hc : countsD d with
  | false =>
    walk_at "ev"
    cases d with
    | lst ds =>
      show _ = R.ok (Rv.im (.bl (ds.all countD && _))) _
      rw [show ds.all countD = false from hc, Bool.false_and]
    | _ => rfl
  | true =>
    walk_at "ev"
    cases d with
    | lst ds =>
      walk_at "ev"
      show _ = R.ok (Rv.im (.bl (ds.all countD && _))) _
      rw [show ds.all countD = true from hc, Bool.true_and]
    | _ => exact Bool.noConfusion hc
theorem is_till_ok {cs : List Int} {d : D} (C : Coins cs) (h : plain2 d = true) : F_is_till [.im (.lst (cs.map D.int)), .im d] = .ok (.im (.bl (eachD cs d))) [.im (.lst (cs.map D.int)), .im d] := by
  unfold F_is_till
  rw [x_run rfl]
  show endOf _ (g_is_till [.im (.lst (cs.map D.int)), .im d]) = _
  unfold g_is_till
  walk_at "ev"
  rw [x_do1 (check_coins_ok C)]
  walk_at "ev"
  rw [x_do2 (are_for_each_ok h)]
  walk_at "ev"
theorem Till.each {cs ns : List Int} (T : Till cs ns) : eachD cs (.lst (ns.map D.int)) = true := by
  show ((ns.map D.int).all countD && eqB (ns.map D.int).length cs.length) = true
  rw [counts_map, List.length_map, eq_t (by rw [T.len]), Bool.and_true]
  exact List.all_eq_true.mpr fun n hn => decide_eq_true (T.nn n hn)
theorem check_till_ok {cs ns : List Int} (C : Coins cs) (T : Till cs ns) : F_check_till [.im (.lst (cs.map D.int)), .im (.lst (ns.map D.int))] = .ok (.im .non) [.im (.lst (cs.map D.int)), .im (.lst (ns.map D.int))] := by
  unfold F_check_till
  rw [x_run rfl]
  show endOf _ (g_check_till [.im (.lst (cs.map D.int)), .im (.lst (ns.map D.int))]) = _
  unfold g_check_till
  walk_at "ev"
  rw [x_do2 (is_till_ok C (plain2_ints ns)), T.each]
  walk_at "ev"
/-- the levels, from what is below on -/
def lv : List Int → List Int → Int → List Int
  | c :: cs, n :: ns, w => (w + c * n) :: lv cs ns (w + c * n)
  | _, _, _ => []
theorem lv_len : ∀ {cs ns : List Int} {w : Int}, ns.length = cs.length → (lv cs ns w).length = cs.length
  | [], [], _, _ => rfl
  | c :: cs, n :: ns, w, h => congrArg (· + 1) (lv_len (cs := cs) (ns := ns) (by simpa using h))
  | [], _ :: _, _, h => by simp at h
  | _ :: _, [], _, h => by simp at h
/-- numbers that the reckoning bears -/
def Sm (ns : List Int) : Prop := ∀ n ∈ ns, n < 2 ^ 180
theorem levels_loop {step : D → DL.Env → Out} {P Q : Sl} (hs : step = stepOf (tgTup [tgName 4, tgName 5]) (sSeq (sSet 3 (eOp opAdd (eVar 3) (eOp opMul (eVar 4) (eVar 5)))) (sApp 2 (eVar 3)))) :
    ∀ (cs ns out : List Int) (w : Int) (x y : Sl), (∀ c ∈ cs, 1 ≤ c ∧ c ≤ 100000) → (∀ n ∈ ns, 0 ≤ n ∧ n < 2 ^ 180) → ns.length = cs.length → out.length + ns.length ≤ 1000 →
      ∃ z x' y', dFor step (zipD (cs.map D.int) (ns.map D.int)) [P, Q, .own (out.map D.int), .im (.int w), x, y] = .nx [P, Q, .own ((out ++ lv cs ns w).map D.int), z, x', y']
  | [], [], out, w, x, y, _, _, _, _ => ⟨.im (.int w), x, y, by rw [show lv [] [] w = [] from rfl, List.append_nil]; rfl⟩
  | [], _ :: _, _, _, _, _, _, _, h, _ => by simp at h
  | _ :: _, [], _, _, _, _, _, _, h, _ => by simp at h
  | c :: cs, n :: ns, out, w, x, y, hc, hn, hl, ho => by
    have h1 := hc c List.mem_cons_self
    have h2 := hn n List.mem_cons_self
    rw [List.length_cons, List.length_cons] at hl
    rw [List.length_cons] at ho
    have hstep : step (.tup [.int c, .int n]) [P, Q, .own (out.map D.int), .im (.int w), x, y] = .nx [P, Q, .own ((out ++ [w + c * n]).map D.int), .im (.int (w + c * n)), .im (.int c), .im (.int n)] := by
      rw [hs, x_step (ρ' := [P, Q, .own (out.map D.int), .im (.int w), .im (.int c), .im (.int n)]) (by walk_at "ev")]
      walk_at "ev"
      rw [x_appK2 (by rw [List.length_map]; omega)]
      walk_at "ev"
      rw [List.map_append]
      rfl
    obtain ⟨z, x', y', e⟩ := levels_loop hs cs ns (out ++ [w + c * n]) (w + c * n) (.im (.int c)) (.im (.int n)) (fun c' h => hc c' (List.mem_cons_of_mem _ h)) (fun n' h => hn n' (List.mem_cons_of_mem _ h)) (by omega) (by rw [List.length_append, List.length_singleton]; omega)
    refine ⟨z, x', y', ?_⟩
    show dFor step (.tup [.int c, .int n] :: zipD (cs.map D.int) (ns.map D.int)) _ = _
    rw [dFor_cons hstep, e, List.append_assoc]
    rfl
theorem levels_of_ok {cs ns : List Int} (C : Coins cs) (T : Till cs ns) (S : Sm ns) : F_levels_of [.im (.lst (cs.map D.int)), .im (.lst (ns.map D.int))] = .ok (.own ((lv cs ns 0).map D.int)) [.im (.lst (cs.map D.int)), .im (.lst (ns.map D.int))] := by
  unfold F_levels_of
  rw [x_run rfl]
  show endOf _ (g_levels_of [.im (.lst (cs.map D.int)), .im (.lst (ns.map D.int)), .no, .no, .no, .no]) = _
  unfold g_levels_of
  walk_at "ev"
  rw [x_do2 (check_till_ok C T)]
  walk_at "ev"
  obtain ⟨z, x', y', e⟩ := levels_loop (P := .im (.lst (cs.map D.int))) (Q := .im (.lst (ns.map D.int))) rfl cs ns [] 0 .no .no (fun c h => ⟨C.pos c h, C.le c h⟩) (fun n h => ⟨T.nn n h, S n h⟩) T.len (by have := C.hi; have := T.len; rw [List.length_nil]; omega)
  rw [List.map_nil, List.nil_append] at e
  rw [e]
  walk_at "ev"


/-- the last one, else d -/
def la : Int → List Int → Int
  | d, [] => d
  | _, n :: r => la n r
theorem la_app : ∀ {d m : Int} {ls : List Int}, la d (ls ++ [m]) = m
  | _, _, [] => rfl
  | _, _, n :: r => la_app (ls := r)
/-- never falling, from lo on -/
def Up : Int → List Int → Prop
  | _, [] => True
  | lo, n :: r => lo ≤ n ∧ Up n r
theorem Up.app : ∀ {lo m : Int} {ls : List Int}, Up lo ls → la lo ls ≤ m → Up lo (ls ++ [m])
  | _, _, [], _, h => ⟨h, trivial⟩
  | _, _, n :: r, h, h2 => ⟨h.1, Up.app (ls := r) h.2 h2⟩
theorem Up.ge : ∀ {lo : Int} {ls : List Int}, Up lo ls → ∀ n ∈ ls, lo ≤ n
  | _, [], _, n, h => by cases h
  | lo, m :: r, h, n, hn => by
    rcases List.mem_cons.mp hn with e | hn
    · rw [e]
      exact h.1
    · exact Int.le_trans h.1 (Up.ge (ls := r) h.2 n hn)
theorem Up.la_ge : ∀ {lo : Int} {ls : List Int}, Up lo ls → lo ≤ la lo ls
  | _, [], _ => Int.le_refl _
  | lo, m :: r, h => Int.le_trans h.1 (Up.la_ge (ls := r) h.2)
theorem la_mem : ∀ {d : Int} {ls : List Int}, ls ≠ [] → la d ls ∈ ls
  | _, [], h => absurd rfl h
  | _, [n], _ => by simp [la]
  | d, n :: m :: r, _ => List.mem_cons_of_mem _ (la_mem (d := n) (ls := m :: r) (by simp))
theorem atI_la {d : Int} {ls : List Int} (h : ls ≠ []) : atI (ls.map D.int) (-1) = some (.int (la d ls)) := by
  rcases List.eq_nil_or_concat ls with e | ⟨xs, m, e⟩
  · exact absurd e h
  · rw [List.concat_eq_append] at e
    subst e
    rw [List.map_append, la_app]
    exact ixm
/-- needs: for each coin one, never falling -/
structure Needs (cs ls : List Int) : Prop where
  len : ls.length = cs.length
  up : Up 0 ls
theorem Needs.nn {cs ls : List Int} (N : Needs cs ls) : ∀ n ∈ ls, 0 ≤ n := N.up.ge
def zdif (xs ys : List Int) : List Int := List.zipWith (fun x y => x - y) xs ys
theorem zdif_len {xs ys : List Int} (h : ys.length = xs.length) : (zdif xs ys).length = xs.length := by
  unfold zdif
  rw [List.length_zipWith]
  omega
theorem dif_comp {i j : Nat} {xs ys : List Int} {ρ : DL.Env} (hl : ys.length = xs.length) (hx : xs.length ≤ 100) {fe : DL.Env → R Rv}
    (hs : ∀ x y : Int, tgTup [tgName i, tgName j] (.tup [.int x, .int y]) (wipeE ρ [i, j]) = some (((wipeE ρ [i, j]).set i (.im (.int x))).set j (.im (.int y))) ∧
      fe (((wipeE ρ [i, j]).set i (.im (.int x))).set j (.im (.int y))) = .ok (.im (.int (x - y))) (((wipeE ρ [i, j]).set i (.im (.int x))).set j (.im (.int y))) ∧
      restore ρ [i, j] (((wipeE ρ [i, j]).set i (.im (.int x))).set j (.im (.int y))) = ρ) :
    dComp [i, j] (tgTup [tgName i, tgName j]) tYesD fe [] (zipD (xs.map D.int) (ys.map D.int)) ρ = .ok ((zdif xs ys).map D.int) ρ := by
  have hz : (zipD (xs.map D.int) (ys.map D.int)).length = xs.length := by
    rw [zipD_len, List.length_map, List.length_map]
    omega
  refine dComp_map (by rw [hz]; omega) (by rw [hz, List.length_map, zdif_len hl]) fun k d v h1 h2 => ?_
  have hk : k < xs.length := by
    rw [← hz]
    exact (List.getElem?_eq_some_iff.mp h1).1
  rw [zipD_get (x := .int xs[k]) (y := .int (ys[k]'(by omega))) (by rw [List.getElem?_map, List.getElem?_eq_getElem hk]; rfl) (by rw [List.getElem?_map, List.getElem?_eq_getElem (by omega)]; rfl)] at h1
  cases h1
  have e : (zdif xs ys)[k]? = some (xs[k] - ys[k]'(by omega)) := by
    unfold zdif
    rw [List.getElem?_zipWith, List.getElem?_eq_getElem hk, List.getElem?_eq_getElem (by omega)]
  rw [List.getElem?_map, e] at h2
  cases h2
  obtain ⟨e1, e2, e3⟩ := hs xs[k] (ys[k]'(by omega))
  exact ⟨_, _, _, e1, e2, rfl, e3⟩
theorem lv_lt : ∀ {cs ns : List Int} {w B : Int}, (∀ c ∈ cs, 1 ≤ c ∧ c ≤ 100000) → (∀ n ∈ ns, 0 ≤ n ∧ n < B) → 0 ≤ w → ∀ x ∈ lv cs ns w, 0 ≤ x ∧ x ≤ w + cs.length * (100000 * B)
  | [], _, w, B, _, _, _, x, h => by simp [lv] at h
  | _ :: _, [], w, B, _, _, _, x, h => by simp [lv] at h
  | c :: cs, n :: ns, w, B, hc, hn, hw, x, h => by
    have h1 := hc c List.mem_cons_self
    have h2 := hn n List.mem_cons_self
    have hp : 0 ≤ c * n := Int.mul_nonneg (by omega) h2.1
    have hp2 : c * n ≤ 100000 * B := Int.le_trans (Int.mul_le_mul_of_nonneg_right h1.2 h2.1) (Int.mul_le_mul_of_nonneg_left (by omega) (by omega))
    have e : (((c :: cs).length : Nat) : Int) * (100000 * B) = cs.length * (100000 * B) + 100000 * B := by
      rw [List.length_cons, Int.natCast_add, Int.add_mul]
      omega
    have hq : 0 ≤ (cs.length : Int) * (100000 * B) := Int.mul_nonneg (by omega) (by omega)
    rw [show lv (c :: cs) (n :: ns) w = (w + c * n) :: lv cs ns (w + c * n) from rfl] at h
    rw [e]
    rcases List.mem_cons.mp h with h | h
    · omega
    · have := lv_lt (B := B) (fun c' h' => hc c' (List.mem_cons_of_mem _ h')) (fun n' h' => hn n' (List.mem_cons_of_mem _ h')) (by omega) x h
      omega




theorem rng_ints (n : Nat) : rngD 0 n = ((List.range n).map fun (k : Nat) => (k : Int)).map D.int := by
  unfold rngD
  rw [List.map_map]
  refine List.map_congr_left fun k _ => ?_
  show D.int (0 + (k : Int)) = D.int (k : Int)
  rw [Int.zero_add]
theorem atI_ints {ns : List Int} {k : Int} (h1 : 0 ≤ k) (h2 : k < ns.length) : ∃ h : k.toNat < ns.length, atI (ns.map D.int) k = some (.int ns[k.toNat]) := by
  have hl : k.toNat < ns.length := by omega
  refine ⟨hl, ?_⟩
  rw [atI_at h1 (by rw [List.length_map]; omega), List.getElem?_map, List.getElem?_eq_getElem hl]
  rfl


/-! ### customers -/
def wo : List Int → List Int → Int
  | c :: cs, n :: ns => c * n + wo cs ns
  | _, _ => 0
def prods (xs ys : List Int) : List Int := List.zipWith (fun a b => a * b) xs ys
theorem prods_sum : ∀ {cs ns : List Int}, (prods cs ns).sum = wo cs ns
  | c :: cs, n :: ns => by
    show (c * n :: prods cs ns).sum = c * n + wo cs ns
    rw [List.sum_cons, prods_sum]
  | [], ns => by
    show (List.zipWith (fun a b : Int => a * b) [] ns).sum = 0
    rw [List.zipWith_nil_left]
    rfl
  | _ :: _, [] => rfl
theorem zip_at : ∀ {f : Int → Int → Int} {xs ys : List Int} {i : Nat} {d v : D}, (zipD (xs.map D.int) (ys.map D.int))[i]? = some d → ((List.zipWith f xs ys).map D.int)[i]? = some v → ∃ x y : Int, x ∈ xs ∧ y ∈ ys ∧ d = .tup [.int x, .int y] ∧ v = .int (f x y)
  | f, x :: xs, y :: ys, 0, d, v, h1, h2 => by
    cases h1
    cases h2
    exact ⟨x, y, List.mem_cons_self, List.mem_cons_self, rfl, rfl⟩
  | f, x :: xs, y :: ys, i + 1, d, v, h1, h2 => by
    obtain ⟨x', y', hx, hy, e1, e2⟩ := zip_at (f := f) (xs := xs) (ys := ys) (i := i) h1 h2
    exact ⟨x', y', List.mem_cons_of_mem _ hx, List.mem_cons_of_mem _ hy, e1, e2⟩
  | f, [], ys, i, d, v, h1, _ => by
    have : zipD (([] : List Int).map D.int) (ys.map D.int) = [] := by cases ys <;> rfl
    rw [this] at h1
    cases h1
  | f, _ :: _, [], i, d, v, h1, _ => by cases h1
theorem zipD_ln : ∀ {xs ys : List Int} {f : Int → Int → Int}, ((List.zipWith f xs ys).map D.int).length = (zipD (xs.map D.int) (ys.map D.int)).length
  | x :: xs, y :: ys, f => by
    show ((List.zipWith f xs ys).map D.int).length + 1 = (zipD (xs.map D.int) (ys.map D.int)).length + 1
    rw [zipD_ln]
  | [], ys, f => by
    have : zipD (([] : List Int).map D.int) (ys.map D.int) = [] := by cases ys <;> rfl
    rw [this, List.zipWith_nil_left]
    rfl
  | _ :: _, [], f => rfl
/-- [f(x, y) for x, y in zip(xs, ys)] -/
theorem zip_comp {i j : Nat} {xs ys : List Int} {ρ : DL.Env} (f : Int → Int → Int) (hx : xs.length ≤ 100) {fe : DL.Env → R Rv}
    (hs : ∀ x y : Int, x ∈ xs → y ∈ ys → tgTup [tgName i, tgName j] (.tup [.int x, .int y]) (wipeE ρ [i, j]) = some (((wipeE ρ [i, j]).set i (.im (.int x))).set j (.im (.int y))) ∧
      fe (((wipeE ρ [i, j]).set i (.im (.int x))).set j (.im (.int y))) = .ok (.im (.int (f x y))) (((wipeE ρ [i, j]).set i (.im (.int x))).set j (.im (.int y))) ∧
      restore ρ [i, j] (((wipeE ρ [i, j]).set i (.im (.int x))).set j (.im (.int y))) = ρ) :
    dComp [i, j] (tgTup [tgName i, tgName j]) tYesD fe [] (zipD (xs.map D.int) (ys.map D.int)) ρ = .ok ((List.zipWith f xs ys).map D.int) ρ := by
  refine dComp_map (by rw [← zipD_ln (f := f), List.length_map, List.length_zipWith]; omega) zipD_ln fun k d v h1 h2 => ?_
  obtain ⟨x, y, hx, hy, rfl, rfl⟩ := zip_at h1 h2
  obtain ⟨e1, e2, e3⟩ := hs x y hx hy
  exact ⟨_, _, _, e1, e2, rfl, e3⟩
/-- small enough to be multiplied -/
def Sz (ns : List Int) : Prop := ∀ n ∈ ns, -(2 ^ 190) < n ∧ n < 2 ^ 190
theorem worth_of_ok {cs ns : List Int} (C : Coins cs) (S : Sz ns) : F_worth_of [.im (.lst (cs.map D.int)), .im (.lst (ns.map D.int))] = .ok (.im (.int (wo cs ns))) [.im (.lst (cs.map D.int)), .im (.lst (ns.map D.int))] := by
  unfold F_worth_of
  rw [x_run rfl]
  show endOf _ (g_worth_of [.im (.lst (cs.map D.int)), .im (.lst (ns.map D.int)), .no, .no]) = _
  unfold g_worth_of
  have hC5 := C.hi
  walk_at "ev"
  generalize hfe : eOp opMul (eVar 2) (eVar 3) = fe
  rw [zip_comp (fun a b => a * b) (by omega) (fun x y hx hy => ⟨rfl, by
    subst hfe
    have h1 := C.pos x hx
    have h2 := C.le x hx
    have h3 := S y hy
    walk_at "ev", rfl⟩)]
  walk_at "ev"
  rw [show List.zipWith (fun a b => a * b) cs ns = prods cs ns from rfl, prods_sum]
structure Paid (cs ns : List Int) : Prop where
  till : Till cs ns
  le : ∀ n ∈ ns, n ≤ 1000000
theorem maxI_le {n : Int} {r : List Int} {b : Int} (h : ∀ x ∈ n :: r, x ≤ b) : maxI n r ≤ b := h _ (maxI_spec r n).1
theorem are_paid_ok {cs ns : List Int} (C : Coins cs) (P : Paid cs ns) : F__are_paid [.im (.lst (cs.map D.int)), .im (.lst (ns.map D.int))] = .ok (.im (.bl true)) [.im (.lst (cs.map D.int)), .im (.lst (ns.map D.int))] := by
  unfold F__are_paid
  rw [x_run rfl]
  show endOf _ (g__are_paid [.im (.lst (cs.map D.int)), .im (.lst (ns.map D.int))]) = _
  unfold g__are_paid
  walk_at "ev"
  rw [x_do2 (are_for_each_ok (plain2_ints ns)), P.till.each]
  walk_at "ev"
  cases ns with
  | nil =>
    have h1 := P.till.len
    have h2 := C.lo
    rw [← h1] at h2
    simp at h2
  | cons n r =>
    rw [x_max1]
    have := maxI_le P.le
    walk_at "ev"
structure Guest (cs : List Int) (price : Int) (paid : List Int) : Prop where
  pd : Paid cs paid
  lo : 0 ≤ price
  hi : price ≤ 1000000000
  en : price ≤ wo cs paid
theorem Paid.sz {cs ns : List Int} (P : Paid cs ns) : Sz ns := fun n h => by
  have := P.till.nn n h
  have := P.le n h
  omega
abbrev guD (price : Int) (paid : List Int) : D := .tup [.int price, .lst (paid.map D.int)]
theorem is_customer_ok {cs paid : List Int} {price : Int} (C : Coins cs) (G : Guest cs price paid) : F_is_customer [.im (.lst (cs.map D.int)), .im (guD price paid)] = .ok (.im (.bl true)) [.im (.lst (cs.map D.int)), .im (guD price paid)] := by
  unfold F_is_customer
  rw [x_run rfl]
  show endOf _ (g_is_customer [.im (.lst (cs.map D.int)), .im (guD price paid), .no, .no]) = _
  unfold g_is_customer
  have h1 := G.lo
  have h2 := G.hi
  have h3 := G.en
  walk_at "ev"
  rw [x_do1 (check_coins_ok C)]
  walk_at "ev"
  rw [isi_tup rfl]
  walk_at "ev"
  have e2 : isTupD (guD price paid) = true := rfl
  rw [e2]
  walk_at "ev"
  rw [x_do1 (is_whole_ok rfl)]
  have e3 : isIntD (.int price) = true := rfl
  rw [e3]
  walk_at "ev"
  rw [x_do2 (are_paid_ok C G.pd)]
  walk_at "ev"
  rw [x_do2 (worth_of_ok C G.pd.sz)]
  walk_at "ev"
theorem check_customer_ok {cs paid : List Int} {price : Int} (C : Coins cs) (G : Guest cs price paid) : F_check_customer [.im (.lst (cs.map D.int)), .im (guD price paid)] = .ok (.im .non) [.im (.lst (cs.map D.int)), .im (guD price paid)] := by
  unfold F_check_customer
  rw [x_run rfl]
  show endOf _ (g_check_customer [.im (.lst (cs.map D.int)), .im (guD price paid)]) = _
  unfold g_check_customer
  walk_at "ev"
  rw [x_do2 (is_customer_ok C G)]
  walk_at "ev"
theorem change_of_ok {cs paid : List Int} {price : Int} (C : Coins cs) (G : Guest cs price paid) : F_change_of [.im (.lst (cs.map D.int)), .im (guD price paid)] = .ok (.im (.int (wo cs paid - price))) [.im (.lst (cs.map D.int)), .im (guD price paid)] := by
  unfold F_change_of
  rw [x_run rfl]
  show endOf _ (g_change_of [.im (.lst (cs.map D.int)), .im (guD price paid), .no, .no]) = _
  unfold g_change_of
  walk_at "ev"
  rw [x_do2 (check_customer_ok C G)]
  walk_at "ev"
  rw [x_do2 (worth_of_ok C G.pd.sz)]
  walk_at "ev"
/-- what is added at each level -/
def ad (r : Int) : List Int → List Int → Int → List Int
  | c :: d :: cs, p :: ps, w => (w + c * p - r % d) :: ad r (d :: cs) ps (w + c * p)
  | [c], p :: _, w => [w + c * p - r]
  | _, _, _ => []
theorem adds_loop {step : D → DL.Env → Out} {cs ps : List Int} {P1 P3 : Sl} {r : Int} (C : Coins cs) (hp : ps.length = cs.length) (S : Sz ps)
    (hs : step = stepOf (tgName 7) (sSeq (sSet 6 (eOp opAdd (eVar 6) (eOp opMul (eOp ixD (eVar 0) (eVar 7)) (eOp ixD (eVar 4) (eVar 7))))) (sApp 5 (eOp opSub (eVar 6) (eOp opMod (eVar 2) (eOp ixD (eVar 0) (eOp opAdd (eVar 7) (eC (.int 1))))))))) :
    ∀ (m k : Nat) (xs cs' ps' : List Int) (w : Int) (x : Sl), k + m + 1 = cs.length → cs.drop k = cs' → ps.drop k = ps' → xs.length = k →
      ∃ (ys : List Int) (w' c p : Int) (x' : Sl), dFor step (rngD k m) [.im (.lst (cs.map D.int)), P1, .im (.int r), P3, .im (.lst (ps.map D.int)), .own (xs.map D.int), .im (.int w), x] = .nx [.im (.lst (cs.map D.int)), P1, .im (.int r), P3, .im (.lst (ps.map D.int)), .own (ys.map D.int), .im (.int w'), x'] ∧
        xs ++ ad r cs' ps' w = ys ++ [w' + c * p - r] ∧ w' + c * p = w + wo cs' ps' ∧ ys.length + 1 = cs.length
  | 0, k, xs, cs', ps', w, x, h, h1, h2, h3 => by
    obtain ⟨c, hc⟩ : ∃ c, cs[k]? = some c := ⟨_, List.getElem?_eq_getElem (by omega)⟩
    obtain ⟨p, hp'⟩ : ∃ p, ps[k]? = some p := ⟨_, List.getElem?_eq_getElem (by omega)⟩
    have e1 : cs' = [c] := by
      rw [← h1, List.drop_eq_getElem_cons (by omega), List.drop_of_length_le (by omega)]
      rw [List.getElem?_eq_getElem (by omega)] at hc
      cases hc
      rfl
    have e2 : ps' = [p] := by
      rw [← h2, List.drop_eq_getElem_cons (by omega), List.drop_of_length_le (by omega)]
      rw [List.getElem?_eq_getElem (by omega)] at hp'
      cases hp'
      rfl
    subst e1 e2
    exact ⟨xs, w, c, p, x, rfl, rfl, by show w + c * p = w + (c * p + 0); omega, by omega⟩
  | m + 1, k, xs, cs', ps', w, x, h, h1, h2, h3 => by
    have hC5 := C.hi
    obtain ⟨c, hc⟩ : ∃ c, cs[k]? = some c := ⟨_, List.getElem?_eq_getElem (by omega)⟩
    obtain ⟨d, hd⟩ : ∃ d, cs[k + 1]? = some d := ⟨_, List.getElem?_eq_getElem (by omega)⟩
    obtain ⟨p, hp'⟩ : ∃ p, ps[k]? = some p := ⟨_, List.getElem?_eq_getElem (by omega)⟩
    have e1 : cs' = c :: d :: cs.drop (k + 2) := by
      rw [← h1, List.drop_eq_getElem_cons (by omega), List.drop_eq_getElem_cons (i := k + 1) (by omega)]
      rw [List.getElem?_eq_getElem (by omega)] at hc hd
      cases hc
      cases hd
      rfl
    have e1' : d :: cs.drop (k + 2) = cs.drop (k + 1) := by
      rw [List.drop_eq_getElem_cons (i := k + 1) (by omega)]
      rw [List.getElem?_eq_getElem (by omega)] at hd
      cases hd
      rfl
    have e2 : ps' = p :: ps.drop (k + 1) := by
      rw [← h2, List.drop_eq_getElem_cons (by omega)]
      rw [List.getElem?_eq_getElem (by omega)] at hp'
      cases hp'
      rfl
    subst e1 e2
    have g1 := C.pos c (List.mem_of_getElem? hc)
    have g2 := C.le c (List.mem_of_getElem? hc)
    have g3 := C.pos d (List.mem_of_getElem? hd)
    have g4 := S p (List.mem_of_getElem? hp')
    have ek : (k : Int) + 1 = ((k + 1 : Nat) : Int) := by omega
    have hstep : step (.int k) [.im (.lst (cs.map D.int)), P1, .im (.int r), P3, .im (.lst (ps.map D.int)), .own (xs.map D.int), .im (.int w), x] =
        .nx [.im (.lst (cs.map D.int)), P1, .im (.int r), P3, .im (.lst (ps.map D.int)), .own ((xs ++ [w + c * p - r % d]).map D.int), .im (.int (w + c * p)), .im (.int k)] := by
      rw [hs, x_step x_tgName]
      walk_at "ev"
      rw [atI_int hc]
      walk_at "ev"
      rw [atI_int hp']
      walk_at "ev"
      rw [ek, atI_int hd]
      walk_at "ev"
      rw [x_appK2 (by rw [List.length_map]; omega)]
      walk_at "ev"
      rw [List.map_append]
      rfl
    obtain ⟨ys, w', c', p', x', e, f1, f2, f3⟩ := adds_loop C hp S hs m (k + 1) (xs ++ [w + c * p - r % d]) (d :: cs.drop (k + 2)) (ps.drop (k + 1)) (w + c * p) (.im (.int k)) (by omega) e1'.symm rfl (by rw [List.length_append, List.length_singleton]; omega)
    refine ⟨ys, w', c', p', x', ?_, ?_, ?_, f3⟩
    · rw [rngD_cons, dFor_cons hstep, ek, e]
    · show xs ++ (w + c * p - r % d) :: ad r (d :: cs.drop (k + 2)) (ps.drop (k + 1)) (w + c * p) = _
      rw [← f1, List.append_assoc]
      rfl
    · show w' + c' * p' = w + (c * p + wo (d :: cs.drop (k + 2)) (ps.drop (k + 1)))
      omega
theorem adds_ok {cs paid : List Int} {price : Int} (C : Coins cs) (G : Guest cs price paid) : F_adds [.im (.lst (cs.map D.int)), .im (guD price paid)] = .ok (.own ((ad (wo cs paid - price) cs paid 0).map D.int)) [.im (.lst (cs.map D.int)), .im (guD price paid)] := by
  unfold F_adds
  rw [x_run rfl]
  show endOf _ (g_adds [.im (.lst (cs.map D.int)), .im (guD price paid), .no, .no, .no, .no, .no, .no]) = _
  unfold g_adds
  have hC5 := C.hi
  have hC2 := C.lo
  walk_at "ev"
  rw [x_do2 (change_of_ok C G)]
  walk_at "ev"
  obtain ⟨ys, w', c, p, x', e, f1, f2, f3⟩ := adds_loop (step := stepOf (tgName 7) (sSeq (sSet 6 (eOp opAdd (eVar 6) (eOp opMul (eOp ixD (eVar 0) (eVar 7)) (eOp ixD (eVar 4) (eVar 7))))) (sApp 5 (eOp opSub (eVar 6) (eOp opMod (eVar 2) (eOp ixD (eVar 0) (eOp opAdd (eVar 7) (eC (.int 1))))))))) (r := wo cs paid - price) (P1 := .im (guD price paid)) (P3 := .im (.int price)) C G.pd.till.len G.pd.sz rfl (cs.length - 1) 0 [] cs paid 0 .no (by omega) rfl rfl rfl
  have e1 : ((cs.length : Int) - 1).toNat = cs.length - 1 := by omega
  rw [e1]
  have e0 : ((0 : Nat) : Int) = 0 := rfl
  rw [e0, List.map_nil] at e
  rw [e]
  walk_at "ev"
  rw [x_appK2 (by rw [List.length_map]; omega)]
  walk_at "ev"
  rw [List.nil_append] at f1
  have e3 : w' + c * p - (wo cs paid - price) = price := by omega
  rw [f1, e3, List.map_append]
  rfl


/-! ### the greatest first -/
def mn (p q : Int) : Int := if q < p then q else p
def gr (r : Int) : List Int → List Int → List Int × Int
  | c :: cs, h :: hs => (mn h ((gr r cs hs).2 / c) :: (gr r cs hs).1, (gr r cs hs).2 - mn h ((gr r cs hs).2 / c) * c)
  | _, _ => ([], r)
def sm (r : Int) : List Int → List Int → Int → List Int
  | c :: d :: cs, h :: hs, w => (w + c * h - r % d) :: sm r (d :: cs) hs (w + c * h)
  | [c], h :: _, w => [w + c * h - r]
  | _, _, _ => []
def sufmin : List Int → List Int
  | [] => []
  | x :: xs => minI x xs :: sufmin xs
def subs (xs ys : List Int) : List Int := List.zipWith (fun a b => a - b) xs ys
theorem mn_le {p q : Int} : mn p q ≤ p ∧ mn p q ≤ q ∧ (mn p q = p ∨ mn p q = q) := by
  unfold mn
  split <;> omega
theorem minI_step {x y : Int} {ys : List Int} : minI x (y :: ys) = mn x (minI y ys) := by
  obtain ⟨h1, h2⟩ := minI_spec (y :: ys) x
  obtain ⟨h3, h4⟩ := minI_spec ys y
  have hm := mn_le (p := x) (q := minI y ys)
  refine Int.le_antisymm ?_ ?_
  · rcases hm.2.2 with e | e
    · rw [e]
      exact h2 x List.mem_cons_self
    · rw [e]
      exact h2 _ (List.mem_cons_of_mem _ h3)
  · rcases List.mem_cons.mp h1 with e | e
    · rw [e]
      omega
    · have := h4 _ e
      omega
theorem gr_mod : ∀ {cs hs : List Int} {c r : Int}, (∀ d ∈ cs, c ∣ d) → (∀ d ∈ cs, 1 ≤ d) → 0 ≤ r → (gr r cs hs).2 % c = r % c ∧ 0 ≤ (gr r cs hs).2
  | d :: cs, h :: hs, c, r, h1, h2, h3 => by
    obtain ⟨a, b⟩ := gr_mod (cs := cs) (hs := hs) (fun d' h' => h1 d' (List.mem_cons_of_mem _ h')) (fun d' h' => h2 d' (List.mem_cons_of_mem _ h')) h3
    have hd := h2 d List.mem_cons_self
    have hm := mn_le (p := h) (q := (gr r cs hs).2 / d)
    show ((gr r cs hs).2 - mn h ((gr r cs hs).2 / d) * d) % c = r % c ∧ 0 ≤ (gr r cs hs).2 - mn h ((gr r cs hs).2 / d) * d
    constructor
    · obtain ⟨k, hk⟩ := h1 d List.mem_cons_self
      rw [← a]
      have e : mn h ((gr r cs hs).2 / d) * d = c * (k * mn h ((gr r cs hs).2 / d)) := by
        conv => lhs; rhs; rw [hk]
        rw [Int.mul_comm, Int.mul_assoc]
      rw [e, Int.sub_mul_emod_self_left]
    · have e1 : mn h ((gr r cs hs).2 / d) * d ≤ (gr r cs hs).2 / d * d := Int.mul_le_mul_of_nonneg_right hm.2.1 (by omega)
      have e2 : (gr r cs hs).2 / d * d ≤ (gr r cs hs).2 := Int.ediv_mul_le _ (by omega)
      omega
  | [], _, _, _, _, _, h3 => ⟨rfl, h3⟩
  | _ :: _, [], _, _, _, _, h3 => ⟨rfl, h3⟩
theorem chain_dvd : ∀ {a : Int} {r : List Int}, Chain (a :: r) → ∀ d ∈ r, a ∣ d
  | a, b :: r, h, d, hd => by
    have h1 : a ∣ b := Int.dvd_of_emod_eq_zero h.2.1
    rcases List.mem_cons.mp hd with rfl | hd
    · exact h1
    · exact Int.dvd_trans h1 (chain_dvd (a := b) (r := r) h.2.2 d hd)
  | _, [], _, _, h => by cases h
theorem gr_lv : ∀ {cs hs : List Int} {w r : Int}, Chain cs → (∀ c ∈ cs, 1 ≤ c) → 0 ≤ r → hs.length = cs.length → lv cs (subs hs (gr r cs hs).1) (w - (gr r cs hs).2) = sufmin (sm r cs hs w)
  | [], [], _, _, _, _, _, _ => rfl
  | [c], [h], w, r, _, _, _, _ => by
    show (w - (r - mn h (r / c) * c) + c * (h - mn h (r / c))) :: [] = [w + c * h - r]
    have e1 : c * (h - mn h (r / c)) = c * h - mn h (r / c) * c := by rw [Int.mul_sub, Int.mul_comm (mn _ _)]
    rw [e1]
    congr 1
    omega
  | c :: d :: cs, h :: h1 :: hs, w, r, ch, hp, hr, hl => by
    have hpt : ∀ c' ∈ d :: cs, 1 ≤ c' := fun c' h' => hp c' (List.mem_cons_of_mem _ h')
    have ih := gr_lv (cs := d :: cs) (hs := h1 :: hs) (w := w + c * h) (r := r) ch.2.2 hpt hr (by simpa using hl)
    generalize hq : gr r (d :: cs) (h1 :: hs) = q at ih
    have hg : gr r (c :: d :: cs) (h :: h1 :: hs) = (mn h (q.2 / c) :: q.1, q.2 - mn h (q.2 / c) * c) := by rw [gr, hq]
    rw [hg]
    show (w - (q.2 - mn h (q.2 / c) * c) + c * (h - mn h (q.2 / c))) :: lv (d :: cs) (subs (h1 :: hs) q.1) (w - (q.2 - mn h (q.2 / c) * c) + c * (h - mn h (q.2 / c))) = minI (w + c * h - r % d) (sm r (d :: cs) (h1 :: hs) (w + c * h)) :: sufmin (sm r (d :: cs) (h1 :: hs) (w + c * h))
    have e1 : w - (q.2 - mn h (q.2 / c) * c) + c * (h - mn h (q.2 / c)) = w + c * h - q.2 := by
      rw [Int.mul_sub, Int.mul_comm c (mn _ _)]
      omega
    rw [e1, ih]
    congr 1
    -- the head of what is above
    obtain ⟨y, ys, hy⟩ : ∃ y ys, sm r (d :: cs) (h1 :: hs) (w + c * h) = y :: ys := by cases cs <;> exact ⟨_, _, rfl⟩
    have hd1 := hpt d List.mem_cons_self
    obtain ⟨m1, m2⟩ := gr_mod (cs := cs) (hs := hs) (c := d) (r := r) (chain_dvd ch.2.2) (fun d' h' => hpt d' (List.mem_cons_of_mem _ h')) hr
    generalize hz : gr r cs hs = z at m1 m2
    have hq2 : q = (mn h1 (z.2 / d) :: z.1, z.2 - mn h1 (z.2 / d) * d) := by rw [← hq, gr, hz]
    have hT : w + c * h - q.2 + d * (h1 - mn h1 (z.2 / d)) = minI y ys := by
      rw [hy] at ih
      rw [hq2] at ih ⊢
      have ih : (w + c * h - (z.2 - mn h1 (z.2 / d) * d) + d * (h1 - mn h1 (z.2 / d))) :: lv cs (subs hs z.1) (w + c * h - (z.2 - mn h1 (z.2 / d) * d) + d * (h1 - mn h1 (z.2 / d))) = minI y ys :: sufmin ys := ih
      exact (List.cons.inj ih).1
    rw [hy, minI_step, ← hT]
    have hq2' : q.2 = z.2 - mn h1 (z.2 / d) * d := by rw [hq2]
    have e2 : d * (h1 - mn h1 (z.2 / d)) = d * h1 - mn h1 (z.2 / d) * d := by rw [Int.mul_sub, Int.mul_comm d (mn _ _)]
    rw [e2, hq2', ← m1]
    have e3 := Int.emod_add_mul_ediv z.2 d
    have e4 := Int.emod_nonneg z.2 (b := d) (by omega)
    have e5 := Int.emod_lt_of_pos z.2 (b := d) (by omega)
    rcases Int.lt_or_le (z.2 / d) h1 with hlt | hle
    · have e6 : mn h1 (z.2 / d) = z.2 / d := by
        unfold mn
        rw [if_pos hlt]
      have e7 : d * (z.2 / d + 1) ≤ d * h1 := Int.mul_le_mul_of_nonneg_left (by omega) (by omega)
      rw [Int.mul_add] at e7
      rw [e6, Int.mul_comm (z.2 / d) d]
      unfold mn
      split <;> omega
    · have e6 : mn h1 (z.2 / d) = h1 := by
        unfold mn
        rw [if_neg (by omega)]
      have e7 : d * h1 ≤ d * (z.2 / d) := Int.mul_le_mul_of_nonneg_left hle (by omega)
      rw [e6, Int.mul_comm h1 d]
      unfold mn
      split <;> omega
  | [], _ :: _, _, _, _, _, _, h => by simp at h
  | _ :: _, [], _, _, _, _, _, h => by simp at h
  | [_], _ :: _ :: _, _, _, _, _, _, h => by simp at h
  | _ :: _ :: _, [_], _, _, _, _, _, h => by simp at h
theorem gr_len : ∀ {cs hs : List Int} {r : Int}, hs.length = cs.length → (gr r cs hs).1.length = cs.length
  | [], [], _, _ => rfl
  | c :: cs, h :: hs, r, hl => by
    show (gr r cs hs).1.length + 1 = cs.length + 1
    rw [gr_len (by simpa using hl)]
  | [], _ :: _, _, h => by simp at h
  | _ :: _, [], _, h => by simp at h
/-- it comes out even where no sum is below 0 -/
theorem gr_even {cs hs : List Int} {r : Int} (C : Coins cs) (hr : 0 ≤ r) (hl : hs.length = cs.length) (h : ∀ s ∈ sm r cs hs 0, 0 ≤ s) : (gr r cs hs).2 = 0 := by
  have hlv := gr_lv (cs := cs) (hs := hs) (w := 0) (r := r) C.ch C.pos hr hl
  cases cs with
  | nil =>
    have := C.lo
    simp at this
  | cons c cs =>
    cases hs with
    | nil => simp at hl
    | cons h0 hs =>
      have hc : c = 1 := by
        have := C.one
        simpa using this
      subst hc
      obtain ⟨y, ys, hy⟩ : ∃ y ys, sm r (1 :: cs) (h0 :: hs) 0 = y :: ys := by cases cs <;> exact ⟨_, _, rfl⟩
      have hmin : 0 ≤ minI y ys := h _ (by rw [hy]; exact (minI_spec ys y).1)
      obtain ⟨m1, m2⟩ := gr_mod (cs := cs) (hs := hs) (c := 1) (r := r) (fun d _ => Int.one_dvd d) (fun d' h' => C.pos d' (List.mem_cons_of_mem _ h')) hr
      rw [hy] at hlv
      have hlv : (0 - ((gr r cs hs).2 - mn h0 ((gr r cs hs).2 / 1) * 1) + 1 * (h0 - mn h0 ((gr r cs hs).2 / 1))) :: _ = minI y ys :: sufmin ys := hlv
      have e1 := (List.cons.inj hlv).1
      show (gr r cs hs).2 - mn h0 ((gr r cs hs).2 / 1) * 1 = 0
      rw [Int.ediv_one] at e1 ⊢
      unfold mn at e1 ⊢
      split at e1 <;> split <;> omega
theorem zsum_sm : ∀ {cs ms ps : List Int} {r w v : Int}, ms.length = cs.length → ps.length = cs.length → List.zipWith (fun a b => a + b) (lv cs ms w) (ad r cs ps v) = sm r cs (List.zipWith (fun a b => a + b) ms ps) (w + v)
  | [], [], [], _, _, _, _, _ => rfl
  | [c], [m], [p], r, w, v, _, _ => by
    show [w + c * m + (v + c * p - r)] = [w + v + c * (m + p) - r]
    rw [Int.mul_add]
    congr 1
    omega
  | c :: d :: cs, m :: ms, p :: ps, r, w, v, h1, h2 => by
    show (w + c * m + (v + c * p - r % d)) :: List.zipWith (fun a b => a + b) (lv (d :: cs) ms (w + c * m)) (ad r (d :: cs) ps (v + c * p)) = (w + v + c * (m + p) - r % d) :: sm r (d :: cs) (List.zipWith (fun a b => a + b) ms ps) (w + v + c * (m + p))
    rw [zsum_sm (cs := d :: cs) (by simpa using h1) (by simpa using h2)]
    have e : w + c * m + (v + c * p) = w + v + c * (m + p) := by
      rw [Int.mul_add]
      omega
    rw [e]
    congr 1
    rw [Int.mul_add]
    omega
  | [], _ :: _, _, _, _, _, h, _ => by simp at h
  | [], [], _ :: _, _, _, _, _, h => by simp at h
  | _ :: _, [], _, _, _, _, h, _ => by simp at h
  | _ :: _, _ :: _, [], _, _, _, _, h => by simp at h
  | [_], _ :: _ :: _, _, _, _, _, h, _ => by simp at h
  | [_], [_], _ :: _ :: _, _, _, _, _, h => by simp at h


theorem ad_len : ∀ {cs ps : List Int} {r w : Int}, ps.length = cs.length → (ad r cs ps w).length = cs.length
  | [], [], _, _, _ => rfl
  | [_], [_], _, _, _ => rfl
  | c :: d :: cs, p :: ps, r, w, h => by
    show (ad r (d :: cs) ps (w + c * p)).length + 1 = (d :: cs).length + 1
    rw [ad_len (by simpa using h)]
  | [], _ :: _, _, _, h => by simp at h
  | _ :: _, [], _, _, h => by simp at h
  | [_], _ :: _ :: _, _, _, h => by simp at h
/-- the levels and what is added, together -/
abbrev sums (cs lot : List Int) (price : Int) (paid : List Int) : List Int := List.zipWith (fun a b => a + b) (lv cs lot 0) (ad (wo cs paid - price) cs paid 0)
theorem sums_at {cs lot paid : List Int} {price : Int} {k : Nat} {l a : Int} (h1 : (lv cs lot 0)[k]? = some l) (h2 : (ad (wo cs paid - price) cs paid 0)[k]? = some a) : (sums cs lot price paid)[k]? = some (l + a) := by
  rw [List.getElem?_zipWith, h1, h2]
/-- none is below 0 -/
def ok0 (ns : List Int) : Bool := ns.all fun n => leB 0 n
theorem ok0_t {ns : List Int} (h : ∀ s ∈ ns, 0 ≤ s) : ok0 ns = true := List.all_eq_true.mpr fun n hn => le_t (h n hn)
theorem ok0_f {ns : List Int} (h : ∃ s ∈ ns, s < 0) : ok0 ns = false := by
  obtain ⟨s, h1, h2⟩ := h
  rw [← Bool.not_eq_true]
  intro z
  have := of_decide_eq_true (List.all_eq_true.mp z s h1)
  omega
theorem dnD_cons {i : Int} {n : Nat} : dnD i (n + 1) = .int i :: dnD (i - 1) n := by
  unfold dnD
  rw [List.range_succ_eq_map, List.map_cons, List.map_map]
  congr 1
  · show D.int (i - ((0 : Nat) : Int)) = _
    simp
  · refine List.map_congr_left fun k _ => ?_
    show D.int (i - ((k + 1 : Nat) : Int)) = D.int (i - 1 - (k : Int))
    congr 1
    omega
theorem atI_set {L : List D} {k : Nat} {v : D} (h : k < L.length) : atI (L.set k v) (k : Int) = some v := by
  refine atI_nat ?_
  rw [List.getElem?_set_self h]
theorem rep_set' {v : Int} {G : List Int} : ∀ m : Nat, (List.replicate (m + 1) (0 : Int) ++ G).set m v = List.replicate m (0 : Int) ++ v :: G
  | 0 => rfl
  | m + 1 => by
    show (0 : Int) :: ((List.replicate (m + 1) (0 : Int) ++ G).set m v) = (0 : Int) :: (List.replicate m (0 : Int) ++ v :: G)
    rw [rep_set' m]
theorem rep_set {m : Nat} {v : Int} {G : List Int} : ((List.replicate (m + 1) (0 : Int) ++ G).map D.int).set m (.int v) = (List.replicate m (0 : Int) ++ v :: G).map D.int := by
  rw [← List.map_set, rep_set']
abbrev held (lot paid : List Int) : List Int := List.zipWith (fun a b => a + b) lot paid
theorem held_len {cs lot paid : List Int} (h1 : lot.length = cs.length) (h2 : paid.length = cs.length) : (held lot paid).length = cs.length := by rw [List.length_zipWith, h1, h2, Nat.min_self]
theorem zip_mem {f : Int → Int → Int} : ∀ {xs ys : List Int} {z : Int}, z ∈ List.zipWith f xs ys → ∃ x ∈ xs, ∃ y ∈ ys, z = f x y
  | x :: xs, y :: ys, z, h => by
    rcases List.mem_cons.mp (show z ∈ f x y :: List.zipWith f xs ys from h) with rfl | h
    · exact ⟨x, List.mem_cons_self, y, List.mem_cons_self, rfl⟩
    · obtain ⟨x', h1, y', h2, e⟩ := zip_mem h
      exact ⟨x', List.mem_cons_of_mem _ h1, y', List.mem_cons_of_mem _ h2, e⟩
  | [], _, _, h => by
    rw [List.zipWith_nil_left] at h
    cases h
  | _ :: _, [], _, h => by cases h
theorem held_rng {cs lot paid : List Int} (T : Till cs lot) (M : Sm lot) (P : Paid cs paid) : ∀ h ∈ held lot paid, 0 ≤ h ∧ h < 2 ^ 181 := fun h hh => by
  obtain ⟨x, hx, y, hy, rfl⟩ := zip_mem hh
  have := T.nn x hx
  have := M x hx
  have := P.till.nn y hy
  have := P.le y hy
  omega
theorem subs_rng : ∀ {cs hs : List Int} {r b : Int}, (∀ c ∈ cs, 1 ≤ c) → 0 ≤ r → (∀ h ∈ hs, 0 ≤ h ∧ h < b) → ∀ x ∈ subs hs (gr r cs hs).1, 0 ≤ x ∧ x < b
  | c :: cs, h :: hs, r, b, hc, hr, hh, x, hx => by
    obtain ⟨_, g4⟩ := gr_mod (cs := cs) (hs := hs) (c := 1) (r := r) (fun d _ => Int.one_dvd d) (fun d h => hc d (List.mem_cons_of_mem _ h)) hr
    have h1 := hc c List.mem_cons_self
    have h2 := hh h List.mem_cons_self
    have hd0 : 0 ≤ (gr r cs hs).2 / c := Int.ediv_nonneg g4 (by omega)
    have hm := mn_le (p := h) (q := (gr r cs hs).2 / c)
    rcases List.mem_cons.mp (show x ∈ (h - mn h ((gr r cs hs).2 / c)) :: subs hs (gr r cs hs).1 from hx) with rfl | hx
    · rcases hm.2.2 with e | e <;> omega
    · exact subs_rng (fun d h => hc d (List.mem_cons_of_mem _ h)) hr (fun h' hh' => hh h' (List.mem_cons_of_mem _ hh')) x hx
  | [], hs, r, b, _, _, _, x, hx => by
    have hx : x ∈ List.zipWith (fun a b => a - b) hs [] := hx
    rw [List.zipWith_nil_right] at hx
    cases hx
  | _ :: _, [], _, _, _, _, _, x, hx => by cases hx
abbrev left (cs lot : List Int) (price : Int) (paid : List Int) : List Int := subs (held lot paid) (gr (wo cs paid - price) cs (held lot paid)).1
/-- the levels behind are the sums, pressed -/
theorem left_lv {cs lot paid : List Int} {price : Int} (C : Coins cs) (T : Till cs lot) (G : Guest cs price paid) (h : ∀ s ∈ sums cs lot price paid, 0 ≤ s) : lv cs (left cs lot price paid) 0 = sufmin (sums cs lot price paid) := by
  have hr : 0 ≤ wo cs paid - price := by
    have := G.en
    omega
  have hhl := held_len T.len G.pd.till.len
  have e1 : sums cs lot price paid = sm (wo cs paid - price) cs (held lot paid) 0 := zsum_sm (w := 0) (v := 0) T.len G.pd.till.len
  have e2 := gr_even C hr hhl (by rw [← e1]; exact h)
  have e3 := gr_lv (w := 0) C.ch C.pos hr hhl
  rw [e2] at e3
  rw [e1]
  exact e3



abbrev gD (g : Int × List Int) : D := guD g.1 g.2
abbrev Gs (cs : List Int) (gs : List (Int × List Int)) : Prop := ∀ g ∈ gs, Guest cs g.1 g.2
theorem isListD_lst {ds : List D} : isListD (.lst ds) = true := (rfl)
theorem is_day_ok {cs : List Int} {gs : List (Int × List Int)} (C : Coins cs) (G : Gs cs gs) (hl : gs.length ≤ 40) : F_is_day [.im (.lst (cs.map D.int)), .im (.lst (gs.map gD))] = .ok (.im (.bl true)) [.im (.lst (cs.map D.int)), .im (.lst (gs.map gD))] := by
  unfold F_is_day
  rw [x_run rfl]
  show endOf _ (g_is_day [.im (.lst (cs.map D.int)), .im (.lst (gs.map gD)), .no]) = _
  unfold g_is_day
  walk_at "ev"
  rw [x_do1 (check_coins_ok C)]
  walk_at "ev"
  rw [isi_list rfl, isListD_lst]
  walk_at "ev"
  rw [x_iList]
  walk_at "ev"
  generalize hstep : stepOf (tgName 2) _ = step
  obtain ⟨ρ', e, s, rfl⟩ := dFor_run (step := step) (items := gs.map gD) (fun _ ρ => ∃ s : Sl, ρ = [.im (.lst (cs.map D.int)), .im (.lst (gs.map gD)), s])
    (ρ := [.im (.lst (cs.map D.int)), .im (.lst (gs.map gD)), .no]) ⟨_, rfl⟩ (by
      rintro i d ρ hi ⟨s, rfl⟩
      rw [List.getElem?_map] at hi
      cases hg : gs[i]? with
      | none =>
        rw [hg] at hi
        cases hi
      | some g =>
        rw [hg] at hi
        cases hi
        subst hstep
        rw [x_step x_tgName]
        walk_at "ev"
        rw [x_do2 (is_customer_ok C (G g (List.mem_of_getElem? hg)))]
        walk_at "ev"
        exact ⟨_, rfl, _, rfl⟩)
  rw [e]
  walk_at "ev"
theorem check_day_ok {cs : List Int} {gs : List (Int × List Int)} (C : Coins cs) (G : Gs cs gs) (hl : gs.length ≤ 40) : F_check_day [.im (.lst (cs.map D.int)), .im (.lst (gs.map gD))] = .ok (.im .non) [.im (.lst (cs.map D.int)), .im (.lst (gs.map gD))] := by
  unfold F_check_day
  rw [x_run rfl]
  show endOf _ (g_check_day [.im (.lst (cs.map D.int)), .im (.lst (gs.map gD))]) = _
  unfold g_check_day
  walk_at "ev"
  rw [x_do2 (is_day_ok C G hl)]
  walk_at "ev"
abbrev tD (t : List Int) : D := .lst (t.map D.int)


theorem wo_nn : ∀ {cs ns : List Int}, (∀ c ∈ cs, 1 ≤ c) → (∀ n ∈ ns, 0 ≤ n) → 0 ≤ wo cs ns
  | c :: cs, n :: ns, hc, hn => by
    have h1 := hc c List.mem_cons_self
    have h2 := hn n List.mem_cons_self
    have h3 : 0 ≤ c * n := Int.mul_nonneg (by omega) h2
    have := wo_nn (cs := cs) (ns := ns) (fun c' h' => hc c' (List.mem_cons_of_mem _ h')) (fun n' h' => hn n' (List.mem_cons_of_mem _ h'))
    show 0 ≤ c * n + wo cs ns
    omega
  | [], _, _, _ => Int.le_refl 0
  | _ :: _, [], _, _ => Int.le_refl 0
theorem wo_le : ∀ {cs ns : List Int}, (∀ c ∈ cs, 1 ≤ c ∧ c ≤ 100000) → (∀ n ∈ ns, 0 ≤ n ∧ n ≤ 1000000) → wo cs ns ≤ cs.length * 100000000000
  | c :: cs, n :: ns, hc, hn => by
    have h1 := hc c List.mem_cons_self
    have h2 := hn n List.mem_cons_self
    have h3 : c * n ≤ 100000 * 1000000 := Int.mul_le_mul h1.2 h2.2 h2.1 (by omega)
    have := wo_le (cs := cs) (ns := ns) (fun c' h' => hc c' (List.mem_cons_of_mem _ h')) (fun n' h' => hn n' (List.mem_cons_of_mem _ h'))
    show c * n + wo cs ns ≤ ((cs.length + 1 : Nat) : Int) * 100000000000
    omega
  | [], _, _, _ => by
    show (0 : Int) ≤ ((0 : Nat) : Int) * 100000000000
    omega
  | c :: cs, [], _, _ => by
    show (0 : Int) ≤ ((cs.length + 1 : Nat) : Int) * 100000000000
    omega



theorem law_worth_ok {cs ns : List Int} (C : Coins cs) (S : Sz ns) : F__law_worth [.im (.lst (cs.map D.int)), .im (.lst (ns.map D.int))] = .ok (.im (.int (wo cs ns))) [.im (.lst (cs.map D.int)), .im (.lst (ns.map D.int))] := by
  unfold F__law_worth
  rw [x_run rfl]
  show endOf _ (g__law_worth [.im (.lst (cs.map D.int)), .im (.lst (ns.map D.int)), .no, .no]) = _
  unfold g__law_worth
  walk_at "ev"
  generalize hfe : eOp opMul (eVar 2) (eVar 3) = fe
  rw [zip_comp (fun a b => a * b) (by have := C.hi; omega) (fun x y hx hy => ⟨rfl, by
    subst hfe
    have h1 := C.pos x hx
    have h2 := C.le x hx
    have h3 := S y hy
    walk_at "ev", rfl⟩)]
  walk_at "ev"
  rw [show List.zipWith (fun a b => a * b) cs ns = prods cs ns from rfl, prods_sum]
theorem Coins.at {cs : List Int} (C : Coins cs) {k : Int} (h1 : 0 ≤ k) (h2 : k < cs.length) : ∃ l : Int, atI (cs.map D.int) k = some (.int l) ∧ 1 ≤ l ∧ l ≤ 100000 := by
  obtain ⟨h, e⟩ := atI_ints (ns := cs) h1 h2
  exact ⟨_, e, C.pos _ (List.getElem_mem h), C.le _ (List.getElem_mem h)⟩


/-! ### the drawing of customers, by the deck -/
theorem dguest_ok {N : Nat} {δ : Dkt} {cs : List Int} (S : Dk N δ) (hN : N < 10000000) (C : Coins cs) : ∃ (g : Int × List Int) (δ' : Dkt), F__law_guest [dkS δ, .im (.lst (cs.map D.int))] = .ok (.im (gD g)) [dkS δ', .im (.lst (cs.map D.int))] ∧ Guest cs g.1 g.2 ∧ Dk (N + 20) δ' := by
  unfold F__law_guest
  rw [x_run rfl]
  show ∃ (g : Int × List Int) (δ' : Dkt), endOf _ (g__law_guest [dkS δ, .im (.lst (cs.map D.int)), .no, .no, .no, .no, .no]) = _ ∧ _
  unfold g__law_guest
  have h5 := C.hi
  have h2 := C.lo
  obtain ⟨r, δ1, e, k1, k2, S1⟩ := draw_ok (m := 4) S (by omega) (by omega) (by omega)
  obtain ⟨wide, ef, hf1, hf2⟩ := pick (P := fun f => 1 ≤ f ∧ f ≤ 1000001) (xs := [2, 4, 12, 1000001]) k1 (by simpa using k2) (by simp)
  simp only [List.map_cons, List.map_nil] at ef
  walk_at "ev"
  rw [x_doBI (F := F__law_draw) rfl e]
  walk_at "ev"
  rw [ef]
  walk_at "ev"
  rw [x_iList]
  walk_at "ev"
  generalize hfe : (eOp opMul (eCall0 2 F__law_draw _) _ : DL.Env → R Rv) = fe
  obtain ⟨acc, ρ', e2, ns, δ2, rfl, rfl, hlen, hb, S2⟩ := dComp_run (vs := [4]) (tg := tgName 4) (ft := tYesD) (fe := fe) (items := cs.map D.int)
    (fun i acc ρ => ∃ (ns : List Int) (δ2 : Dkt), ρ = [dkS δ2, .im (.lst (cs.map D.int)), .im (.int wide), .no, .no, .no, .no] ∧ acc = ns.map D.int ∧ ns.length = i ∧ (∀ x ∈ ns, 0 ≤ x ∧ x ≤ 1000000) ∧ Dk (N + 1 + 2 * i) δ2)
    (ρ := [dkS δ1, .im (.lst (cs.map D.int)), .im (.int wide), .no, .no, .no, .no]) (by rw [List.length_map]; omega) ⟨[], δ1, rfl, rfl, rfl, (fun _ h => by cases h), S1⟩ (by
      rintro i d acc ρ hi ⟨ns, δ2, rfl, rfl, hlen, hb, S2⟩
      have hin : i < cs.length := by
        have := (List.getElem?_eq_some_iff.mp hi).1
        rwa [List.length_map] at this
      obtain ⟨r1, δ3, e1, k1, k2, S3⟩ := draw_ok (m := wide) S2 (by omega) hf1 (by omega)
      obtain ⟨r2, δ4, e2, k3, k4, S4⟩ := draw_ok (m := 3) S3 (by omega) (by omega) (by omega)
      generalize hw : (if r2 < 1 then r2 else 1) = w
      have hw1 : w = 0 ∨ w = 1 := by
        subst hw
        split <;> omega
      have hww : 0 ≤ r1 * w ∧ r1 * w ≤ 1000000 := by
        rcases hw1 with rfl | rfl
        · omega
        · omega
      refine ⟨_, x_tgName, .inl ⟨.im (.int (r1 * w)), [dkS δ2, .im (.lst (cs.map D.int)), .im (.int wide), .no, .im d, .no, .no], [dkS δ4, .im (.lst (cs.map D.int)), .im (.int wide), .no, .im d, .no, .no], rfl, ?_, ns ++ [r1 * w], δ4, rfl, by rw [List.map_append]; rfl, by rw [List.length_append, List.length_singleton, hlen], ?_, S4.mono (by omega)⟩⟩
      · subst hfe
        walk_at "ev"
        rw [x_doBI (F := F__law_draw) rfl e1]
        walk_at "ev"
        rw [x_doBI (F := F__law_draw) rfl e2]
        walk_at "ev"
        rw [hw]
      · intro x hx
        rcases List.mem_append.mp hx with hx | hx
        · exact hb x hx
        · rw [List.mem_singleton] at hx
          subst hx
          exact hww)
  rw [List.length_map] at hlen S2
  have P : Paid cs ns := ⟨⟨hlen, fun x h => (hb x h).1⟩, fun x h => (hb x h).2⟩
  have hw0 : 0 ≤ wo cs ns := wo_nn C.pos P.till.nn
  rw [e2]
  walk_at "ev"
  rw [x_do2 (law_worth_ok C P.sz)]
  walk_at "ev"
  generalize hm : (if (1000000000 : Int) < wo cs ns then (1000000000 : Int) else wo cs ns) = most
  have hm1 : 0 ≤ most ∧ most ≤ 1000000000 ∧ most ≤ wo cs ns := by
    subst hm
    split <;> omega
  obtain ⟨q, eq, q1, q2⟩ := C.at (k := 1) (by omega) (by omega)
  obtain ⟨r3, δ3, e3, k3, k4, S3⟩ := draw_ok (m := most + 1) S2 (by omega) (by omega) (by omega)
  obtain ⟨r4, δ4, e4, k5, k6, S4⟩ := draw_ok (m := q) S3 (by omega) (by omega) (by omega)
  obtain ⟨r5, δ5, e5, k7, k8, S5⟩ := draw_ok (m := 4) S4 (by omega) (by omega) (by omega)
  rw [x_doBI (F := F__law_draw) rfl e3]
  walk_at "ev"
  rw [eq]
  walk_at "ev"
  rw [x_doBI (F := F__law_draw) rfl e4]
  walk_at "ev"
  generalize hl : (if (0 : Int) < most - r4 then most - r4 else 0) = less
  have hl1 : 0 ≤ less ∧ less ≤ most := by
    subst hl
    split <;> omega
  obtain ⟨f, efp, hp1, hp2⟩ := pick (P := fun f => 0 ≤ f ∧ f ≤ most) (xs := [most, 0, r3, less]) k7 (by simpa using k8) (by simp; omega)
  simp only [List.map_cons, List.map_nil] at efp
  rw [x_doBI (F := F__law_draw) rfl e5]
  walk_at "ev"
  rw [efp]
  walk_at "ev"
  exact ⟨(f, ns), δ5, rfl, ⟨P, hp1, by show f ≤ _; omega, by show f ≤ wo cs ns; omega⟩, S5.mono (by omega)⟩


def mx (p q : Int) : Int := if q > p then q else p
theorem mx_ge {p q : Int} : p ≤ mx p q ∧ q ≤ mx p q ∧ (mx p q = p ∨ mx p q = q) := by
  unfold mx
  split <;> omega


/-- what a customer adds -/
abbrev rowG (cs : List Int) (g : Int × List Int) : List Int := ad (wo cs g.2 - g.1) cs g.2 0
theorem rowG_len {cs : List Int} {g : Int × List Int} (G : Guest cs g.1 g.2) : (rowG cs g).length = cs.length := ad_len G.pd.till.len



theorem Coins.cons {cs : List Int} (C : Coins cs) : ∃ cr, cs = 1 :: cr := by
  cases cs with
  | nil => have := C.lo; simp at this
  | cons c cr =>
    have := C.one
    simp at this
    exact ⟨cr, by rw [this]⟩



theorem rng_intsL (lo : Int) (n : Nat) : rngD lo n = ((List.range n).map fun (k : Nat) => lo + (k : Int)).map D.int := by
  unfold rngD
  rw [List.map_map]
  rfl
theorem dFor_findI {step : D → DL.Env → Out} {ev : Sl → DL.Env} {p : Int → Bool} {rv : Int → Rv} : ∀ (qs : List Int) (x : Sl),
    (∀ k ∈ qs, ∀ x, step (.int k) (ev x) = cond (p k) (.ret (rv k) (ev (.im (.int k)))) (.nx (ev (.im (.int k))))) →
    ∃ y, dFor step (qs.map D.int) (ev x) = match qs.find? p with
      | some k => .ret (rv k) (ev y)
      | none => .nx (ev y)
  | [], x, _ => ⟨x, rfl⟩
  | k :: qs, x, h => by
    have h1 := h k List.mem_cons_self x
    rw [List.map_cons]
    cases hp : p k with
    | true =>
      rw [hp] at h1
      refine ⟨.im (.int k), ?_⟩
      rw [dFor_ret h1, List.find?_cons_of_pos hp]
    | false =>
      rw [hp] at h1
      obtain ⟨y, e⟩ := dFor_findI qs (.im (.int k)) fun j hj => h j (List.mem_cons_of_mem _ hj)
      refine ⟨y, ?_⟩
      rw [dFor_cons h1, e, List.find?_cons_of_neg (by rw [hp]; exact Bool.false_ne_true)]
def atZ (ns : List Int) (k : Int) : Int := (atI ns k).getD 0
theorem atZ_at {ns : List Int} {k : Int} (h1 : 0 ≤ k) (h2 : k < ns.length) : atI (ns.map D.int) k = some (.int (atZ ns k)) := by
  obtain ⟨h, e⟩ := atI_ints h1 h2
  rw [e]
  unfold atZ
  rw [atI_at h1 h2, List.getElem?_eq_getElem h]
  rfl
theorem atZ_get {ns : List Int} {k : Nat} (h : k < ns.length) : atZ ns k = ns[k] := by
  unfold atZ
  rw [atI_at (by omega) (by omega), Int.toNat_natCast, List.getElem?_eq_getElem h]
  rfl
def rngI (n : Nat) : List Int := (List.range n).map fun (k : Nat) => (k : Int)
theorem rngI_mem {n : Nat} {k : Int} (h : k ∈ rngI n) : 0 ≤ k ∧ k < n := by
  unfold rngI at h
  obtain ⟨j, hj, rfl⟩ := List.mem_map.mp h
  rw [List.mem_range] at hj
  omega
theorem mem_rngI {n : Nat} {k : Int} (h1 : 0 ≤ k) (h2 : k < n) : k ∈ rngI n := List.mem_map.mpr ⟨k.toNat, List.mem_range.mpr (by omega), by omega⟩
theorem rngI_len {n : Nat} : (rngI n).length = n := by
  unfold rngI
  rw [List.length_map, List.length_range]
/-- the first level of xs that is below its need -/
def lackB (xs ys : List Int) (k : Int) : Bool := ltB (atZ xs k) (atZ ys k)
def lackD (xs ys : List Int) : D :=
  match (rngI xs.length).find? (lackB xs ys) with
  | some k => .int k
  | none => .non
theorem Up.at : ∀ {lo : Int} {ls : List Int} {k : Nat} (h : Up lo ls) (hk : k + 1 < ls.length), ls[k] ≤ ls[k + 1]
  | _, [], _, _, hk => by simp at hk
  | _, [_], _, _, hk => by simp at hk
  | lo, a :: b :: r, 0, h, _ => h.2.1
  | lo, a :: b :: r, k + 1, h, hk => Up.at (ls := b :: r) (k := k) h.2 (by simpa using hk)
theorem Needs.each {cs ls : List Int} (N : Needs cs ls) : eachD cs (.lst (ls.map D.int)) = true := Till.each ⟨N.len, N.nn⟩

/-! ### the program: what a day needs -/
/-- the needs ahead of a row -/
def wr : Int → List Int → List Int → List Int
  | m, e :: es, n :: ns => mx m (n - e) :: wr (mx m (n - e)) es ns
  | _, _, _ => []
theorem wr_len : ∀ {es ns : List Int} {m : Int}, es.length = ns.length → (wr m es ns).length = ns.length
  | [], [], _, _ => rfl
  | e :: es, n :: ns, m, h => by
    show (wr _ es ns).length + 1 = ns.length + 1
    rw [wr_len (by simpa using h)]
  | [], _ :: _, _, h => by simp at h
  | _ :: _, [], _, h => by simp at h
theorem wr_loop {step : D → DL.Env → Out} {P Q : Sl} (hs : step = stepOf (tgTup [tgName 4, tgName 5]) (sSeq (sSet 3 (eCB bMax2 (aCons (eVar 3) (aCons (eOp opSub (eVar 5) (eVar 4)) aNil)))) (sApp 2 (eVar 3)))) :
    ∀ (es ns out : List Int) (m : Int) (x y : Sl), es.length = ns.length → out.length + ns.length ≤ 1000 →
      ∃ z x' y', dFor step (zipD (es.map D.int) (ns.map D.int)) [P, Q, .own (out.map D.int), .im (.int m), x, y] = .nx [P, Q, .own ((out ++ wr m es ns).map D.int), z, x', y']
  | [], [], out, m, x, y, _, _ => ⟨.im (.int m), x, y, by rw [show wr m [] [] = [] from rfl, List.append_nil]; rfl⟩
  | [], _ :: _, _, _, _, _, h, _ => by simp at h
  | _ :: _, [], _, _, _, _, h, _ => by simp at h
  | e :: es, n :: ns, out, m, x, y, hl, ho => by
    rw [List.length_cons, List.length_cons] at hl
    rw [List.length_cons] at ho
    have hstep : step (.tup [.int e, .int n]) [P, Q, .own (out.map D.int), .im (.int m), x, y] = .nx [P, Q, .own ((out ++ [mx m (n - e)]).map D.int), .im (.int (mx m (n - e))), .im (.int e), .im (.int n)] := by
      rw [hs, x_step (ρ' := [P, Q, .own (out.map D.int), .im (.int m), .im (.int e), .im (.int n)]) (by walk_at "ev")]
      walk_at "ev"
      rw [x_appK2 (by rw [List.length_map]; omega)]
      walk_at "ev"
      rw [List.map_append]
      rfl
    obtain ⟨z, x', y', e2⟩ := wr_loop hs es ns (out ++ [mx m (n - e)]) (mx m (n - e)) (.im (.int e)) (.im (.int n)) (by omega) (by rw [List.length_append, List.length_singleton]; omega)
    refine ⟨z, x', y', ?_⟩
    show dFor step (.tup [.int e, .int n] :: zipD (es.map D.int) (ns.map D.int)) _ = _
    rw [dFor_cons hstep, e2, List.append_assoc]
    rfl
/-- what a day needs -/
def nd (cs : List Int) : List (Int × List Int) → List Int
  | [] => List.replicate cs.length 0
  | g :: gs => wr 0 (rowG cs g) (nd cs gs)
theorem nd_len {cs : List Int} : ∀ {gs : List (Int × List Int)}, Gs cs gs → (nd cs gs).length = cs.length
  | [], _ => List.length_replicate
  | g :: gs, h => by
    have ih := nd_len (gs := gs) fun x hx => h x (List.mem_cons_of_mem _ hx)
    show (wr 0 _ (nd cs gs)).length = _
    rw [wr_len (by rw [rowG_len (h g List.mem_cons_self), ih]), ih]
/-- the needs ahead of each customer, then those behind the last -/
def ndl (cs : List Int) : List (Int × List Int) → List (List Int)
  | [] => [nd cs []]
  | g :: gs => nd cs (g :: gs) :: ndl cs gs
theorem ndl_head {cs : List Int} {gs : List (Int × List Int)} : ∃ r, ndl cs gs = nd cs gs :: r := by
  cases gs with
  | nil => exact ⟨[], rfl⟩
  | cons g gs => exact ⟨ndl cs gs, rfl⟩
theorem ndl_len {cs : List Int} : ∀ {gs : List (Int × List Int)}, (ndl cs gs).length = gs.length + 1
  | [] => rfl
  | g :: gs => by
    show (ndl cs gs).length + 1 = gs.length + 1 + 1
    rw [ndl_len]

theorem left_till {cs lot paid : List Int} {price : Int} (C : Coins cs) (T : Till cs lot) (M : ∀ n ∈ lot, n < 2 ^ 150) (G : Guest cs price paid) : Till cs (left cs lot price paid) ∧ Sm (left cs lot price paid) := by
  have hr : 0 ≤ wo cs paid - price := by
    have := G.en
    omega
  have hhl := held_len T.len G.pd.till.len
  have h := subs_rng (cs := cs) (hs := held lot paid) (r := wo cs paid - price) (b := 2 ^ 151) C.pos hr (fun h hh => by
    obtain ⟨x, hx, y, hy, rfl⟩ := zip_mem hh
    have := T.nn x hx
    have := M x hx
    have := G.pd.till.nn y hy
    have := G.pd.le y hy
    omega)
  refine ⟨⟨?_, fun x hx => (h x hx).1⟩, fun x hx => by have := (h x hx).2; omega⟩
  show (List.zipWith (fun a b => a - b) (held lot paid) (gr (wo cs paid - price) cs (held lot paid)).1).length = _
  rw [List.length_zipWith, gr_len hhl, hhl, Nat.min_self]
theorem ok0_all {ns : List Int} (h : ok0 ns = true) : ∀ s ∈ ns, 0 ≤ s := fun s hs => of_decide_eq_true (List.all_eq_true.mp h s hs)
theorem left_bd {cs lot paid : List Int} {price b : Int} (C : Coins cs) (T : Till cs lot) (M : ∀ n ∈ lot, n < b) (G : Guest cs price paid) : Till cs (left cs lot price paid) ∧ ∀ x ∈ left cs lot price paid, x < b + 1000001 := by
  have hr : 0 ≤ wo cs paid - price := by
    have := G.en
    omega
  have hhl := held_len T.len G.pd.till.len
  have h := subs_rng (cs := cs) (hs := held lot paid) (r := wo cs paid - price) (b := b + 1000001) C.pos hr (fun h hh => by
    obtain ⟨x, hx, y, hy, rfl⟩ := zip_mem hh
    have := T.nn x hx
    have := M x hx
    have := G.pd.till.nn y hy
    have := G.pd.le y hy
    omega)
  refine ⟨⟨?_, fun x hx => (h x hx).1⟩, fun x hx => (h x hx).2⟩
  show (List.zipWith (fun a b => a - b) (held lot paid) (gr (wo cs paid - price) cs (held lot paid)).1).length = _
  rw [List.length_zipWith, gr_len hhl, hhl, Nat.min_self]


/-! ### the mathematics of needs -/
/-- each no more than its fellow -/
def Le : List Int → List Int → Prop
  | y :: ys, x :: xs => y ≤ x ∧ Le ys xs
  | [], [] => True
  | _, _ => False
theorem Le.len : ∀ {ys xs : List Int}, Le ys xs → ys.length = xs.length
  | [], [], _ => rfl
  | y :: ys, x :: xs, h => by rw [List.length_cons, List.length_cons, Le.len h.2]
  | [], _ :: _, h => h.elim
  | _ :: _, [], h => h.elim
theorem Le.refl : ∀ {xs : List Int}, Le xs xs
  | [] => trivial
  | x :: xs => ⟨Int.le_refl x, Le.refl⟩
theorem Le.trans : ∀ {xs ys zs : List Int}, Le xs ys → Le ys zs → Le xs zs
  | [], [], [], _, _ => trivial
  | x :: xs, y :: ys, z :: zs, h, k => ⟨Int.le_trans h.1 k.1, Le.trans h.2 k.2⟩
  | [], [], _ :: _, _, k => k.elim
  | [], _ :: _, _, h, _ => h.elim
  | _ :: _, [], _, h, _ => h.elim
  | _ :: _, _ :: _, [], _, k => k.elim
theorem Le.at : ∀ {ys xs : List Int} {k : Nat} (h : Le ys xs) (h1 : k < ys.length) (h2 : k < xs.length), ys[k] ≤ xs[k]
  | y :: ys, x :: xs, 0, h, _, _ => h.1
  | y :: ys, x :: xs, k + 1, h, h1, h2 => Le.at (ys := ys) (xs := xs) (k := k) h.2 (by simpa using h1) (by simpa using h2)
  | [], _, _, _, h1, _ => by simp at h1
  | _ :: _, [], _, h, _, _ => h.elim
theorem Le.of : ∀ {ys xs : List Int}, ys.length = xs.length → (∀ (k : Nat) (h1 : k < ys.length) (h2 : k < xs.length), ys[k] ≤ xs[k]) → Le ys xs
  | [], [], _, _ => trivial
  | y :: ys, x :: xs, hl, h => ⟨h 0 (by simp) (by simp), Le.of (by simpa using hl) fun k h1 h2 => by
    have := h (k + 1) (by simpa using h1) (by simpa using h2)
    simpa using this⟩
  | [], _ :: _, hl, _ => by simp at hl
  | _ :: _, [], hl, _ => by simp at hl
theorem wr_up : ∀ {es ns : List Int} {m : Int}, Up m (wr m es ns)
  | [], _, _ => trivial
  | _ :: _, [], _ => trivial
  | e :: es, n :: ns, m => ⟨mx_ge.1, wr_up⟩
theorem up_rep : ∀ {n : Nat}, Up 0 (List.replicate n 0)
  | 0 => trivial
  | n + 1 => ⟨Int.le_refl 0, up_rep⟩
theorem nd_up {cs : List Int} : ∀ {gs : List (Int × List Int)}, Up 0 (nd cs gs)
  | [] => up_rep
  | _ :: _ => wr_up
theorem nd_needs {cs : List Int} {gs : List (Int × List Int)} (G : Gs cs gs) : Needs cs (nd cs gs) := ⟨nd_len G, nd_up⟩
theorem wr_le : ∀ {es ns : List Int} {m A E : Int}, m ≤ A + E → (∀ n ∈ ns, n ≤ A) → (∀ e ∈ es, -E ≤ e) → ∀ x ∈ wr m es ns, x ≤ A + E
  | [], _, _, _, _, _, _, _, x, h => by simp [wr] at h
  | _ :: _, [], _, _, _, _, _, _, x, h => by simp [wr] at h
  | e :: es, n :: ns, m, A, E, h0, h1, h2, x, h => by
    have g1 := h1 n List.mem_cons_self
    have g2 := h2 e List.mem_cons_self
    have g3 : mx m (n - e) ≤ A + E := by
      rcases (mx_ge (p := m) (q := n - e)).2.2 with q | q <;> omega
    rcases List.mem_cons.mp (show x ∈ mx m (n - e) :: wr (mx m (n - e)) es ns from h) with h | h
    · omega
    · exact wr_le g3 (fun y hy => h1 y (List.mem_cons_of_mem _ hy)) (fun y hy => h2 y (List.mem_cons_of_mem _ hy)) x h
theorem ad_ge : ∀ {cs ps : List Int} {r w : Int}, (∀ c ∈ cs, 1 ≤ c) → (∀ p ∈ ps, 0 ≤ p) → 0 ≤ r → 0 ≤ w → ∀ e ∈ ad r cs ps w, -r ≤ e
  | [], _, _, _, _, _, _, _, e, h => by simp [ad] at h
  | [_], [], _, _, _, _, _, _, e, h => by simp [ad] at h
  | _ :: _ :: _, [], _, _, _, _, _, _, e, h => by simp [ad] at h
  | [c], p :: ps, r, w, hc, hp, hr, hw, e, h => by
    have h1 : 0 ≤ c * p := Int.mul_nonneg (by have := hc c List.mem_cons_self; omega) (hp p List.mem_cons_self)
    rw [show ad r [c] (p :: ps) w = [w + c * p - r] from rfl, List.mem_singleton] at h
    omega
  | c :: d :: cs, p :: ps, r, w, hc, hp, hr, hw, e, h => by
    have h1 : 0 ≤ c * p := Int.mul_nonneg (by have := hc c List.mem_cons_self; omega) (hp p List.mem_cons_self)
    have h2 : r % d ≤ r := by
      have hd := hc d (List.mem_cons_of_mem _ List.mem_cons_self)
      have h3 := Int.mul_ediv_add_emod r d
      have h4 : 0 ≤ d * (r / d) := Int.mul_nonneg (by omega) (Int.ediv_nonneg hr (by omega))
      omega
    rcases List.mem_cons.mp (show e ∈ (w + c * p - r % d) :: ad r (d :: cs) ps (w + c * p) from h) with h | h
    · omega
    · exact ad_ge (fun c' h' => hc c' (List.mem_cons_of_mem _ h')) (fun p' h' => hp p' (List.mem_cons_of_mem _ h')) hr (by omega) e h
theorem row_ge {cs : List Int} {g : Int × List Int} (C : Coins cs) (G : Guest cs g.1 g.2) : ∀ e ∈ rowG cs g, -1000000000000 ≤ e := fun e he => by
  have h5 := C.hi
  have hw1 : wo cs g.2 ≤ cs.length * 100000000000 := wo_le (fun c h => ⟨C.pos c h, C.le c h⟩) fun n h => ⟨G.pd.till.nn n h, G.pd.le n h⟩
  have h1 := G.en
  have h2 := G.lo
  have h3 := ad_ge C.pos G.pd.till.nn (show 0 ≤ wo cs g.2 - g.1 by omega) (Int.le_refl 0) e he
  omega
theorem nd_le {cs : List Int} (C : Coins cs) : ∀ {gs : List (Int × List Int)}, Gs cs gs → ∀ x ∈ nd cs gs, x ≤ gs.length * 1000000000000
  | [], _, x, h => by
    rw [List.eq_of_mem_replicate h]
    simp
  | g :: gs, G, x, h => by
    have ih := nd_le C (gs := gs) fun y hy => G y (List.mem_cons_of_mem _ hy)
    have := wr_le (m := 0) (A := gs.length * 1000000000000) (E := 1000000000000) (by omega) ih (row_ge C (G g List.mem_cons_self)) x h
    rw [List.length_cons]
    omega
/-- the needs less what is added are no more than the levels -/
def Lt : List Int → List Int → List Int → Prop
  | e :: es, n :: ns, x :: xs => n - e ≤ x ∧ Lt es ns xs
  | _, _, _ => True
theorem wr_iff : ∀ {es ns xs : List Int} {m : Int}, es.length = ns.length → ns.length = xs.length → Up m xs → (Le (wr m es ns) xs ↔ Lt es ns xs)
  | [], [], [], _, _, _, _ => ⟨fun _ => trivial, fun _ => trivial⟩
  | e :: es, n :: ns, x :: xs, m, h1, h2, hu => by
    show (mx m (n - e) ≤ x ∧ Le (wr (mx m (n - e)) es ns) xs) ↔ (n - e ≤ x ∧ Lt es ns xs)
    have hm := hu.1
    have g := mx_ge (p := m) (q := n - e)
    have up : ∀ {q : Int} {ys : List Int}, q ≤ x → Up x ys → Up q ys := fun {q ys} hq h => by
      cases ys with
      | nil => trivial
      | cons y ys => exact ⟨Int.le_trans hq h.1, h.2⟩
    constructor
    · rintro ⟨a, b⟩
      have ih := wr_iff (es := es) (ns := ns) (xs := xs) (m := mx m (n - e)) (by simpa using h1) (by simpa using h2) (up a hu.2)
      exact ⟨by omega, ih.mp b⟩
    · rintro ⟨a, b⟩
      have a2 : mx m (n - e) ≤ x := by rcases g.2.2 with q | q <;> omega
      have ih := wr_iff (es := es) (ns := ns) (xs := xs) (m := mx m (n - e)) (by simpa using h1) (by simpa using h2) (up a2 hu.2)
      exact ⟨a2, ih.mpr b⟩
  | [], _ :: _, _, _, h, _, _ => by simp at h
  | _ :: _, [], _, _, h, _, _ => by simp at h
  | [], [], _ :: _, _, _, h, _ => by simp at h
  | _ :: _, _ :: _, [], _, _, h, _ => by simp at h
theorem lt_sum : ∀ {es ns xs : List Int}, es.length = ns.length → ns.length = xs.length → (Lt es ns xs ↔ Le ns (List.zipWith (fun a b => a + b) xs es))
  | [], [], [], _, _ => ⟨fun _ => trivial, fun _ => trivial⟩
  | e :: es, n :: ns, x :: xs, h1, h2 => by
    show (n - e ≤ x ∧ Lt es ns xs) ↔ (n ≤ x + e ∧ Le ns (List.zipWith (fun a b => a + b) xs es))
    rw [lt_sum (by simpa using h1) (by simpa using h2)]
    constructor <;> rintro ⟨a, b⟩ <;> exact ⟨by omega, b⟩
  | [], _ :: _, _, h, _ => by simp at h
  | _ :: _, [], _, h, _ => by simp at h
  | [], [], _ :: _, _, h => by simp at h
  | _ :: _, _ :: _, [], _, h => by simp at h
theorem le_all : ∀ {ns ss : List Int} {lo : Int}, Up lo ns → Le ns ss → ∀ s ∈ ss, lo ≤ s
  | [], [], _, _, _, s, h => by cases h
  | n :: ns, s :: ss, lo, hu, h, t, ht => by
    rcases List.mem_cons.mp ht with e | ht
    · have := hu.1
      have := h.1
      omega
    · have := le_all hu.2 h.2 t ht
      have := hu.1
      omega
  | [], _ :: _, _, _, h, _, _ => h.elim
  | _ :: _, [], _, _, h, _, _ => h.elim
theorem le_sufmin : ∀ {ns ss : List Int} {lo : Int}, Up lo ns → (Le ns ss ↔ Le ns (sufmin ss))
  | [], [], _, _ => Iff.rfl
  | n :: ns, s :: ss, lo, hu => by
    show (n ≤ s ∧ Le ns ss) ↔ (n ≤ minI s ss ∧ Le ns (sufmin ss))
    have g := minI_spec ss s
    have ih := le_sufmin (ns := ns) (ss := ss) hu.2
    constructor
    · rintro ⟨a, b⟩
      refine ⟨?_, ih.mp b⟩
      rcases List.mem_cons.mp g.1 with e | e
      · omega
      · exact le_all hu.2 b _ e
    · rintro ⟨a, b⟩
      have := g.2 s List.mem_cons_self
      exact ⟨by omega, ih.mpr b⟩
  | [], _ :: _, _, _ => Iff.rfl
  | _ :: _, [], _, _ => Iff.rfl
theorem lv_up : ∀ {cs ns : List Int} {w : Int}, (∀ c ∈ cs, 1 ≤ c) → (∀ n ∈ ns, 0 ≤ n) → Up w (lv cs ns w)
  | [], _, _, _, _ => trivial
  | _ :: _, [], _, _, _ => trivial
  | c :: cs, n :: ns, w, hc, hn => by
    have h1 : 0 ≤ c * n := Int.mul_nonneg (by have := hc c List.mem_cons_self; omega) (hn n List.mem_cons_self)
    exact ⟨by omega, lv_up (fun c' h => hc c' (List.mem_cons_of_mem _ h)) fun n' h => hn n' (List.mem_cons_of_mem _ h)⟩
/-- one customer ahead: the till must serve him, and meet the needs of the rest behind him -/
theorem nd_cons {cs lot : List Int} {g : Int × List Int} {gs : List (Int × List Int)} (C : Coins cs) (T : Till cs lot) (G : Gs cs (g :: gs)) :
    Le (nd cs (g :: gs)) (lv cs lot 0) ↔ (∀ s ∈ sums cs lot g.1 g.2, 0 ≤ s) ∧ Le (nd cs gs) (lv cs (left cs lot g.1 g.2) 0) := by
  have Gg := G g List.mem_cons_self
  have Gr : Gs cs gs := fun x hx => G x (List.mem_cons_of_mem _ hx)
  have h1 := rowG_len Gg
  have h2 := nd_len Gr
  have h3 := lv_len (w := 0) T.len
  rw [show nd cs (g :: gs) = wr 0 (rowG cs g) (nd cs gs) from rfl, wr_iff (by omega) (by omega) (lv_up C.pos T.nn), lt_sum (by omega) (by omega)]
  constructor
  · intro h
    have hs : ∀ s ∈ sums cs lot g.1 g.2, 0 ≤ s := le_all nd_up h
    refine ⟨hs, ?_⟩
    rw [left_lv C T Gg hs]
    exact (le_sufmin nd_up).mp h
  · rintro ⟨hs, h⟩
    rw [left_lv C T Gg hs] at h
    exact (le_sufmin nd_up).mpr h
/-- gone through, the greatest first: how many come out even, what lies there behind them -/
def gone (cs : List Int) : List Int → List (Int × List Int) → Nat × List Int
  | lot, [] => (0, lot)
  | lot, g :: gs => cond (ok0 (sums cs lot g.1 g.2)) ((gone cs (left cs lot g.1 g.2) gs).1 + 1, (gone cs (left cs lot g.1 g.2) gs).2) (0, lot)
theorem gone_cons {cs lot : List Int} {g : Int × List Int} {gs : List (Int × List Int)} : gone cs lot (g :: gs) = cond (ok0 (sums cs lot g.1 g.2)) ((gone cs (left cs lot g.1 g.2) gs).1 + 1, (gone cs (left cs lot g.1 g.2) gs).2) (0, lot) := (rfl)
theorem left_tl {cs lot : List Int} {g : Int × List Int} (C : Coins cs) (T : Till cs lot) (G : Guest cs g.1 g.2) : Till cs (left cs lot g.1 g.2) := by
  have hb : ∃ b : Int, ∀ n ∈ lot, n < b := by
    clear T
    induction lot with
    | nil => exact ⟨0, fun n h => by cases h⟩
    | cons x xs ih =>
      obtain ⟨b, hb⟩ := ih
      refine ⟨mx b (x + 1), fun n h => ?_⟩
      have := mx_ge (p := b) (q := x + 1)
      rcases List.mem_cons.mp h with h | h
      · omega
      · have := hb n h
        omega
  obtain ⟨b, hb⟩ := hb
  exact (left_bd C T hb G).1
theorem gone_le {cs : List Int} : ∀ {gs : List (Int × List Int)} {lot : List Int}, (gone cs lot gs).1 ≤ gs.length
  | [], _ => Nat.le_refl 0
  | g :: gs, lot => by
    unfold gone
    cases ok0 (sums cs lot g.1 g.2) with
    | false => exact Nat.zero_le _
    | true =>
      show (gone cs (left cs lot g.1 g.2) gs).1 + 1 ≤ gs.length + 1
      have := gone_le (cs := cs) (gs := gs) (lot := left cs lot g.1 g.2)
      omega
theorem gone_till {cs : List Int} (C : Coins cs) : ∀ {gs : List (Int × List Int)} {lot : List Int}, Till cs lot → Gs cs gs → Till cs (gone cs lot gs).2
  | [], _, T, _ => T
  | g :: gs, lot, T, G => by
    unfold gone
    cases ok0 (sums cs lot g.1 g.2) with
    | false => exact T
    | true => exact gone_till C (left_tl C T (G g List.mem_cons_self)) fun x hx => G x (List.mem_cons_of_mem _ hx)
theorem gone_bd {cs : List Int} (C : Coins cs) : ∀ {gs : List (Int × List Int)} {lot : List Int} {b : Int}, Till cs lot → (∀ n ∈ lot, n < b) → Gs cs gs → ∀ x ∈ (gone cs lot gs).2, x < b + gs.length * 1000001
  | [], _, _, _, B, _, x, h => by
    have := B x h
    simp
    omega
  | g :: gs, lot, b, T, B, G, x, h => by
    unfold gone at h
    rw [List.length_cons]
    cases e : ok0 (sums cs lot g.1 g.2) with
    | false =>
      rw [e] at h
      have := B x h
      omega
    | true =>
      rw [e] at h
      have := gone_bd C (left_tl C T (G g List.mem_cons_self)) (left_bd C T B (G g List.mem_cons_self)).2 (fun y hy => G y (List.mem_cons_of_mem _ hy)) x h
      omega
/-- a till is served the whole day just where it meets the needs -/
theorem gone_all {cs : List Int} (C : Coins cs) : ∀ {gs : List (Int × List Int)} {lot : List Int}, Till cs lot → Gs cs gs → ((gone cs lot gs).1 = gs.length ↔ Le (nd cs gs) (lv cs lot 0))
  | [], lot, T, _ => by
    refine ⟨fun _ => ?_, fun _ => rfl⟩
    refine Le.of (by rw [lv_len T.len]; exact List.length_replicate) fun k h1 h2 => ?_
    have h3 : (nd cs [])[k] = 0 := List.getElem_replicate ..
    rw [h3]
    exact (lv_up C.pos T.nn).ge _ (List.getElem_mem _)
  | g :: gs, lot, T, G => by
    rw [nd_cons C T G]
    have Gg := G g List.mem_cons_self
    have ih := gone_all C (gs := gs) (left_tl C T Gg) fun x hx => G x (List.mem_cons_of_mem _ hx)
    rw [← ih, gone_cons]
    cases e : ok0 (sums cs lot g.1 g.2) with
    | false =>
      refine ⟨fun h => ?_, fun h => ?_⟩
      · have h : 0 = gs.length + 1 := h
        omega
      · rw [ok0_t h.1] at e
        cases e
    | true =>
      refine ⟨fun h => ⟨ok0_all e, ?_⟩, fun h => ?_⟩
      · have h : (gone cs (left cs lot g.1 g.2) gs).1 + 1 = gs.length + 1 := h
        omega
      · show (gone cs (left cs lot g.1 g.2) gs).1 + 1 = gs.length + 1
        omega
/-- cut: behind the served beginning the rest's needs are what is left to be met -/
theorem gone_cut {cs : List Int} (C : Coins cs) : ∀ {as bs : List (Int × List Int)} {lot : List Int}, Till cs lot → Gs cs (as ++ bs) → (gone cs lot as).1 = as.length → (Le (nd cs (as ++ bs)) (lv cs lot 0) ↔ Le (nd cs bs) (lv cs (gone cs lot as).2 0))
  | [], _, _, _, _, _ => Iff.rfl
  | g :: as, bs, lot, T, G, h => by
    have Gg := G g List.mem_cons_self
    have hc := nd_cons (gs := as ++ bs) C T G
    show Le (nd cs (g :: (as ++ bs))) (lv cs lot 0) ↔ _
    rw [hc]
    rw [gone_cons] at h ⊢
    cases e : ok0 (sums cs lot g.1 g.2) with
    | false =>
      rw [e] at h
      have h : 0 = as.length + 1 := h
      omega
    | true =>
      rw [e] at h
      have h : (gone cs (left cs lot g.1 g.2) as).1 + 1 = as.length + 1 := h
      have ih := gone_cut C (as := as) (bs := bs) (left_tl C T Gg) (fun x hx => G x (List.mem_cons_of_mem _ hx)) (by omega)
      rw [show (cond true ((gone cs (left cs lot g.1 g.2) as).1 + 1, (gone cs (left cs lot g.1 g.2) as).2) (0, lot)).2 = (gone cs (left cs lot g.1 g.2) as).2 from rfl, ← ih]
      exact ⟨fun q => q.2, fun q => ⟨ok0_all e, q⟩⟩
/-- more customers behind need no less -/
theorem wr_mono : ∀ {es ns ns' : List Int} {m m' : Int}, m ≤ m' → Le ns ns' → es.length = ns.length → Le (wr m es ns) (wr m' es ns')
  | [], [], [], _, _, _, _, _ => trivial
  | e :: es, n :: ns, n' :: ns', m, m', h, hl, hz => by
    have g1 := mx_ge (p := m) (q := n - e)
    have g2 := mx_ge (p := m') (q := n' - e)
    have h1 : mx m (n - e) ≤ mx m' (n' - e) := by
      have := hl.1
      rcases g1.2.2 with q | q <;> omega
    exact ⟨h1, wr_mono h1 hl.2 (by simpa using hz)⟩
  | [], [], _ :: _, _, _, _, h, _ => h.elim
  | [], _ :: _, _, _, _, _, _, h => by simp at h
  | _ :: _, [], _, _, _, _, _, h => by simp at h
  | _ :: _, _ :: _, [], _, _, _, h, _ => h.elim
theorem nd_grow {cs : List Int} : ∀ {as bs cs' : List (Int × List Int)}, Gs cs (as ++ bs) → Le (nd cs bs) (nd cs cs') → Le (nd cs (as ++ bs)) (nd cs (as ++ cs'))
  | [], _, _, _, h => h
  | g :: as, bs, cs', G, h => by
    have Gg := G g List.mem_cons_self
    have Gr : Gs cs (as ++ bs) := fun x hx => G x (List.mem_cons_of_mem _ hx)
    exact wr_mono (Int.le_refl 0) (nd_grow Gr h) ((rowG_len Gg).trans (nd_len Gr).symm)
theorem nd_nil_le {cs : List Int} {gs : List (Int × List Int)} (G : Gs cs gs) : Le (nd cs []) (nd cs gs) := by
  refine Le.of (by rw [nd_len G]; exact List.length_replicate) fun k h1 h2 => ?_
  have h3 : (nd cs [])[k] = 0 := List.getElem_replicate ..
  rw [h3]
  exact nd_up.ge _ (List.getElem_mem _)
/-- a customer who takes from no level needs nothing more -/
theorem wr_even : ∀ {es ns : List Int} {m : Int}, (∀ e ∈ es, 0 ≤ e) → Up m ns → es.length = ns.length → Le (wr m es ns) ns
  | [], [], _, _, _, _ => trivial
  | e :: es, n :: ns, m, h, hu, hl => by
    have h1 := h e List.mem_cons_self
    have h2 := hu.1
    have g := mx_ge (p := m) (q := n - e)
    have h3 : mx m (n - e) ≤ n := by rcases g.2.2 with q | q <;> omega
    refine ⟨h3, wr_even (fun x hx => h x (List.mem_cons_of_mem _ hx)) ?_ (by simpa using hl)⟩
    cases ns with
    | nil => trivial
    | cons y ys => exact ⟨Int.le_trans h3 hu.2.1, hu.2.2⟩
  | [], _ :: _, _, _, _, h => by simp at h
  | _ :: _, [], _, _, _, h => by simp at h



def PyD (q : Nat) (d : D) : Prop := ∃ a, d.py = some a ∧ a.canLay0 = true ∧ a.depth ≤ q
def PyL (q : Nat) (ds : List D) : Prop := ∃ as, pyA ds = some as ∧ PyData.canLayAll0 as = true ∧ PyData.depthAll as ≤ q
theorem PyL.of {q : Nat} : ∀ {ds : List D}, (∀ d ∈ ds, PyD q d) → PyL q ds
  | [], _ => ⟨[], by simp only [pyA], by simp only [PyData.canLayAll0], by simp [PyData.depthAll]⟩
  | d :: ds, h => by
    obtain ⟨a, e1, e2, e3⟩ := h d List.mem_cons_self
    obtain ⟨as, f1, f2, f3⟩ := PyL.of (ds := ds) fun x hx => h x (List.mem_cons_of_mem _ hx)
    refine ⟨a :: as, ?_, ?_, ?_⟩
    · rw [pyA, e1, f1]
      rfl
    · rw [PyData.canLayAll0, e2, f2]
      rfl
    · rw [PyData.depthAll]
      exact Nat.max_le.mpr ⟨e3, f3⟩
theorem PyD.lst {q : Nat} {ds : List D} (h : PyL q ds) : PyD (q + 1) (.lst ds) := by
  obtain ⟨as, f1, f2, f3⟩ := h
  exact ⟨.list as, by rw [D.py, f1]; rfl, by rw [PyData.canLay0]; exact f2, by rw [PyData.depth]; omega⟩
theorem PyD.tup {q : Nat} {ds : List D} (h : PyL q ds) : PyD (q + 1) (.tup ds) := by
  obtain ⟨as, f1, f2, f3⟩ := h
  exact ⟨.tuple as, by rw [D.py, f1]; rfl, by rw [PyData.canLay0]; exact f2, by rw [PyData.depth]; omega⟩
theorem PyD.int {q : Nat} {i : Int} : PyD q (.int i) := ⟨.int i, by rw [D.py], by rw [PyData.canLay0], by simp [PyData.depth]⟩
theorem PyD.non {q : Nat} : PyD q .non := ⟨.none, by rw [D.py], by rw [PyData.canLay0], by simp [PyData.depth]⟩
theorem PyD.mono {q r : Nat} {d : D} (h : PyD q d) (hq : q ≤ r) : PyD r d := by
  obtain ⟨a, e1, e2, e3⟩ := h
  exact ⟨a, e1, e2, by omega⟩
theorem eq_self' {q : Nat} {d : D} (hq : q ≤ 64) (h1 : PyD q d) : eqD d d = some true := by
  obtain ⟨a, e1, e2, e3⟩ := h1
  have hs : SeqAt.shaped a = true := by unfold SeqAt.shaped; rw [e2, Bool.true_and]; exact decide_eq_true (by omega)
  unfold eqD
  rw [e1]
  show (if _ then _ else _) = _
  rw [if_pos ⟨hs, hs⟩, SeqAt.eqv_refl a e2]
theorem PyD.bl {q : Nat} {b : Bool} : PyD q (.bl b) := ⟨.bool b, by rw [D.py], by rw [PyData.canLay0], by simp [PyData.depth]⟩
theorem cNe_self {q : Nat} {d : D} (h : PyD q d) (hq : q ≤ 64 := by omega) : cNe d d = some (.im (.bl false)) := by
  unfold cNe
  rw [eq_self' hq h]
  rfl
theorem cEq_self {q : Nat} {d : D} (h : PyD q d) (hq : q ≤ 64 := by omega) : cEq d d = some (.im (.bl true)) := by
  unfold cEq
  rw [eq_self' hq h]
  rfl
theorem PyD.ints {ns : List Int} : PyD 1 (.lst (ns.map D.int)) := .lst (.of fun d hd => by
  obtain ⟨n, _, rfl⟩ := List.mem_map.mp hd
  exact .int)


theorem eqv_nil {as : List PyData} : PyData.eqvAll as [] = as.isEmpty := by cases as <;> rfl
theorem shaped_lst {q : Nat} {as : List PyData} (h1 : PyData.canLayAll0 as = true) (h2 : PyData.depthAll as ≤ q) (hq : q ≤ 63) : SeqAt.shaped (.list as) = true := by
  unfold SeqAt.shaped
  rw [PyData.canLay0, h1, Bool.true_and, PyData.depth]
  exact decide_eq_true (by omega)
theorem pyA_len : ∀ {ds : List D} {as : List PyData}, pyA ds = some as → as.length = ds.length
  | [], as, h => by
    simp only [pyA] at h
    cases h
    rfl
  | d :: ds, as, h => by
    rw [pyA] at h
    cases e : D.py d with
    | none => rw [e] at h; cases h
    | some a =>
      rw [e] at h
      cases e2 : pyA ds with
      | none => rw [e2] at h; cases h
      | some bs =>
        rw [e2] at h
        cases h
        rw [List.length_cons, List.length_cons, pyA_len e2]
theorem eqD_nil {q : Nat} {ds : List D} (hq : q ≤ 63) (h : PyL q ds) : eqD (.lst ds) (.lst []) = some ds.isEmpty := by
  obtain ⟨as, e1, e2, e3⟩ := h
  unfold eqD
  simp only [D.py, pyA, e1, Option.map_some]
  rw [if_pos ⟨shaped_lst e2 e3 hq, shaped_lst (q := 0) (by simp only [PyData.canLayAll0]) (by simp [PyData.depthAll]) (by omega)⟩]
  rw [PyData.eqv, eqv_nil]
  have := pyA_len e1
  cases as with
  | nil =>
    rw [List.eq_nil_of_length_eq_zero (l := ds) (by rw [← this]; rfl)]
    rfl
  | cons a as =>
    cases ds with
    | nil => simp at this
    | cons d ds => rfl


theorem comp_filt {α : Type} {vs : List Nat} {tg : Tg} {ft : DL.Env → R Bool} {fe : DL.Env → R Rv} {ρ : DL.Env} (xs : List α) (enc : α → D) (q : α → Bool) (val : α → D) (hl : xs.length ≤ 100000)
    (hs : ∀ x ∈ xs, ∃ ρ2 ρ3, tg (enc x) (wipeE ρ vs) = some ρ2 ∧ ft ρ2 = .ok (q x) ρ3 ∧ (q x = false → restore ρ vs ρ3 = ρ) ∧ (q x = true → ∃ ρ4 rv, fe ρ3 = .ok rv ρ4 ∧ rv.d = val x ∧ restore ρ vs ρ4 = ρ)) :
    dComp vs tg ft fe [] (xs.map enc) ρ = .ok ((xs.filter q).map val) ρ := by
  obtain ⟨acc', ρ', e, rfl, rfl⟩ := dComp_run (vs := vs) (tg := tg) (ft := ft) (fe := fe) (items := xs.map enc) (fun i acc ρ' => acc = ((xs.take i).filter q).map val ∧ ρ' = ρ) (ρ := ρ) (by rw [List.length_map]; exact hl) ⟨rfl, rfl⟩ fun i d acc ρ' hi hp => by
    obtain ⟨rfl, rfl⟩ := hp
    rw [List.getElem?_map] at hi
    cases hx : xs[i]? with
    | none => rw [hx] at hi; cases hi
    | some x =>
      rw [hx] at hi
      cases hi
      obtain ⟨ρ2, ρ3, e1, e2, h0, h1⟩ := hs x (List.mem_of_getElem? hx)
      refine ⟨ρ2, e1, ?_⟩
      cases hq : q x with
      | true =>
        obtain ⟨ρ4, rv, e3, e5, e4⟩ := h1 hq
        rw [hq] at e2
        exact .inl ⟨rv, ρ3, ρ4, e2, e3, by rw [List.take_add_one, hx, Option.toList_some, List.filter_append, List.map_append, List.filter_cons, if_pos hq, e5]; rfl, e4⟩
      | false =>
        rw [hq] at e2
        exact .inr ⟨ρ3, e2, by rw [List.take_add_one, hx, Option.toList_some, List.filter_append, List.map_append, List.filter_cons, if_neg (by rw [hq]; exact Bool.false_ne_true)]; simp, h0 hq⟩
  rw [e, List.length_map, List.take_length]


theorem py_gD {g : Int × List Int} : PyD 2 (gD g) := .tup (.of fun d hd => by
  simp only [List.mem_cons, List.not_mem_nil, or_false] at hd
  rcases hd with rfl | rfl
  · exact .int
  · exact .ints)
theorem py_gs {gs : List (Int × List Int)} : PyL 2 (gs.map gD) := .of fun d hd => by
  obtain ⟨g, _, rfl⟩ := List.mem_map.mp hd
  exact py_gD
theorem cNe_nil {gs : List (Int × List Int)} : cNe (.lst (gs.map gD)) (.lst []) = some (.im (.bl (!gs.isEmpty))) := by
  unfold cNe
  rw [eqD_nil (q := 2) (by omega) py_gs]
  cases gs <;> rfl
theorem dfolk_ok {N : Nat} {δ : Dkt} {cs : List Int} {most : Int} (S : Dk N δ) (hN : N < 1000000) (C : Coins cs) (h1 : 0 ≤ most) (h2 : most ≤ 40) : ∃ (gs : List (Int × List Int)) (δ' : Dkt), F__law_folk [dkS δ, .im (.lst (cs.map D.int)), .im (.int most)] = .ok (.own (gs.map gD)) [dkS δ', .im (.lst (cs.map D.int)), .im (.int most)] ∧ Gs cs gs ∧ (gs.length : Int) ≤ most ∧ Dk (N + 2000) δ' := by
  unfold F__law_folk
  rw [x_run rfl]
  show ∃ (gs : List (Int × List Int)) (δ' : Dkt), endOf _ (g__law_folk [dkS δ, .im (.lst (cs.map D.int)), .im (.int most), .no, .no, .no]) = _ ∧ _
  unfold g__law_folk
  obtain ⟨r, δ1, e1, k1, k2, S1⟩ := draw_ok (m := most + 1) S (by omega) (by omega) (by omega)
  walk_at "ev"
  rw [x_doBI (F := F__law_draw) rfl e1]
  walk_at "ev"
  generalize hstep : stepOf (tgName 4) _ = step
  obtain ⟨ρ', e2, gs, δ2, x, y, rfl, hlen, hG, S2⟩ := dFor_run (step := step) (items := rngD 0 r.toNat)
    (fun i ρ => ∃ (gs : List (Int × List Int)) (δ2 : Dkt) (x y : Sl), ρ = [dkS δ2, .im (.lst (cs.map D.int)), .im (.int most), .own (gs.map gD), x, y] ∧ gs.length = i ∧ Gs cs gs ∧ Dk (N + 1 + 25 * i) δ2)
    (ρ := [dkS δ1, .im (.lst (cs.map D.int)), .im (.int most), .own [], .no, .no]) ⟨[], δ1, _, _, rfl, rfl, (fun _ h => by cases h), S1⟩ (by
      rintro i d ρ hi ⟨gs, δ2, x, y, rfl, hlen, hG, S2⟩
      have hin : i < r.toNat := by
        have := (List.getElem?_eq_some_iff.mp hi).1
        rwa [rngD_len] at this
      rw [rngD_get hin, Int.zero_add] at hi
      cases hi
      subst hstep
      have new : ∀ {M : Nat} {δ3 : Dkt} (y' : Sl), Dk M δ3 → M ≤ N + 1 + 25 * i + 1 → ∃ ρ', (sApp 3 (eCall 2 F__law_guest (aSlot 0 (aCons (eVar 1) aNil)))) [dkS δ3, .im (.lst (cs.map D.int)), .im (.int most), .own (gs.map gD), .im (.int (i : Int)), y'] = .nx ρ' ∧
          ∃ (gs : List (Int × List Int)) (δ2 : Dkt) (x y : Sl), ρ' = [dkS δ2, .im (.lst (cs.map D.int)), .im (.int most), .own (gs.map gD), x, y] ∧ gs.length = i + 1 ∧ Gs cs gs ∧ Dk (N + 1 + 25 * (i + 1)) δ2 := by
        intro M δ3 y' S3 hM
        obtain ⟨g, δ4, e4, G, S4⟩ := dguest_ok S3 (by omega) C
        walk_at "ev"
        rw [x_doBI (F := F__law_guest) rfl e4]
        walk_at "ev"
        rw [x_appK2 (by rw [List.length_map]; omega)]
        refine ⟨_, rfl, gs ++ [g], δ4, .im (.int (i : Int)), y', by rw [List.map_append]; rfl, by rw [List.length_append, List.length_singleton, hlen], fun z hz => ?_, S4.mono (by omega)⟩
        rcases List.mem_append.mp hz with hz | hz
        · exact hG z hz
        · rw [List.mem_singleton] at hz
          subst hz
          exact G
      rw [x_step x_tgName]
      walk_at "ev"
      rw [cNe_nil]
      walk_at "ev"
      by_cases hgs : gs = []
      · subst hgs
        obtain ⟨ρ', e5, h5⟩ := new (.im (.bl false)) S2 (by omega)
        refine ⟨ρ', ?_, h5⟩
        rw [← e5]
        rw [show (!List.isEmpty ([] : List (Int × List Int))) = false from rfl]
        walk_at "ev"
      · have hne : (!gs.isEmpty) = true := by
          cases gs with
          | nil => exact (hgs rfl).elim
          | cons _ _ => rfl
        rw [hne]
        obtain ⟨r2, δ3, e3, k3, k4, S3⟩ := draw_ok (m := 4) S2 (by omega) (by omega) (by omega)
        walk_at "ev"
        rw [x_doBI (F := F__law_draw) rfl e3]
        walk_at "ev"
        by_cases hr2 : r2 = 0
        · subst hr2
          have hgl : 0 < gs.length := List.length_pos_iff.mpr hgs
          obtain ⟨r3, δ4, e4, k5, k6, S4⟩ := draw_ok (m := (gs.length : Int)) S3 (by omega) (by omega) (by omega)
          walk_at "ev"
          rw [x_doBI (F := F__law_draw) rfl e4]
          walk_at "ev"
          have hr3 : r3.toNat < gs.length := by omega
          have hat : atI (gs.map gD) r3 = some (gD (gs[r3.toNat]'hr3)) := by
            rw [atI_at k5 (by rw [List.length_map]; omega), List.getElem?_map, List.getElem?_eq_getElem hr3]
            rfl
          rw [hat]
          walk_at "ev"
          rw [x_appK2 (by rw [List.length_map]; omega)]
          refine ⟨_, rfl, gs ++ [gs[r3.toNat]'hr3], δ4, .im (.int (i : Int)), .im (.bl true), by rw [List.map_append]; rfl, by rw [List.length_append, List.length_singleton, hlen], fun z hz => ?_, S4.mono (by omega)⟩
          rcases List.mem_append.mp hz with hz | hz
          · exact hG z hz
          · rw [List.mem_singleton] at hz
            subst hz
            exact hG _ (List.getElem_mem hr3)
        · obtain ⟨ρ', e5, h5⟩ := new (.im (.bl false)) S3 (by omega)
          refine ⟨ρ', ?_, h5⟩
          rw [← e5]
          walk_at "ev")
  rw [e2]
  walk_at "ev"
  rw [rngD_len] at hlen S2
  exact ⟨gs, δ2, rfl, hG, by omega, S2.mono (by omega)⟩


/-! ### all orders -/
def ordsN (m : Nat) : Nat → List (List Nat)
  | 0 => [[]]
  | k + 1 => (ordsN m k).flatMap fun some => ((List.range m).filter fun p => !some.contains p).map fun p => some ++ [p]
theorem mem_ords {m : Nat} : ∀ {k : Nat} {ps : List Nat}, ps ∈ ordsN m k ↔ ps.length = k ∧ ps.Nodup ∧ ∀ p ∈ ps, p < m
  | 0, ps => by
    show ps ∈ [[]] ↔ _
    rw [List.mem_singleton]
    constructor
    · rintro rfl
      exact ⟨rfl, List.nodup_nil, fun _ h => by cases h⟩
    · exact fun h => List.eq_nil_of_length_eq_zero h.1
  | k + 1, ps => by
    show ps ∈ (ordsN m k).flatMap _ ↔ _
    rw [List.mem_flatMap]
    constructor
    · rintro ⟨qs, hq, hp⟩
      obtain ⟨p, hp', rfl⟩ := List.mem_map.mp hp
      obtain ⟨h1, h2⟩ := List.mem_filter.mp hp'
      rw [List.mem_range] at h1
      obtain ⟨g1, g2, g3⟩ := mem_ords.mp hq
      have hnq : p ∉ qs := fun z => by
        rw [List.contains_iff_mem.mpr z] at h2
        cases h2
      refine ⟨by rw [List.length_append, List.length_singleton, g1], List.nodup_append.mpr ⟨g2, by simp, fun a ha b hb => ?_⟩, fun x hx => ?_⟩
      · rw [List.mem_singleton] at hb
        subst hb
        exact fun z => hnq (z ▸ ha)
      · rcases List.mem_append.mp hx with hx | hx
        · exact g3 x hx
        · rw [List.mem_singleton] at hx
          omega
    · rintro ⟨h1, h2, h3⟩
      have hne : ps ≠ [] := fun z => by rw [z] at h1; simp at h1
      have e := List.dropLast_concat_getLast hne
      have hnd := h2
      rw [← e] at hnd
      obtain ⟨n1, _, n3⟩ := List.nodup_append.mp hnd
      refine ⟨ps.dropLast, mem_ords.mpr ⟨by rw [List.length_dropLast, h1]; rfl, n1, fun p hp => h3 p ((List.dropLast_sublist ps).subset hp)⟩, List.mem_map.mpr ⟨ps.getLast hne, List.mem_filter.mpr ⟨List.mem_range.mpr (h3 _ (List.getLast_mem hne)), ?_⟩, e⟩⟩
      have : (ps.dropLast).contains (ps.getLast hne) = false := by
        cases hc : (ps.dropLast).contains (ps.getLast hne) with
        | false => rfl
        | true => exact (n3 _ (List.contains_iff_mem.mp hc) _ (List.mem_singleton.mpr rfl) rfl).elim
      rw [this]
      rfl
theorem flat_le {α β : Type} {f : α → List β} {b : Nat} : ∀ {xs : List α}, (∀ x ∈ xs, (f x).length ≤ b) → (xs.flatMap f).length ≤ xs.length * b
  | [], _ => by simp
  | x :: xs, h => by
    have h1 := h x List.mem_cons_self
    have ih := flat_le (f := f) (xs := xs) fun y hy => h y (List.mem_cons_of_mem _ hy)
    rw [List.flatMap_cons, List.length_append, List.length_cons, Nat.succ_mul]
    omega
theorem ords_len {m : Nat} (hm : m ≤ 6) : ∀ {k : Nat}, (ordsN m k).length ≤ 6 ^ k
  | 0 => Nat.le_refl 1
  | k + 1 => by
    have ih := ords_len hm (k := k)
    have h := flat_le (f := fun some : List Nat => ((List.range m).filter fun p => !some.contains p).map fun p => some ++ [p]) (b := 6) (xs := ordsN m k) fun some _ => by
      rw [List.length_map]
      have := List.length_filter_le (fun p => !some.contains p) (List.range m)
      rw [List.length_range] at this
      omega
    show ((ordsN m k).flatMap _).length ≤ _
    rw [Nat.pow_succ]
    omega
abbrev nD (ps : List Nat) : D := .lst ((ps.map fun p : Nat => (p : Int)).map D.int)
theorem notIn_ok {p : Nat} {ps : List Nat} : cNotIn (.int (p : Int)) (nD ps) = some (.im (.bl (!ps.contains p))) := by
  have e1 : SeqAt.shaped (.int (p : Int)) = true := by simp [SeqAt.shaped, PyData.canLay0, PyData.depth]
  have e2 : ∀ ns : List Nat, ((ns.map fun p : Nat => (p : Int)).map PyData.int).any (fun z => PyData.eqv z (.int (p : Int))) = ns.contains p := by
    intro ns
    induction ns with
    | nil => rfl
    | cons n ns ih =>
      rw [List.map_cons, List.map_cons, List.any_cons, ih, List.contains_cons]
      congr 1
      simp only [PyData.eqv]
      by_cases h : n = p
      · subst h
        simp
      · rw [beq_eq_false_iff_ne.mpr (fun z => h z.symm), beq_eq_false_iff_ne.mpr (fun z => h (by omega))]
  unfold cNotIn inD nD
  show ((D.int (p : Int)).py.bind fun q => (pyA _).bind _).map _ = _
  rw [D.py, pyA_ints]
  show (if _ then _ else _ : Option Bool).map _ = _
  rw [if_pos ⟨e1, shaped_ints _⟩, e2]
  rfl
theorem orders_ok {m : Nat} (hm : m ≤ 6) : F__law_orders [.im (.int (m : Int))] = .ok (.im (.lst ((ordsN m m).map nD))) [.im (.int (m : Int))] := by
  unfold F__law_orders
  rw [x_run rfl]
  show endOf _ (g__law_orders [.im (.int (m : Int)), .no, .no, .no, .no, .no]) = _
  unfold g__law_orders
  walk_at "ev"
  generalize hstep : stepOf (tgName 2) _ = step
  obtain ⟨ρ', e2, x, y, z, rfl⟩ := dFor_run (step := step) (items := rngD 0 m)
    (fun i ρ => ∃ (x y z : Sl), ρ = [.im (.int (m : Int)), .im (.lst ((ordsN m i).map nD)), x, y, z, .no])
    (ρ := [.im (.int (m : Int)), .im (.lst [.lst []]), .no, .no, .no, .no]) ⟨_, _, _, rfl⟩ (by
      rintro i d ρ hi ⟨x, y, z, rfl⟩
      have hin : i < m := by
        have := (List.getElem?_eq_some_iff.mp hi).1
        rwa [rngD_len] at this
      rw [rngD_get hin, Int.zero_add] at hi
      cases hi
      subst hstep
      rw [x_step x_tgName]
      walk_at "ev"
      rw [x_iList]
      walk_at "ev"
      generalize hstep : stepOf (tgName 4) _ = step
      have hol : (ordsN m i).length ≤ 6 ^ 5 := Nat.le_trans (ords_len hm) (Nat.pow_le_pow_right (by omega) (by omega))
      obtain ⟨ρ', e2, z, rfl⟩ := dFor_run (step := step) (items := (ordsN m i).map nD)
        (fun j ρ => ∃ (z : Sl), ρ = [.im (.int (m : Int)), .im (.lst ((ordsN m i).map nD)), .im (.int (i : Int)), .own ((((ordsN m i).take j).flatMap fun some => ((List.range m).filter fun p => !some.contains p).map fun p => some ++ [p]).map nD), z, .no])
        (ρ := [.im (.int (m : Int)), .im (.lst ((ordsN m i).map nD)), .im (.int (i : Int)), .own [], z, .no]) ⟨_, rfl⟩ (by
          rintro j d ρ hj ⟨z, rfl⟩
          rw [List.getElem?_map] at hj
          cases hq : (ordsN m i)[j]? with
          | none => rw [hq] at hj; cases hj
          | some qs =>
            rw [hq] at hj
            cases hj
            subst hstep
            have hql : qs.length = i := (mem_ords.mp (List.mem_of_getElem? hq)).1
            generalize hF : ((List.take j (ordsN m i)).flatMap fun some => ((List.range m).filter fun p => !some.contains p).map fun p => some ++ [p]) = F
            have hb : ∀ some : List Nat, (((List.range m).filter fun p => !some.contains p).map fun p => some ++ [p]).length ≤ 6 := fun some => by
              rw [List.length_map]
              have := List.length_filter_le (fun p => !some.contains p) (List.range m)
              rw [List.length_range] at this
              omega
            have hFl : F.length ≤ 6 ^ 5 * 6 := by
              have h := flat_le (f := fun some : List Nat => ((List.range m).filter fun p => !some.contains p).map fun p => some ++ [p]) (b := 6) (xs := (ordsN m i).take j) fun some _ => hb some
              rw [hF, List.length_take] at h
              omega
            rw [x_step x_tgName]
            walk_at "ev"
            unfold sExt
            walk_at "ev"
            generalize hfe : (eOp opAdd (eVar 4) _ : DL.Env → R Rv) = fe
            generalize hft : (tOf _ : DL.Env → R Bool) = ft
            have hc := comp_filt (vs := [5]) (tg := tgName 5) (ft := ft) (fe := fe) (ρ := [.im (.int (m : Int)), .im (.lst ((ordsN m i).map nD)), .im (.int (i : Int)), .own (F.map nD), .im (nD qs), .no]) (List.range m) (fun p : Nat => D.int (0 + (p : Int))) (fun p => !qs.contains p) (fun p => nD (qs ++ [p])) (by rw [List.length_range]; omega) (fun p hp => ⟨[.im (.int (m : Int)), .im (.lst ((ordsN m i).map nD)), .im (.int (i : Int)), .own (F.map nD), .im (nD qs), .im (.int (p : Int))], [.im (.int (m : Int)), .im (.lst ((ordsN m i).map nD)), .im (.int (i : Int)), .own (F.map nD), .im (nD qs), .im (.int (p : Int))], by rw [Int.zero_add]; rfl, by
              subst hft
              walk_at "ev"
              rw [notIn_ok]
              walk_at "ev", fun _ => rfl, fun _ => ⟨[.im (.int (m : Int)), .im (.lst ((ordsN m i).map nD)), .im (.int (i : Int)), .own (F.map nD), .im (nD qs), .im (.int (p : Int))], .own (((qs.map fun p : Nat => (p : Int)).map D.int) ++ [.int (p : Int)]), by
              subst hfe
              walk_at "ev"
              rw [x_cat (by rw [List.length_map, List.length_map]; simp; omega)]
              walk_at "ev", by
              show D.lst _ = D.lst _
              rw [List.map_append, List.map_append]
              rfl, rfl⟩⟩)
            rw [show rngD 0 m = (List.range m).map fun p : Nat => D.int (0 + (p : Int)) from rfl, hc]
            walk_at "ev"
            have hb2 := hb qs
            rw [List.length_map] at hb2
            rw [if_pos (by omega)]
            refine ⟨_, rfl, .im (nD qs), ?_⟩
            have hh : (((ordsN m i).take (j + 1)).flatMap fun some => ((List.range m).filter fun p => !some.contains p).map fun p => some ++ [p]).map nD = F.map nD ++ ((List.range m).filter fun p => !qs.contains p).map fun p => nD (qs ++ [p]) := by
              rw [List.take_succ, hq, Option.toList_some, List.flatMap_append, List.flatMap_singleton, hF, List.map_append, List.map_map]
              rfl
            rw [hh])
      rw [List.length_map, List.take_length] at e2
      rw [e2]
      walk_at "ev"
      exact ⟨_, rfl, _, _, _, rfl⟩)
  rw [rngD_len] at e2
  rw [show [D.lst []] = (ordsN m 0).map nD from rfl] at *
  rw [e2]
  walk_at "ev"


/-! ### an order told -/
theorem gone_full {cs lot : List Int} {g : Int × List Int} {gs : List (Int × List Int)} (h : (gone cs lot (g :: gs)).1 = (g :: gs).length) :
    (∀ s ∈ sums cs lot g.1 g.2, 0 ≤ s) ∧ (gone cs (left cs lot g.1 g.2) gs).1 = gs.length := by
  rw [gone_cons] at h
  cases e : ok0 (sums cs lot g.1 g.2) with
  | false =>
    rw [e] at h
    have h : 0 = gs.length + 1 := h
    omega
  | true =>
    rw [e] at h
    have h : (gone cs (left cs lot g.1 g.2) gs).1 + 1 = gs.length + 1 := h
    exact ⟨ok0_all e, by omega⟩
theorem gone_ok {cs lot : List Int} {g : Int × List Int} {gs : List (Int × List Int)} (h : ∀ s ∈ sums cs lot g.1 g.2, 0 ≤ s) :
    gone cs lot (g :: gs) = ((gone cs (left cs lot g.1 g.2) gs).1 + 1, (gone cs (left cs lot g.1 g.2) gs).2) := by
  rw [gone_cons, ok0_t h]
  rfl
theorem gone_snoc {cs : List Int} {g : Int × List Int} : ∀ {as : List (Int × List Int)} {lot : List Int}, (gone cs lot as).1 = as.length →
    gone cs lot (as ++ [g]) = cond (ok0 (sums cs (gone cs lot as).2 g.1 g.2)) (as.length + 1, left cs (gone cs lot as).2 g.1 g.2) (as.length, (gone cs lot as).2)
  | [], lot, _ => by
    rw [List.nil_append, gone_cons]
    rfl
  | a :: as, lot, h => by
    obtain ⟨o, g1⟩ := gone_full h
    rw [List.cons_append, gone_ok o, gone_ok o, gone_snoc g1]
    cases ok0 (sums cs (gone cs (left cs lot a.1 a.2) as).2 g.1 g.2) <;> rfl
/-- these places' customers -/
def pk (gs : List (Int × List Int)) (b : List Nat) : List (Int × List Int) := b.map fun p => gs.getD p (0, [])
theorem pk_app {gs : List (Int × List Int)} {b : List Nat} {p : Nat} : pk gs (b ++ [p]) = pk gs b ++ [gs.getD p (0, [])] := by
  unfold pk
  rw [List.map_append]
  rfl
theorem pk_len {gs : List (Int × List Int)} {b : List Nat} : (pk gs b).length = b.length := List.length_map ..
theorem getD_mem {gs : List (Int × List Int)} {p : Nat} (h : p < gs.length) : gs.getD p (0, []) ∈ gs := by
  rw [List.getD_eq_getElem?_getD, List.getElem?_eq_getElem h]
  exact List.getElem_mem _
theorem pk_gs {cs : List Int} {gs : List (Int × List Int)} {b : List Nat} (G : Gs cs gs) (h : ∀ p ∈ b, p < gs.length) : Gs cs (pk gs b) := fun g hg => by
  obtain ⟨p, hp, rfl⟩ := List.mem_map.mp hg
  exact G _ (getD_mem (h p hp))
/-- whether those come out even -/
def okB (cs lot : List Int) (gs : List (Int × List Int)) (b : List Nat) : Bool := decide ((gone cs lot (pk gs b)).1 = b.length)
/-- the first order that goes on so -/
def dfs (cs lot : List Int) (gs : List (Int × List Int)) : Nat → List Nat → Option (List Nat)
  | 0, b => some b
  | r + 1, b => (List.range gs.length).findSome? fun p => cond (b.contains p) none (cond (okB cs lot gs (b ++ [p])) (dfs cs lot gs r (b ++ [p])) none)
theorem sufmin_get : ∀ {xs : List Int} {i : Nat} (h : i < xs.length), ∃ x r, xs.drop i = x :: r ∧ (sufmin xs)[i]? = some (minI x r)
  | x :: xs, 0, _ => ⟨x, xs, rfl, rfl⟩
  | x :: xs, i + 1, h => by
    obtain ⟨y, r, h1, h2⟩ := sufmin_get (xs := xs) (i := i) (by simpa using h)
    exact ⟨y, r, by rw [List.drop_succ_cons, h1], by show (minI x xs :: sufmin xs)[i + 1]? = _; rw [List.getElem?_cons_succ, h2]⟩
theorem sufmin_len : ∀ {xs : List Int}, (sufmin xs).length = xs.length
  | [] => rfl
  | x :: xs => by
    show (sufmin xs).length + 1 = _
    rw [sufmin_len]
    rfl
theorem pressed_ok {ls rw' : List Int} (hl : rw'.length = ls.length) (h9 : ls.length ≤ 100) : F__pressed [.im (.lst (ls.map D.int)), .im (.lst (rw'.map D.int))] = .ok (.own ((sufmin (held ls rw')).map D.int)) [.im (.lst (ls.map D.int)), .im (.lst (rw'.map D.int))] := by
  have hh : (List.zipWith (fun a b => a + b) ls rw').length = ls.length := by rw [List.length_zipWith]; omega
  unfold F__pressed
  rw [x_run rfl]
  show endOf _ (g__pressed [.im (.lst (ls.map D.int)), .im (.lst (rw'.map D.int)), .no, .no, .no, .no]) = _
  unfold g__pressed
  walk_at "ev"
  generalize hfe : (eOp opAdd (eVar 3) (eVar 4) : DL.Env → R Rv) = fe
  rw [zip_comp (fun a b => a + b) h9 (fun x y hx hy => ⟨rfl, by
    subst hfe
    walk_at "ev", rfl⟩)]
  show _ = R.ok (Rv.own ((sufmin (List.zipWith (fun a b => a + b) ls rw')).map D.int)) _
  generalize List.zipWith (fun a b => a + b) ls rw' = xs at hh ⊢
  walk_at "ev"
  generalize hfe2 : (eCB bMin1 _ : DL.Env → R Rv) = fe2
  rw [dComp_map (items := rngD 0 xs.length) (vals := (sufmin xs).map D.int) (by rw [rngD_len]; omega) (by rw [rngD_len, List.length_map, sufmin_len]) (fun i d v h1 h2 => by
    have hi : i < xs.length := by
      have := (List.getElem?_eq_some_iff.mp h1).1
      rwa [rngD_len] at this
    rw [rngD_get hi, Int.zero_add] at h1
    cases h1
    obtain ⟨x, r, e1, e2⟩ := sufmin_get hi
    rw [List.getElem?_map, e2] at h2
    cases h2
    refine ⟨_, [.im (.lst (ls.map D.int)), .im (.lst (rw'.map D.int)), .im (.lst (xs.map D.int)), .no, .no, .im (.int (i : Int))], .im (.int (minI x r)), x_tgName, ?_, rfl, rfl⟩
    subst hfe2
    walk_at "ev"
    try rw [cut_drop]
    rw [← List.map_drop, e1, x_min1]
    rfl)]
  walk_at "ev"
theorem in_ok {p : Nat} {ps : List Nat} : cIn (.int (p : Int)) (nD ps) = some (.im (.bl (ps.contains p))) := by
  have h := notIn_ok (p := p) (ps := ps)
  unfold cNotIn at h
  unfold cIn
  cases e : inD (.int (p : Int)) (nD ps) with
  | none => rw [e] at h; cases h
  | some b =>
    rw [e] at h
    have h : some (Rv.im (D.bl !b)) = some (Rv.im (D.bl !ps.contains p)) := h
    have : (!b) = !ps.contains p := by
      injection h with h
      injection h with h
      injection h
    have : b = ps.contains p := by
      cases b <;> cases hc : ps.contains p <;> rw [hc] at this <;> first | rfl | cases this
    rw [this]
    rfl
theorem dFor_ctn {step : D → DL.Env → Out} {d : D} {ds : List D} {ρ ρ' : DL.Env} (h : step d ρ = .ct ρ') : dFor step (d :: ds) ρ = dFor step ds ρ' := by
  show (match step d ρ with | .nx ρ' => dFor step ds ρ' | .ct ρ' => dFor step ds ρ' | .brk ρ' => .nx ρ' | o => o) = _
  rw [h]
abbrev rwsD (cs : List Int) (gs : List (Int × List Int)) : D := .lst (gs.map fun g => .lst ((rowG cs g).map D.int))
def encO : Option (List Nat) → D
  | some ps => nD ps
  | none => .non
abbrev lvB (cs lot : List Int) (gs : List (Int × List Int)) (b : List Nat) : List Int := lv cs (gone cs lot (pk gs b)).2 0
theorem ok0_min {x : Int} {r : List Int} : ok0 (x :: r) = !ltB (minI x r) 0 := by
  have g := minI_spec r x
  cases h : ok0 (x :: r) with
  | true =>
    have := ok0_all h _ g.1
    rw [lt_f (by omega)]
    rfl
  | false =>
    by_cases hm : minI x r < 0
    · rw [lt_t hm]
      rfl
    · exact absurd (ok0_t fun s hs => by have := g.2 s hs; omega) (by rw [h]; exact Bool.false_ne_true)

theorem atN {ds : List D} {k : Nat} {d : D} (h : ds[k]? = some d) : atI ds (k : Int) = some d := by
  have := (List.getElem?_eq_some_iff.mp h).1
  rw [atI_at (by omega) (by omega), Int.toNat_natCast, h]

/-! ### the places begun, given up to the callee -/
def bT (b : List Nat) : List Tr := b.map fun p : Nat => Tr.im (.int (p : Int))
theorem trB {b : List Nat} : trD (bT b) = (b.map fun p : Nat => (p : Int)).map D.int := by
  unfold bT
  rw [trD_map, List.map_map]
  exact List.map_congr_left fun p _ => d_im
def rvO : Option (List Nat) → Rv
  | some ps => .bk (.tree false (bT ps))
  | none => .im .non
theorem in_okB {p : Nat} {ps : List Nat} : cIn (.int (p : Int)) (.lst ((ps.map fun p : Nat => (p : Int)).map D.int)) = some (.im (.bl (ps.contains p))) := in_ok
theorem first_loop {RF : DL.Env → R Rv} {step : D → DL.Env → Out} {cs lot : List Int} {gs : List (Int × List Int)} {b : List Nat} {r : Nat} (C : Coins cs) (T : Till cs lot) (B : ∀ x ∈ lot, x < 2 ^ 140) (G : Gs cs gs) (hg : gs.length ≤ 7) (hb : ∀ p ∈ b, p < gs.length) (hl : b.length ≤ 7)
    (hB : (gone cs lot (pk gs b)).1 = b.length)
    (hst : step = stepOf (tgName 3) (sSeq (sIf (tLent (tOf (eOp cIn (eVar 3) (eVar 2)))) sCont sNext)
      (sSeq (sSet 4 (eCall 2 F__pressed (aCons (eVar 1) (aCons (eOp ixD (eVar 0) (eVar 3)) aNil))))
      (sSeq (sIf (tOf (eOp cLt (eOp ixD (eVar 4) (eC (.int 0))) (eC (.int 0)))) sCont sNext)
      (sSeq (sSetT 5 (eCallM RF (eVar 0) (eVar 4) (eLent (eOp opAdd (eVar 2) (eLst (aCons (eVar 3) aNil))))))
      (sIf (tLent (tOf (eOp cIsNotN (eVar 5) (eC .non)))) (sRet (eMoveT 5)) sNext))))))
    (ih : ∀ p, p < gs.length → okB cs lot gs (b ++ [p]) = true → ∃ s2, RF [.im (rwsD cs gs), .im (.lst ((lvB cs lot gs (b ++ [p])).map D.int)), .bk (.tree false (bT (b ++ [p])))] = .ok (rvO (dfs cs lot gs r (b ++ [p]))) [.im (rwsD cs gs), .im (.lst ((lvB cs lot gs (b ++ [p])).map D.int)), s2]) :
    ∀ (qs : List Nat) (x y z : Sl), (∀ q ∈ qs, q < gs.length) → ∃ x' y' z' : Sl, dFor step (qs.map fun q : Nat => D.int (q : Int)) [.im (rwsD cs gs), .im (.lst ((lvB cs lot gs b).map D.int)), .bk (.tree false (bT b)), x, y, z] =
      match qs.findSome? fun p => cond (b.contains p) none (cond (okB cs lot gs (b ++ [p])) (dfs cs lot gs r (b ++ [p])) none) with
      | some ps => .ret (.bk (.tree false (bT ps))) [.im (rwsD cs gs), .im (.lst ((lvB cs lot gs b).map D.int)), .bk (.tree false (bT b)), x', y', z']
      | none => .nx [.im (rwsD cs gs), .im (.lst ((lvB cs lot gs b).map D.int)), .bk (.tree false (bT b)), x', y', z']
  | [], x, y, z, _ => ⟨x, y, z, rfl⟩
  | q :: qs, x, y, z, hq => by
    have h5 := C.hi
    have hq1 := hq q List.mem_cons_self
    have hq2 : ∀ q ∈ qs, q < gs.length := fun p hp => hq p (List.mem_cons_of_mem _ hp)
    rw [List.map_cons, List.findSome?_cons]
    cases hc : b.contains q with
    | true =>
      have e : step (.int (q : Int)) [.im (rwsD cs gs), .im (.lst ((lvB cs lot gs b).map D.int)), .bk (.tree false (bT b)), x, y, z] = .ct [.im (rwsD cs gs), .im (.lst ((lvB cs lot gs b).map D.int)), .bk (.tree false (bT b)), .im (.int (q : Int)), y, z] := by
        rw [hst, x_step x_tgName]
        walk_at "ev"
        rw [trB, in_okB, hc]
        walk_at "ev"
        rfl
      rw [dFor_ctn e]
      exact first_loop C T B G hg hb hl hB hst ih qs (.im (.int (q : Int))) y z hq2
    | false =>
      have Gq := G _ (getD_mem hq1)
      have Gb := pk_gs G hb
      have Tb := gone_till C T Gb
      have hrow : atI (gs.map fun g => D.lst ((rowG cs g).map D.int)) (q : Int) = some (.lst ((rowG cs (gs.getD q (0, []))).map D.int)) := atN (by
        rw [List.getElem?_map, List.getElem?_eq_getElem hq1, List.getD_eq_getElem?_getD, List.getElem?_eq_getElem hq1]
        rfl)
      have hll : (lvB cs lot gs b).length = cs.length := lv_len Tb.len
      have hrl := rowG_len Gq
      have hsn := gone_snoc (cs := cs) (as := pk gs b) (g := gs.getD q (0, [])) (by rw [pk_len]; exact hB)
      have hP := pressed_ok (ls := lvB cs lot gs b) (rw' := rowG cs (gs.getD q (0, []))) (by omega) (by omega)
      have hxs : (held (lvB cs lot gs b) (rowG cs (gs.getD q (0, [])))).length = cs.length := by rw [List.length_zipWith]; omega
      have hlo := C.lo
      obtain ⟨m0, mr, e1, e2⟩ := sufmin_get (xs := held (lvB cs lot gs b) (rowG cs (gs.getD q (0, [])))) (i := 0) (by omega)
      rw [List.drop_zero] at e1
      have hs0 : atI ((sufmin (held (lvB cs lot gs b) (rowG cs (gs.getD q (0, []))))).map D.int) 0 = some (.int (minI m0 mr)) := atN (k := 0) (by rw [List.getElem?_map, e2]; rfl)
      have ho : ok0 (sums cs (gone cs lot (pk gs b)).2 (gs.getD q (0, [])).1 (gs.getD q (0, [])).2) = !ltB (minI m0 mr) 0 := by
        rw [← ok0_min, ← e1]
      have hk : okB cs lot gs (b ++ [q]) = !ltB (minI m0 mr) 0 := by
        unfold okB
        rw [pk_app, hsn, ho, pk_len, List.length_append, List.length_singleton]
        cases ltB (minI m0 mr) 0 with
        | true => exact decide_eq_false (by show ¬ b.length = b.length + 1; omega)
        | false => exact decide_eq_true rfl
      rw [hk]
      cases hm : ltB (minI m0 mr) 0 with
      | true =>
        have e : step (.int (q : Int)) [.im (rwsD cs gs), .im (.lst ((lvB cs lot gs b).map D.int)), .bk (.tree false (bT b)), x, y, z] = .ct [.im (rwsD cs gs), .im (.lst ((lvB cs lot gs b).map D.int)), .bk (.tree false (bT b)), .im (.int (q : Int)), .im (.lst ((sufmin (held (lvB cs lot gs b) (rowG cs (gs.getD q (0, []))))).map D.int)), z] := by
          rw [hst, x_step x_tgName]
          walk_at "ev"
          rw [trB, in_okB, hc]
          walk_at "ev"
          rw [hrow]
          walk_at "ev"
          rw [x_do2 hP]
          walk_at "ev"
          rw [hs0]
          walk_at "ev"
          rw [hm]
          walk_at "ev"
          rfl
        rw [dFor_ctn e]
        exact first_loop C T B G hg hb hl hB hst ih qs _ _ z hq2
      | false =>
        rw [hm] at hk
        obtain ⟨s2, hih⟩ := ih q hq1 hk
        have hlv : sufmin (held (lvB cs lot gs b) (rowG cs (gs.getD q (0, [])))) = lvB cs lot gs (b ++ [q]) := by
          have ho2 : ok0 (sums cs (gone cs lot (pk gs b)).2 (gs.getD q (0, [])).1 (gs.getD q (0, [])).2) = true := by rw [ho, hm]; rfl
          show _ = lv cs (gone cs lot (pk gs (b ++ [q]))).2 0
          rw [pk_app, hsn, ho2]
          exact (left_lv C Tb Gq (ok0_all ho2)).symm
        have hall : ((b.map fun p : Nat => (p : Int)).map D.int ++ [D.int (q : Int)]).all leafD = true := by
          rw [List.all_append, leaf_ints]
          rfl
        have hnT : ((b.map fun p : Nat => (p : Int)).map D.int ++ [D.int (q : Int)]).map Tr.im = bT (b ++ [q]) := by
          unfold bT
          rw [List.map_append, List.map_append, List.map_map, List.map_map]
          rfl
        have go : step (.int (q : Int)) [.im (rwsD cs gs), .im (.lst ((lvB cs lot gs b).map D.int)), .bk (.tree false (bT b)), x, y, z] =
            match dfs cs lot gs r (b ++ [q]) with
            | some ps => .ret (.bk (.tree false (bT ps))) [.im (rwsD cs gs), .im (.lst ((lvB cs lot gs b).map D.int)), .bk (.tree false (bT b)), .im (.int (q : Int)), .im (.lst ((lvB cs lot gs (b ++ [q])).map D.int)), .no]
            | none => .nx [.im (rwsD cs gs), .im (.lst ((lvB cs lot gs b).map D.int)), .bk (.tree false (bT b)), .im (.int (q : Int)), .im (.lst ((lvB cs lot gs (b ++ [q])).map D.int)), .im .non] := by
          rw [hlv] at hP hs0
          rw [hst, x_step x_tgName]
          walk_at "ev"
          rw [trB, in_okB, hc]
          walk_at "ev"
          rw [hrow]
          walk_at "ev"
          rw [x_do2 hP]
          walk_at "ev"
          rw [hs0]
          walk_at "ev"
          rw [hm]
          walk_at "ev"
          rw [trB, x_cat (by simp; omega)]
          walk_at "ev"
          rw [hall]
          walk_at "ev"
          rw [hnT, x_callMK hih]
          walk_at "ev"
          cases dfs cs lot gs r (b ++ [q]) with
          | none =>
            show ((setTK 5 (.im .non) _).seq _) = _
            walk_at "ev"
          | some ps =>
            show ((setTK 5 (.bk (.tree false (bT ps))) _).seq _) = _
            walk_at "ev"
        simp only [cond_false, cond_true, Bool.not_false]
        cases hd : dfs cs lot gs r (b ++ [q]) with
        | none =>
          rw [hd] at go
          rw [dFor_cons (show step _ _ = .nx _ from go)]
          exact first_loop C T B G hg hb hl hB hst ih qs _ _ _ hq2
        | some ps =>
          rw [hd] at go
          exact ⟨_, _, _, dFor_ret (show step _ _ = .ret _ _ from go)⟩

theorem first_ok {cs lot : List Int} {gs : List (Int × List Int)} (C : Coins cs) (T : Till cs lot) (B : ∀ x ∈ lot, x < 2 ^ 140) (G : Gs cs gs) (hg : gs.length ≤ 7) : ∀ (r k : Nat) (b : List Nat), b.length + r = gs.length → r < k → (∀ p ∈ b, p < gs.length) → (gone cs lot (pk gs b)).1 = b.length →
    ∃ s2, F__first_order k [.im (rwsD cs gs), .im (.lst ((lvB cs lot gs b).map D.int)), .bk (.tree false (bT b))] = .ok (rvO (dfs cs lot gs r b)) [.im (rwsD cs gs), .im (.lst ((lvB cs lot gs b).map D.int)), s2]
  | r, 0, b, _, hk, _, _ => absurd hk (Nat.not_lt_zero _)
  | r, k + 1, b, hr, hk, hb, hB => by
    have e0 : F__first_order (k + 1) = runDef 6 [2] (g__first_order (F__first_order k)) := rfl
    have hbl : (((b.map fun p : Nat => (p : Int)).map D.int).length) = b.length := by rw [List.length_map, List.length_map]
    rw [e0, x_run rfl]
    show ∃ s2, endOf _ (g__first_order (F__first_order k) [.im (rwsD cs gs), .im (.lst ((lvB cs lot gs b).map D.int)), .bk (.tree false (bT b)), .no, .no, .no]) = _
    unfold g__first_order
    walk_at "ev"
    rw [trB, hbl]
    cases r with
    | zero =>
      rw [eq_t (by omega)]
      walk_at "ev"
      exact ⟨_, rfl⟩
    | succ r =>
      rw [eq_f (by omega)]
      walk_at "ev"
      rw [rng_ints, List.map_map]
      generalize hstep : stepOf (tgName 3) _ = step
      obtain ⟨x', y', z', e⟩ := first_loop (r := r) C T B G hg hb (by omega) hB hstep.symm (fun p hp ho => first_ok C T B G hg r k (b ++ [p]) (by rw [List.length_append, List.length_singleton]; omega) (by omega) (fun x hx => by
        rcases List.mem_append.mp hx with hx | hx
        · exact hb x hx
        · rw [List.mem_singleton] at hx
          omega) (of_decide_eq_true ho)) (List.range gs.length) .no .no .no (fun q h => List.mem_range.mp h)
      have e : dFor step ((List.range gs.length).map (D.int ∘ fun k : Nat => (k : Int))) _ = _ := e
      rw [e]
      show ∃ s2, _ = R.ok (rvO ((List.range gs.length).findSome? fun p => cond (b.contains p) none (cond (okB cs lot gs (b ++ [p])) (dfs cs lot gs r (b ++ [p])) none))) _
      cases (List.range gs.length).findSome? fun p => cond (b.contains p) none (cond (okB cs lot gs (b ++ [p])) (dfs cs lot gs r (b ++ [p])) none) with
      | none => exact ⟨_, rfl⟩
      | some ps => exact ⟨_, rfl⟩
theorem rows_comp {cs : List Int} {gs : List (Int × List Int)} (C : Coins cs) (G : Gs cs gs) (hg : gs.length ≤ 40) {ρ0 ρ1 ρ2 : Sl} : dComp [4] (tgName 4) tYesD (eCall0 2 F_adds (aCons (eVar 0) (aCons (eVar 4) aNil))) [] (gs.map gD) [.im (.lst (cs.map D.int)), ρ0, ρ1, ρ2, .no] = .ok (gs.map fun g => D.lst ((rowG cs g).map D.int)) [.im (.lst (cs.map D.int)), ρ0, ρ1, ρ2, .no] := by
  rw [dComp_map (vals := gs.map fun g => D.lst ((rowG cs g).map D.int)) (by rw [List.length_map]; omega) (by rw [List.length_map, List.length_map]) (fun j d v e1 e2 => by
    rw [List.getElem?_map] at e1 e2
    cases hgj : gs[j]? with
    | none => rw [hgj] at e1; cases e1
    | some g =>
      rw [hgj] at e1 e2
      cases e1
      cases e2
      have Gg := G g (List.mem_of_getElem? hgj)
      refine ⟨_, [.im (.lst (cs.map D.int)), ρ0, ρ1, ρ2, .im (gD g)], .own ((rowG cs g).map D.int), x_tgName, ?_, rfl, rfl⟩
      walk_at "ev"
      rw [x_do2 (adds_ok C Gg)]
      rfl)]
theorem order_for_ok {cs lot : List Int} {gs : List (Int × List Int)} (C : Coins cs) (T : Till cs lot) (B : ∀ x ∈ lot, x < 2 ^ 140) (G : Gs cs gs) (hg : gs.length ≤ 7) :
    F_order_for [.im (.lst (cs.map D.int)), .im (.lst (lot.map D.int)), .im (.lst (gs.map gD))] = .ok (rvO (dfs cs lot gs gs.length [])) [.im (.lst (cs.map D.int)), .im (.lst (lot.map D.int)), .im (.lst (gs.map gD))] := by
  obtain ⟨s2, hF⟩ := first_ok C T B G hg gs.length 8 [] (by simp) (by omega) (fun _ h => by cases h) rfl
  unfold F_order_for
  rw [x_run rfl]
  show endOf _ (g_order_for [.im (.lst (cs.map D.int)), .im (.lst (lot.map D.int)), .im (.lst (gs.map gD)), .no, .no]) = _
  unfold g_order_for
  walk_at "ev"
  rw [x_do2 (check_till_ok C T)]
  walk_at "ev"
  rw [x_do2 (check_day_ok C G (by omega))]
  walk_at "ev"
  rw [x_iList]
  walk_at "ev"
  rw [rows_comp C G (by omega)]
  walk_at "ev"
  rw [x_do2 (levels_of_ok C T (fun n h => by have := B n h; omega))]
  walk_at "ev"
  rw [x_callMK (show F__first_order 8 [.im (.lst (gs.map fun g => D.lst ((rowG cs g).map D.int))), .im (.lst ((lv cs lot 0).map D.int)), .bk (.tree false (List.map Tr.im []))] = _ from hF)]
  walk_at "ev"

/-! ### orders: what is told of them -/
theorem gone_pre {cs : List Int} {bs : List (Int × List Int)} : ∀ {as : List (Int × List Int)} {lot : List Int}, (gone cs lot (as ++ bs)).1 = (as ++ bs).length → (gone cs lot as).1 = as.length
  | [], _, _ => rfl
  | a :: as, lot, h => by
    rw [List.cons_append] at h
    obtain ⟨o, g1⟩ := gone_full h
    have ih := gone_pre g1
    rw [gone_ok o]
    show (gone cs (left cs lot a.1 a.2) as).1 + 1 = as.length + 1
    rw [ih]
theorem pk_app2 {gs : List (Int × List Int)} {b c : List Nat} : pk gs (b ++ c) = pk gs b ++ pk gs c := List.map_append ..
theorem dfs_some {cs lot : List Int} {gs : List (Int × List Int)} : ∀ {r : Nat} {b ps : List Nat}, dfs cs lot gs r b = some ps → (∀ p ∈ b, p < gs.length) → (gone cs lot (pk gs b)).1 = b.length → ps.length = b.length + r ∧ (∀ p ∈ ps, p < gs.length) ∧ (gone cs lot (pk gs ps)).1 = ps.length
  | 0, b, ps, h, hb, hB => by
    have h : some b = some ps := h
    cases h
    exact ⟨rfl, hb, hB⟩
  | r + 1, b, ps, h, hb, hB => by
    obtain ⟨p, hp, e⟩ := List.exists_of_findSome?_eq_some h
    rw [List.mem_range] at hp
    cases hc : b.contains p with
    | true => rw [hc] at e; cases e
    | false =>
      rw [hc] at e
      cases ho : okB cs lot gs (b ++ [p]) with
      | false => rw [ho] at e; cases e
      | true =>
        rw [ho] at e
        obtain ⟨h1, h2⟩ := dfs_some (r := r) (b := b ++ [p]) e (fun x hx => by
          rcases List.mem_append.mp hx with hx | hx
          · exact hb x hx
          · rw [List.mem_singleton] at hx
            omega) (of_decide_eq_true ho)
        rw [List.length_append, List.length_singleton] at h1
        exact ⟨by omega, h2⟩
theorem dfs_none {cs lot : List Int} {gs : List (Int × List Int)} : ∀ {r : Nat} {b qs : List Nat}, dfs cs lot gs r b = none → qs.length = r → (b ++ qs).Nodup → (∀ q ∈ qs, q < gs.length) → (gone cs lot (pk gs (b ++ qs))).1 ≠ (b ++ qs).length
  | 0, b, qs, h, _, _, _ => by
    have h : some b = none := h
    cases h
  | r + 1, b, [], _, hl, _, _ => by cases hl
  | r + 1, b, q :: qs, h, hl, hn, hq => by
    have e := List.findSome?_eq_none_iff.mp h q (List.mem_range.mpr (hq q List.mem_cons_self))
    have hc : b.contains q = false := by
      cases hc : b.contains q with
      | false => rfl
      | true => exact ((List.nodup_append.mp hn).2.2 q (List.contains_iff_mem.mp hc) q List.mem_cons_self rfl).elim
    rw [hc] at e
    have ea : b ++ q :: qs = (b ++ [q]) ++ qs := by rw [List.append_assoc]; rfl
    rw [ea] at hn ⊢
    cases ho : okB cs lot gs (b ++ [q]) with
    | true =>
      rw [ho] at e
      exact dfs_none (r := r) e (by simpa using hl) hn fun x hx => hq x (List.mem_cons_of_mem _ hx)
    | false =>
      intro z
      have := gone_pre (as := pk gs (b ++ [q])) (bs := pk gs qs) (by rw [← pk_app2, z, pk_len])
      rw [pk_len] at this
      exact of_decide_eq_false ho this
theorem pk_range {gs : List (Int × List Int)} {i : Nat} (h : i ≤ gs.length) : pk gs (List.range i) = gs.take i := by
  show (List.range i).map (fun p => gs.getD p (0, [])) = gs.take i
  refine List.ext_getElem (by rw [List.length_map, List.length_range, List.length_take]; omega) fun k h1 h2 => ?_
  have h3 := h1
  rw [List.length_map, List.length_range] at h3
  rw [List.getElem_map, List.getElem_range, List.getElem_take, List.getD_eq_getElem?_getD, List.getElem?_eq_getElem (by omega)]
  rfl
theorem pk_all {gs : List (Int × List Int)} : pk gs (List.range gs.length) = gs := by rw [pk_range (Nat.le_refl _), List.take_length]
theorem dfs_id {cs lot : List Int} {gs : List (Int × List Int)} (h : (gone cs lot gs).1 = gs.length) : ∀ {r : Nat}, r ≤ gs.length → dfs cs lot gs r (List.range (gs.length - r)) = some (List.range gs.length)
  | 0, _ => rfl
  | r + 1, hr => by
    have ih := dfs_id h (r := r) (by omega)
    have e1 : gs.length - r = (gs.length - (r + 1)) + 1 := by omega
    rw [e1] at ih
    generalize ha : gs.length - (r + 1) = a at ih ⊢
    have hok : okB cs lot gs (List.range a ++ [a]) = true := by
      rw [← List.range_succ]
      refine decide_eq_true ?_
      rw [pk_range (by omega)]
      have := gone_pre (as := gs.take (a + 1)) (bs := gs.drop (a + 1)) (by rw [List.take_append_drop]; exact h)
      rw [this, List.length_take, List.length_range]
      omega
    refine List.findSome?_eq_some_iff.mpr ⟨List.range a, a, (List.range (gs.length - (a + 1))).map (a + 1 + ·), ?_, ?_, fun x hx => ?_⟩
    · have e2 : gs.length = (a + 1) + (gs.length - (a + 1)) := by omega
      conv => lhs; rw [e2, List.range_add, List.range_succ, List.append_assoc]
      rfl
    · have hn : (List.range a).contains a = false := by
        cases hc : (List.range a).contains a with
        | false => rfl
        | true =>
          have := List.mem_range.mp (List.contains_iff_mem.mp hc)
          omega
      rw [hn, hok]
      show dfs cs lot gs r (List.range a ++ [a]) = _
      rw [← List.range_succ]
      exact ih
    · rw [List.contains_iff_mem.mpr hx]
      rfl
theorem dfs_all {cs lot : List Int} {gs : List (Int × List Int)} (h : (gone cs lot gs).1 = gs.length) : dfs cs lot gs gs.length [] = some (List.range gs.length) := by
  have := dfs_id h (Nat.le_refl gs.length)
  rw [Nat.sub_self] at this
  exact this


/-! ### the first of all orders that comes out even -/
def extO (m : Nat) (b : List Nat) : List (List Nat) := ((List.range m).filter fun p => !b.contains p).map fun p => b ++ [p]
def allO (m : Nat) : Nat → List Nat → List (List Nat)
  | 0, b => [b]
  | r + 1, b => (extO m b).flatMap (allO m r)
theorem ordsN_all {m : Nat} : ∀ {r k : Nat}, ordsN m (k + r) = (ordsN m k).flatMap (allO m r)
  | 0, k => by
    show ordsN m k = (ordsN m k).flatMap fun b => [b]
    rw [List.flatMap_singleton']
  | r + 1, k => by
    rw [show k + (r + 1) = (k + 1) + r by omega, ordsN_all (r := r) (k := k + 1)]
    show ((ordsN m k).flatMap (extO m)).flatMap (allO m r) = _
    rw [List.flatMap_assoc]
    rfl
theorem find_flat {α β : Type} {p : β → Bool} {f : α → List β} : ∀ {xs : List α}, (xs.flatMap f).find? p = xs.findSome? fun x => (f x).find? p
  | [] => rfl
  | x :: xs => by
    rw [List.flatMap_cons, List.find?_append, List.findSome?_cons, find_flat (xs := xs)]
    cases (f x).find? p <;> rfl
theorem some_filter {α β : Type} {q : α → Bool} {f : α → Option β} : ∀ {xs : List α}, (xs.filter q).findSome? f = xs.findSome? fun x => cond (q x) (f x) none
  | [] => rfl
  | x :: xs => by
    rw [List.filter_cons, List.findSome?_cons]
    cases hq : q x with
    | true =>
      rw [if_pos rfl, List.findSome?_cons, some_filter (xs := xs)]
      rfl
    | false =>
      rw [if_neg (by simp), some_filter (xs := xs)]
      rfl
theorem allO_pre {m : Nat} : ∀ {r : Nat} {b ps : List Nat}, ps ∈ allO m r b → ∃ qs, ps = b ++ qs
  | 0, b, ps, h => by
    have h : ps ∈ [b] := h
    rw [List.mem_singleton] at h
    exact ⟨[], by rw [h, List.append_nil]⟩
  | r + 1, b, ps, h => by
    obtain ⟨c, hc, h⟩ := List.mem_flatMap.mp h
    obtain ⟨p, _, rfl⟩ := List.mem_map.mp hc
    obtain ⟨qs, e⟩ := allO_pre h
    exact ⟨p :: qs, by rw [e, List.append_assoc]; rfl⟩
theorem dfs_find {cs lot : List Int} {gs : List (Int × List Int)} : ∀ {r : Nat} {b : List Nat}, (gone cs lot (pk gs b)).1 = b.length → (allO gs.length r b).find? (fun ps => okB cs lot gs ps) = dfs cs lot gs r b
  | 0, b, h => by
    show [b].find? _ = some b
    rw [List.find?_cons, show okB cs lot gs b = true from decide_eq_true h]
  | r + 1, b, h => by
    show ((extO gs.length b).flatMap (allO gs.length r)).find? _ = _
    rw [find_flat]
    unfold extO
    rw [List.findSome?_map, some_filter]
    show _ = (List.range gs.length).findSome? fun p => cond (b.contains p) none (cond (okB cs lot gs (b ++ [p])) (dfs cs lot gs r (b ++ [p])) none)
    congr 1
    funext p
    cases b.contains p with
    | true => rfl
    | false =>
      show (allO gs.length r (b ++ [p])).find? _ = _
      cases ho : okB cs lot gs (b ++ [p]) with
      | true => exact dfs_find (of_decide_eq_true ho)
      | false =>
        refine List.find?_eq_none.mpr fun ps hps => ?_
        obtain ⟨qs, rfl⟩ := allO_pre hps
        intro z
        have z : (gone cs lot (pk gs (b ++ [p] ++ qs))).1 = (b ++ [p] ++ qs).length := of_decide_eq_true z
        have := gone_pre (as := pk gs (b ++ [p])) (bs := pk gs qs) (by rw [← pk_app2, z, pk_len])
        rw [pk_len] at this
        exact of_decide_eq_false ho this
theorem first_of {cs lot : List Int} {gs : List (Int × List Int)} : (ordsN gs.length gs.length).find? (fun ps => okB cs lot gs ps) = dfs cs lot gs gs.length [] := by
  have h := ordsN_all (m := gs.length) (r := gs.length) (k := 0)
  rw [Nat.zero_add] at h
  rw [h]
  show ([[]].flatMap (allO gs.length gs.length)).find? _ = _
  rw [List.flatMap_cons, List.flatMap_nil, List.append_nil]
  exact dfs_find rfl

theorem set_mid {α : Type} {v h : α} : ∀ {xs T : List α}, (xs ++ h :: T).set xs.length v = xs ++ v :: T
  | [], _ => rfl
  | x :: xs, T => congrArg (x :: ·) set_mid
theorem sums_sm {cs lot : List Int} {g : Int × List Int} (T : Till cs lot) (G : Guest cs g.1 g.2) : sums cs lot g.1 g.2 = sm (wo cs g.2 - g.1) cs (held lot g.2) 0 := by
  have := zsum_sm (cs := cs) (ms := lot) (ps := g.2) (r := wo cs g.2 - g.1) (w := 0) (v := 0) T.len G.pd.till.len
  rw [Int.add_zero] at this
  exact this
/-- what is left to be given is nothing just where he can be served -/
theorem fits_iff {cs lot : List Int} {g : Int × List Int} (C : Coins cs) (T : Till cs lot) (G : Guest cs g.1 g.2) : 0 < (gr (wo cs g.2 - g.1) cs (held lot g.2)).2 ↔ ok0 (sums cs lot g.1 g.2) = false := by
  have hr : 0 ≤ wo cs g.2 - g.1 := by have := G.en; omega
  have hhl := held_len T.len G.pd.till.len
  obtain ⟨_, g4⟩ := gr_mod (cs := cs) (hs := held lot g.2) (c := 1) (r := wo cs g.2 - g.1) (fun d _ => Int.one_dvd d) (fun d h => C.pos d h) hr
  constructor
  · intro h
    cases e : ok0 (sums cs lot g.1 g.2) with
    | false => rfl
    | true =>
      have h1 := ok0_all e
      rw [sums_sm T G] at h1
      have := gr_even C hr hhl h1
      omega
  · intro h
    by_cases h0 : 0 < (gr (wo cs g.2 - g.1) cs (held lot g.2)).2
    · exact h0
    · have hz : (gr (wo cs g.2 - g.1) cs (held lot g.2)).2 = 0 := by omega
      have hlv := gr_lv (w := 0) C.ch C.pos hr hhl
      rw [hz, Int.sub_zero, ← sums_sm T G] at hlv
      have hn := left_tl C T G
      have hp : ∀ x ∈ sufmin (sums cs lot g.1 g.2), 0 ≤ x := by
        rw [← hlv]
        exact (lv_up C.pos hn.nn).ge
      have hall : ∀ ss : List Int, (∀ x ∈ sufmin ss, 0 ≤ x) → ∀ s ∈ ss, 0 ≤ s := by
        intro ss
        induction ss with
        | nil => intro _ s hs; cases hs
        | cons y ys ih =>
          intro hq s hs
          rcases List.mem_cons.mp hs with e | hs
          · have h1 := hq (minI y ys) List.mem_cons_self
            have h2 := (minI_spec ys y).2 y List.mem_cons_self
            omega
          · exact ih (fun x hx => hq x (List.mem_cons_of_mem _ hx)) s hs
      rw [ok0_t (hall _ hp)] at h
      cases h


theorem take_loop {step : D → DL.Env → Out} {cs hs : List Int} {P1 P2 P3 P4 : Sl} {r : Int} (C : Coins cs) (hl : hs.length = cs.length) (hn : ∀ h ∈ hs, 0 ≤ h ∧ h < 2 ^ 190) (hr : 0 ≤ r) (hr2 : r < 2 ^ 190)
    (hst : step = stepOf (tgName 9) (sSeq (sSet 10 (eCB bMin2 (aCons (eIxO 6 (eVar 9)) (aCons (eOp opDiv (eVar 5) (eOp ixD (eVar 0) (eVar 9))) aNil)))) (sSeq (sSetIx 6 (eVar 9) (eOp opSub (eIxO 6 (eVar 9)) (eVar 10))) (sSet 5 (eOp opSub (eVar 5) (eOp opMul (eVar 10) (eOp ixD (eVar 0) (eVar 9)))))))) :
    ∀ (m : Nat) (x y : Sl), m ≤ cs.length → ∃ x' y', dFor step (dnD ((m : Int) - 1) m) [.im (.lst (cs.map D.int)), P1, P2, P3, P4, .im (.int (gr r (cs.drop m) (hs.drop m)).2), .own ((hs.take m ++ subs (hs.drop m) (gr r (cs.drop m) (hs.drop m)).1).map D.int), .no, .no, x, y] =
      .nx [.im (.lst (cs.map D.int)), P1, P2, P3, P4, .im (.int (gr r cs hs).2), .own ((subs hs (gr r cs hs).1).map D.int), .no, .no, x', y']
  | 0, x, y, _ => ⟨x, y, rfl⟩
  | m + 1, x, y, hm => by
    obtain ⟨c, hc⟩ : ∃ c, cs[m]? = some c := ⟨_, List.getElem?_eq_getElem (by omega)⟩
    obtain ⟨h, hh⟩ : ∃ h, hs[m]? = some h := ⟨_, List.getElem?_eq_getElem (by omega)⟩
    have e1 : cs.drop m = c :: cs.drop (m + 1) := by
      rw [List.drop_eq_getElem_cons (by omega)]
      rw [List.getElem?_eq_getElem (by omega)] at hc
      cases hc
      rfl
    have e2 : hs.drop m = h :: hs.drop (m + 1) := by
      rw [List.drop_eq_getElem_cons (by omega)]
      rw [List.getElem?_eq_getElem (by omega)] at hh
      cases hh
      rfl
    have e3 : hs.take (m + 1) = hs.take m ++ [h] := by
      rw [List.take_add_one, hh]
      rfl
    have g1 := C.pos c (List.mem_of_getElem? hc)
    have g2 := C.le c (List.mem_of_getElem? hc)
    have g3 := hn h (List.mem_of_getElem? hh)
    obtain ⟨_, g4⟩ := gr_mod (cs := cs.drop (m + 1)) (hs := hs.drop (m + 1)) (c := 1) (r := r) (fun d _ => Int.one_dvd d) (fun d h => C.pos d (List.mem_of_mem_drop h)) hr
    have eg : gr r (cs.drop m) (hs.drop m) = (mn h ((gr r (cs.drop (m + 1)) (hs.drop (m + 1))).2 / c) :: (gr r (cs.drop (m + 1)) (hs.drop (m + 1))).1, (gr r (cs.drop (m + 1)) (hs.drop (m + 1))).2 - mn h ((gr r (cs.drop (m + 1)) (hs.drop (m + 1))).2 / c) * c) := by
      rw [e1, e2, gr]
    obtain ⟨x', y', ih⟩ := take_loop C hl hn hr hr2 hst m (.im (.int m)) (.im (.int (mn h ((gr r (cs.drop (m + 1)) (hs.drop (m + 1))).2 / c)))) (by omega)
    rw [eg, e2] at ih
    rw [e3]
    obtain ⟨q, hq⟩ : ∃ q, gr r (cs.drop (m + 1)) (hs.drop (m + 1)) = q := ⟨_, rfl⟩
    rw [hq] at ih g4 ⊢
    obtain ⟨o, ho⟩ : ∃ o, mn h (q.2 / c) = o := ⟨_, rfl⟩
    have ho2 := mn_le (p := h) (q := q.2 / c)
    rw [ho] at ih ho2
    have hd0 : 0 ≤ q.2 / c := Int.ediv_nonneg g4 (by omega)
    have ho0 : 0 ≤ o := by rcases ho2.2.2 with z | z <;> omega
    rw [show subs (h :: hs.drop (m + 1)) (o :: q.1) = (h - o) :: subs (hs.drop (m + 1)) q.1 from rfl] at ih
    obtain ⟨T, hT⟩ : ∃ T, subs (hs.drop (m + 1)) q.1 = T := ⟨_, rfl⟩
    rw [hT] at ih ⊢
    have hlen : (hs.take m).length = m := by rw [List.length_take]; omega
    have hset : (((hs.take m ++ [h]) ++ T).map D.int).set m (.int (h - o)) = (hs.take m ++ (h - o) :: T).map D.int := by
      rw [← List.map_set, List.append_assoc]
      show ((hs.take m ++ h :: T).set m (h - o)).map D.int = _
      have := set_mid (v := h - o) (h := h) (xs := hs.take m) (T := T)
      rw [hlen] at this
      rw [this]
    have hat : atI (((hs.take m ++ [h]) ++ T).map D.int) (m : Int) = some (.int h) := atI_int (by
      rw [List.append_assoc, List.getElem?_append_right (by omega), hlen, Nat.sub_self]
      rfl)
    obtain ⟨L, hL⟩ : ∃ L, ((hs.take m ++ [h]) ++ T).map D.int = L := ⟨_, rfl⟩
    rw [hL] at hset hat ⊢
    have hLl : m < L.length := by
      rw [← hL, List.length_map, List.length_append, List.length_append, hlen, List.length_singleton]
      omega
    have hstep : step (.int m) [.im (.lst (cs.map D.int)), P1, P2, P3, P4, .im (.int q.2), .own L, .no, .no, x, y] =
        .nx [.im (.lst (cs.map D.int)), P1, P2, P3, P4, .im (.int (q.2 - o * c)), .own ((hs.take m ++ (h - o) :: T).map D.int), .no, .no, .im (.int m), .im (.int o)] := by
      rw [hst, x_step x_tgName, ← hset]
      walk_at "ev"
      rw [hat]
      walk_at "ev"
      rw [atI_int hc]
      walk_at "ev"
      rw [show (if q.2 / c < h then q.2 / c else h) = o from ho]
      rw [hat]
      walk_at "ev"
      rw [atI_int hc]
      walk_at "ev"
    refine ⟨x', y', ?_⟩
    have e9 : ((m + 1 : Nat) : Int) - 1 = (m : Int) := by omega
    rw [e9, dnD_cons, dFor_cons hstep]
    exact ih



theorem left_sm {cs lot : List Int} {g : Int × List Int} (C : Coins cs) (T : Till cs lot) (B : ∀ n ∈ lot, n < 2 ^ 150) (G : Guest cs g.1 g.2) : ∀ n ∈ left cs lot g.1 g.2, n < 2 ^ 150 + 1000001 := (left_bd C T B G).2
theorem paid_out_ok {cs lot : List Int} {g : Int × List Int} (C : Coins cs) (T : Till cs lot) (B : ∀ n ∈ lot, n < 2 ^ 150) (G : Guest cs g.1 g.2) : F__law_paid_out [.im (.lst (cs.map D.int)), .im (tD lot), .im (gD g)] = .ok (.im (cond (ok0 (sums cs lot g.1 g.2)) (tD (left cs lot g.1 g.2)) .non)) [.im (.lst (cs.map D.int)), .im (tD lot), .im (gD g)] := by
  obtain ⟨price, paid⟩ := g
  unfold F__law_paid_out
  rw [x_run rfl]
  show endOf _ (g__law_paid_out [.im (.lst (cs.map D.int)), .im (tD lot), .im (guD price paid), .no, .no, .no, .no, .no, .no, .no, .no]) = _
  unfold g__law_paid_out
  have h5 := C.hi
  have h2 := C.lo
  have hT := T.len
  have hPl : paid.length = cs.length := G.pd.till.len
  have hr : 0 ≤ wo cs paid - price := by have : price ≤ wo cs paid := G.en; omega
  have hw1 : wo cs paid ≤ cs.length * 100000000000 := wo_le (fun c h => ⟨C.pos c h, C.le c h⟩) fun n h => ⟨G.pd.till.nn n h, G.pd.le n h⟩
  have hr2 : wo cs paid - price < 2 ^ 190 := by have : 0 ≤ price := G.lo; omega
  have hhl : (held lot paid).length = cs.length := held_len hT hPl
  have hhr : ∀ h ∈ held lot paid, 0 ≤ h ∧ h < 2 ^ 190 := fun h hh => by
    obtain ⟨x, hx, y, hy, rfl⟩ := zip_mem hh
    have := T.nn x hx
    have := B x hx
    have := G.pd.till.nn y hy
    have := G.pd.le y hy
    omega
  walk_at "ev"
  rw [x_do2 (law_worth_ok C G.pd.sz)]
  walk_at "ev"
  generalize hfe : (eOp opAdd (eVar 7) (eVar 8) : DL.Env → R Rv) = fe
  rw [zip_comp (fun a b => a + b) (by omega) (fun x y hx hy => ⟨rfl, by
    subst hfe
    walk_at "ev", rfl⟩)]
  walk_at "ev"
  rw [show List.zipWith (fun a b => a + b) lot paid = held lot paid from rfl]
  generalize hstep : stepOf (tgName 9) _ = step
  obtain ⟨x', y', e⟩ := take_loop (P1 := .im (tD lot)) (P2 := .im (guD price paid)) (P3 := .im (.int price)) (P4 := .im (tD paid)) C hhl hhr hr hr2 hstep.symm cs.length .no .no (Nat.le_refl _)
  rw [List.drop_of_length_le (Nat.le_refl _), List.drop_of_length_le (by omega), List.take_of_length_le (by omega)] at e
  rw [show subs [] (gr (wo cs paid - price) [] []).1 = [] from rfl, List.append_nil, show (gr (wo cs paid - price) [] []).2 = wo cs paid - price from rfl] at e
  rw [show ((cs.length : Int) - 1 - -1).toNat = cs.length by omega, e]
  walk_at "ev"
  have hfit := fits_iff (g := (price, paid)) C T G
  obtain ⟨_, hnn⟩ := gr_mod (cs := cs) (hs := held lot paid) (c := 1) (r := wo cs paid - price) (fun d _ => Int.one_dvd d) (fun d h => C.pos d h) hr
  by_cases h0 : (gr (wo cs paid - price) cs (held lot paid)).2 = 0
  · have ok : ok0 (sums cs lot price paid) = true := by
      cases h : ok0 (sums cs lot price paid) with
      | true => rfl
      | false =>
        have : 0 < (gr (wo cs paid - price) cs (held lot paid)).2 := hfit.mpr h
        omega
    rw [h0, ok]
    walk_at "ev"
  · have ok : ok0 (sums cs lot price paid) = false := hfit.mp (by show 0 < (gr (wo cs paid - price) cs (held lot paid)).2; omega)
    rw [ok]
    walk_at "ev"


/-! ### the law's own look at what is the same -/
theorem kb_is : kitB "int" "str" = some false := by decide +kernel
theorem kb_ls : kitB "list" "str" = some false := by decide +kernel
theorem kb_ts : kitB "tuple" "str" = some false := by decide +kernel
theorem isi_lt1 {ds : List D} : isiD (.lst ds) (.tup [.ty "list", .ty "tuple"]) = some true := by
  simp [isiD, tyN, isiAny, isiOne, kb_ll, kb_lt]
theorem isi_lt2 {i : Int} : isiD (.int i) (.tup [.ty "list", .ty "tuple"]) = some false := by
  simp [isiD, tyN, isiAny, isiOne, kb_il, kb_it]
theorem isi_lt3 {ds : List D} : isiD (.tup ds) (.tup [.ty "list", .ty "tuple"]) = some true := by
  simp [isiD, tyN, isiAny, isiOne, kb_tl, kb_tt]
theorem isi_st {i : Int} : isiD (.int i) (.ty "str") = some false := kb_is
theorem same_int {n : Nat} {i : Int} : F__law_same (n + 1) [.im (.int i), .im (.int i)] = .ok (.im (.bl true)) [.im (.int i), .im (.int i)] := by
  show runDef 4 [] (g__law_same (F__law_same n)) _ = _
  rw [x_run rfl]
  show endOf _ (g__law_same (F__law_same n) [.im (.int i), .im (.int i), .no, .no]) = _
  unfold g__law_same
  walk_at "ev"
  rw [isi_lt2]
  walk_at "ev"
  rw [isi_bool rfl]
  walk_at "ev"
  rw [isi_bool rfl]
  walk_at "ev"
  rw [show (isBoolD (.int i) == isBoolD (.int i)) = true from rfl]
  walk_at "ev"
theorem same_all {n : Nat} {ds : List D} (h : ∀ d ∈ ds, F__law_same n [.im d, .im d] = .ok (.im (.bl true)) [.im d, .im d]) (h9 : ds.length ≤ 100000) {s0 s1 : Sl} :
    dComp [2, 3] (tgTup [tgName 2, tgName 3]) tYesD (eCall0 2 (F__law_same n) (aCons (eVar 2) (aCons (eVar 3) aNil))) [] (zipD ds ds) [s0, s1, .no, .no] = .ok ((ds.map fun _ => true).map D.bl) [s0, s1, .no, .no] := by
  have hz : (zipD ds ds).length = ds.length := by rw [DL.zipD_len, Nat.min_self]
  refine dComp_map (by rw [hz]; exact h9) (by rw [hz, List.length_map, List.length_map]) fun k d v h1 h2 => ?_
  have hk : k < ds.length := by
    rw [← hz]
    exact (List.getElem?_eq_some_iff.mp h1).1
  rw [zipD_get (x := ds[k]) (y := ds[k]) (List.getElem?_eq_getElem hk) (List.getElem?_eq_getElem hk)] at h1
  cases h1
  rw [List.getElem?_map, List.getElem?_map, List.getElem?_eq_getElem hk] at h2
  cases h2
  refine ⟨[s0, s1, .im ds[k], .im ds[k]], [s0, s1, .im ds[k], .im ds[k]], .im (.bl true), rfl, ?_, rfl, rfl⟩
  walk_at "ev"
  rw [x_do2 (h _ (List.getElem_mem hk))]
  walk_at "ev"
theorem all_true {α : Type} {ds : List α} : ((ds.map fun _ => true).all id) = true := by
  rw [List.all_eq_true]
  intro b hb
  obtain ⟨_, _, rfl⟩ := List.mem_map.mp hb
  rfl
theorem same_lst {n : Nat} {ds : List D} (h : ∀ d ∈ ds, F__law_same n [.im d, .im d] = .ok (.im (.bl true)) [.im d, .im d]) (h9 : ds.length ≤ 100000) : F__law_same (n + 1) [.im (.lst ds), .im (.lst ds)] = .ok (.im (.bl true)) [.im (.lst ds), .im (.lst ds)] := by
  show runDef 4 [] (g__law_same (F__law_same n)) _ = _
  rw [x_run rfl]
  show endOf _ (g__law_same (F__law_same n) [.im (.lst ds), .im (.lst ds), .no, .no]) = _
  unfold g__law_same
  walk_at "ev"
  rw [isi_lt1]
  walk_at "ev"
  rw [isi_lt1]
  walk_at "ev"
  rw [isi_list rfl]
  walk_at "ev"
  rw [isi_list rfl]
  walk_at "ev"
  rw [beq_self_eq_true]
  walk_at "ev"
  rw [same_all h h9]
  walk_at "ev"
  rw [x_all, all_true]
  walk_at "ev"
theorem same_ints {n : Nat} {ns : List Int} (h9 : ns.length ≤ 100000) : F__law_same (n + 2) [.im (.lst (ns.map D.int)), .im (.lst (ns.map D.int))] = .ok (.im (.bl true)) [.im (.lst (ns.map D.int)), .im (.lst (ns.map D.int))] := by
  refine same_lst (n := n + 1) (fun d hd => ?_) (by rw [List.length_map]; exact h9)
  obtain ⟨i, _, rfl⟩ := List.mem_map.mp hd
  exact same_int


/-! ### paid out, one by one -/
theorem paid_non {step : D → DL.Env → Out} {cs : List Int} {P : Sl}
    (hs : step = stepOf (tgName 3) (sIf (tOf (eOp cIsNotN (eVar 1) (eC .non))) (sSet 1 (eCall 3 F__law_paid_out (aCons (eVar 0) (aCons (eVar 1) (aCons (eVar 3) aNil))))) sNext)) :
    ∀ (gs : List (Int × List Int)) (x : Sl), ∃ y, dFor step (gs.map gD) [.im (.lst (cs.map D.int)), .im .non, P, x] = .nx [.im (.lst (cs.map D.int)), .im .non, P, y]
  | [], x => ⟨x, rfl⟩
  | g :: gs, x => by
    obtain ⟨y, e⟩ := paid_non (P := P) hs gs (.im (gD g))
    refine ⟨y, ?_⟩
    rw [List.map_cons, dFor_cons (ρ' := [.im (.lst (cs.map D.int)), .im .non, P, .im (gD g)]) ?_, e]
    rw [hs, x_step x_tgName]
    walk_at "ev"
theorem paid_loop {step : D → DL.Env → Out} {cs : List Int} {P : Sl} (C : Coins cs)
    (hs : step = stepOf (tgName 3) (sIf (tOf (eOp cIsNotN (eVar 1) (eC .non))) (sSet 1 (eCall 3 F__law_paid_out (aCons (eVar 0) (aCons (eVar 1) (aCons (eVar 3) aNil))))) sNext)) :
    ∀ (gs : List (Int × List Int)) (lot : List Int) (b : Int) (x : Sl), Till cs lot → (∀ n ∈ lot, n < b) → b + gs.length * 1000001 < 2 ^ 150 → Gs cs gs →
      ∃ y, dFor step (gs.map gD) [.im (.lst (cs.map D.int)), .im (tD lot), P, x] = .nx [.im (.lst (cs.map D.int)), .im (cond ((gone cs lot gs).1 == gs.length) (tD (gone cs lot gs).2) .non), P, y]
  | [], lot, b, x, _, _, _, _ => ⟨x, rfl⟩
  | g :: gs, lot, b, x, T, B, hb, G => by
    have Gg := G g List.mem_cons_self
    rw [List.length_cons] at hb
    have hpo := paid_out_ok C T (fun n h => by have := B n h; omega) Gg
    cases h : ok0 (sums cs lot g.1 g.2) with
    | true =>
      obtain ⟨y, e⟩ := paid_loop (P := P) C hs gs (left cs lot g.1 g.2) (b + 1000001) (.im (gD g)) (left_tl C T Gg) (left_bd C T B Gg).2 (by omega) fun z hz => G z (List.mem_cons_of_mem _ hz)
      refine ⟨y, ?_⟩
      rw [List.map_cons, dFor_cons (ρ' := [.im (.lst (cs.map D.int)), .im (tD (left cs lot g.1 g.2)), P, .im (gD g)]) ?_, e, gone_cons, h]
      · show _ = Out.nx [_, .im (cond ((gone cs (left cs lot g.1 g.2) gs).1 + 1 == gs.length + 1) _ _), _, _]
        rw [show ((gone cs (left cs lot g.1 g.2) gs).1 + 1 == gs.length + 1) = ((gone cs (left cs lot g.1 g.2) gs).1 == gs.length) by
          by_cases z : (gone cs (left cs lot g.1 g.2) gs).1 = gs.length
          · rw [z]; simp
          · rw [beq_eq_false_iff_ne.mpr z, beq_eq_false_iff_ne.mpr (by omega)]]
        rfl
      · rw [hs, x_step x_tgName]
        rw [h] at hpo
        walk_at "ev"
        rw [x_do3 hpo]
        walk_at "ev"
    | false =>
      obtain ⟨y, e⟩ := paid_non (cs := cs) (P := P) hs gs (.im (gD g))
      refine ⟨y, ?_⟩
      rw [List.map_cons, dFor_cons (ρ' := [.im (.lst (cs.map D.int)), .im .non, P, .im (gD g)]) ?_, e, gone_cons, h]
      · show _ = Out.nx [_, .im (cond (0 == gs.length + 1) _ _), _, _]
        rfl
      · rw [hs, x_step x_tgName]
        rw [h] at hpo
        walk_at "ev"
        rw [x_do3 hpo]
        walk_at "ev"
theorem paid_all_ok {cs lot : List Int} {gs : List (Int × List Int)} (C : Coins cs) (T : Till cs lot) (B : ∀ n ∈ lot, n < 2 ^ 140) (hl : gs.length ≤ 1000) (G : Gs cs gs) :
    ∃ ρ, F__law_paid_out_all [.im (.lst (cs.map D.int)), .im (tD lot), .im (.lst (gs.map gD))] = .ok (.im (cond ((gone cs lot gs).1 == gs.length) (tD (gone cs lot gs).2) .non)) ρ ∧ ρ.length = 3 := by
  unfold F__law_paid_out_all
  rw [x_run rfl]
  show ∃ ρ, endOf _ (g__law_paid_out_all [.im (.lst (cs.map D.int)), .im (tD lot), .im (.lst (gs.map gD)), .no]) = _ ∧ _
  unfold g__law_paid_out_all
  walk_at "ev"
  rw [x_iList]
  walk_at "ev"
  generalize hstep : stepOf (tgName 3) _ = step
  obtain ⟨y, e⟩ := paid_loop (P := .im (.lst (gs.map gD))) C hstep.symm gs lot (2 ^ 140) .no T B (by omega) G
  rw [e]
  walk_at "ev"
  exact ⟨_, rfl, rfl⟩

/-! ### what is due -/
def dueO (cs lot : List Int) (gs : List (Int × List Int)) : D := match dfs cs lot gs gs.length [] with
  | some ps => nD ps
  | none => .non
theorem pk_comp {gs : List (Int × List Int)} {ps : List Nat} {s0 s1 s3 : Sl} (h : ∀ p ∈ ps, p < gs.length) (hl : ps.length ≤ 100) :
    dComp [4] (tgName 4) tYesD (eOp ixD (eVar 2) (eVar 4)) [] ((ps.map fun p : Nat => (p : Int)).map D.int) [s0, s1, .im (.lst (gs.map gD)), s3, .no] = .ok ((pk gs ps).map gD) [s0, s1, .im (.lst (gs.map gD)), s3, .no] := by
  have e : ((ps.map fun p : Nat => (p : Int)).map D.int) = ps.map fun p : Nat => D.int (p : Int) := by rw [List.map_map]; rfl
  have e2 : (pk gs ps).map gD = (ps.filter fun _ => true).map fun p => gD (gs.getD p (0, [])) := by
    rw [List.filter_eq_self.mpr fun _ _ => rfl]
    unfold pk
    rw [List.map_map]
    rfl
  rw [e, e2]
  exact comp_filt ps (fun p : Nat => D.int (p : Int)) (fun _ => true) (fun p => gD (gs.getD p (0, []))) (by omega) fun p hp => by
    refine ⟨[s0, s1, .im (.lst (gs.map gD)), s3, .im (.int (p : Int))], [s0, s1, .im (.lst (gs.map gD)), s3, .im (.int (p : Int))], rfl, rfl, fun z => Bool.noConfusion z, fun _ => ⟨[s0, s1, .im (.lst (gs.map gD)), s3, .im (.int (p : Int))], .im (gD (gs.getD p (0, []))), ?_, rfl, rfl⟩⟩
    have hp := h p hp
    walk_at "ev"
    rw [atN (d := gD (gs.getD p (0, []))) (by rw [List.getElem?_map, List.getElem?_eq_getElem hp, List.getD_eq_getElem?_getD, List.getElem?_eq_getElem hp]; rfl)]
    walk_at "ev"
theorem due_loop {step : D → DL.Env → Out} {cs lot : List Int} {gs : List (Int × List Int)} (C : Coins cs) (T : Till cs lot) (B : ∀ n ∈ lot, n < 2 ^ 140) (G : Gs cs gs) (hg : gs.length ≤ 6)
    (hst : step = stepOf (tgName 3) (sIf (tOf (eOp cIsNotN (eCall 3 F__law_paid_out_all (aCons (eVar 0) (aCons (eVar 1) (aCons (eComp [4] (iListD (eVar 3)) (tgName 4) tYesD (eOp ixD (eVar 2) (eVar 4))) aNil)))) (eC .non))) (sRet (eVar 3)) sNext)) :
    ∀ (L : List (List Nat)) (x : Sl), (∀ ps ∈ L, (∀ p ∈ ps, p < gs.length) ∧ ps.length = gs.length) → ∃ x', dFor step (L.map nD) [.im (.lst (cs.map D.int)), .im (tD lot), .im (.lst (gs.map gD)), x, .no] =
      match L.find? (fun ps => okB cs lot gs ps) with
      | some ps => .ret (.im (nD ps)) [.im (.lst (cs.map D.int)), .im (tD lot), .im (.lst (gs.map gD)), x', .no]
      | none => .nx [.im (.lst (cs.map D.int)), .im (tD lot), .im (.lst (gs.map gD)), x', .no]
  | [], x, _ => ⟨x, rfl⟩
  | ps :: L, x, h => by
    obtain ⟨h1, h2⟩ := h ps List.mem_cons_self
    have Gp := pk_gs G h1
    obtain ⟨ρ, hpa, _⟩ := paid_all_ok C T B (by rw [pk_len]; omega) Gp
    have hk : ((gone cs lot (pk gs ps)).1 == (pk gs ps).length) = okB cs lot gs ps := by
      unfold okB
      rw [pk_len]
      by_cases z : (gone cs lot (pk gs ps)).1 = ps.length
      · rw [decide_eq_true z, z]
        simp
      · rw [decide_eq_false z, beq_eq_false_iff_ne.mpr z]
    rw [hk] at hpa
    have go : step (nD ps) [.im (.lst (cs.map D.int)), .im (tD lot), .im (.lst (gs.map gD)), x, .no] = cond (okB cs lot gs ps) (.ret (.im (nD ps)) [.im (.lst (cs.map D.int)), .im (tD lot), .im (.lst (gs.map gD)), .im (nD ps), .no]) (.nx [.im (.lst (cs.map D.int)), .im (tD lot), .im (.lst (gs.map gD)), .im (nD ps), .no]) := by
      rw [hst, x_step x_tgName]
      walk_at "ev"
      rw [x_iList]
      walk_at "ev"
      rw [pk_comp h1 (by omega)]
      walk_at "ev"
      rw [x_do3 hpa]
      cases okB cs lot gs ps with
      | true => walk_at "ev"
      | false => walk_at "ev"
    rw [List.map_cons, List.find?_cons]
    cases ho : okB cs lot gs ps with
    | true =>
      rw [ho] at go
      exact ⟨_, dFor_ret go⟩
    | false =>
      rw [ho] at go
      rw [dFor_cons go]
      exact due_loop C T B G hg hst L _ fun q hq => h q (List.mem_cons_of_mem _ hq)
theorem law_due_ok {cs lot : List Int} {gs : List (Int × List Int)} (C : Coins cs) (T : Till cs lot) (B : ∀ n ∈ lot, n < 2 ^ 140) (G : Gs cs gs) (hg : gs.length ≤ 6) :
    F__law_due [.im (.lst (cs.map D.int)), .im (tD lot), .im (.lst (gs.map gD))] = .ok (.im (dueO cs lot gs)) [.im (.lst (cs.map D.int)), .im (tD lot), .im (.lst (gs.map gD))] := by
  unfold F__law_due
  rw [x_run rfl]
  show endOf _ (g__law_due [.im (.lst (cs.map D.int)), .im (tD lot), .im (.lst (gs.map gD)), .no, .no]) = _
  unfold g__law_due
  walk_at "ev"
  rw [x_iList]
  walk_at "ev"
  rw [x_do1 (orders_ok hg)]
  walk_at "ev"
  generalize hstep : stepOf (tgName 3) _ = step
  obtain ⟨x', e⟩ := due_loop C T B G hg hstep.symm (ordsN gs.length gs.length) .no fun ps hp => by
    obtain ⟨q1, _, q3⟩ := mem_ords.mp hp
    exact ⟨q3, q1⟩
  rw [e, first_of]
  unfold dueO
  cases dfs cs lot gs gs.length [] with
  | none => walk_at "ev"
  | some ps => rfl

theorem poor_box_ok {N : Nat} {δ : Dkt} {cs : List Int} (S : Dk N δ) (hN : N < 1000000) (hl : cs.length ≤ 5) : ∃ (ns : List Int) (δ' : Dkt), F__law_poor_box [dkS δ, .im (.int (cs.length : Int))] = .ok (.own (ns.map D.int)) [dkS δ', .im (.int (cs.length : Int))] ∧ Till cs ns ∧ (∀ x ∈ ns, x < 4) ∧ Dk (N + 20) δ' := by
  unfold F__law_poor_box
  rw [x_run rfl]
  show ∃ (ns : List Int) (δ' : Dkt), endOf _ (g__law_poor_box [dkS δ, .im (.int (cs.length : Int)), .no]) = _ ∧ _
  unfold g__law_poor_box
  walk_at "ev"
  generalize hfe : (eOp opMul (eCall0 2 F__law_draw _) _ : DL.Env → R Rv) = fe
  obtain ⟨acc, ρ', e2, ns, δ2, rfl, rfl, hlen, hb, S2⟩ := dComp_run (vs := [2]) (tg := tgName 2) (ft := tYesD) (fe := fe) (items := rngD 0 cs.length)
    (fun i acc ρ => ∃ (ns : List Int) (δ2 : Dkt), ρ = [dkS δ2, .im (.int (cs.length : Int)), .no] ∧ acc = ns.map D.int ∧ ns.length = i ∧ (∀ x ∈ ns, 0 ≤ x ∧ x < 4) ∧ Dk (N + 3 * i) δ2)
    (ρ := [dkS δ, .im (.int (cs.length : Int)), .no]) (by rw [rngD_len]; omega) ⟨[], δ, rfl, rfl, rfl, by simp, by simpa using S⟩ (by
      rintro i d acc ρ hi ⟨ns, δ2, rfl, rfl, hlen, hb, S2⟩
      have hil := (List.getElem?_eq_some_iff.mp hi).1
      rw [rngD_len] at hil
      obtain ⟨r, δ3, e3, k1, k2, S3⟩ := draw_ok (m := 4) S2 (by omega) (by omega) (by omega)
      obtain ⟨q, δ4, e4, k3, k4, S4⟩ := draw_ok (m := 2) S3 (by omega) (by omega) (by omega)
      obtain ⟨v, hv, v1, v2⟩ : ∃ v : Int, r * (if q < 1 then q else 1) = v ∧ 0 ≤ v ∧ v < 4 := by
        have hq : q = 0 ∨ q = 1 := by omega
        rcases hq with rfl | rfl
        · exact ⟨0, by simp, by omega, by omega⟩
        · exact ⟨r, by simp, k1, k2⟩
      refine ⟨[dkS δ2, .im (.int (cs.length : Int)), .im d], rfl, .inl ⟨.im (.int v), [dkS δ2, .im (.int (cs.length : Int)), .im d], [dkS δ4, .im (.int (cs.length : Int)), .im d], rfl, ?_, ns ++ [v], δ4, rfl, by rw [List.map_append]; rfl, by rw [List.length_append, List.length_singleton, hlen], fun y hy => ?_, S4.mono (by omega)⟩⟩
      · subst hfe
        walk_at "ev"
        rw [x_doBI (F := F__law_draw) rfl e3]
        walk_at "ev"
        rw [x_doBI (F := F__law_draw) rfl e4]
        walk_at "ev"
        rw [hv]
      · rcases List.mem_append.mp hy with hy | hy
        · exact hb y hy
        · rw [List.mem_singleton] at hy
          rw [hy]
          exact ⟨v1, v2⟩)
  rw [e2]
  walk_at "ev"
  rw [rngD_len] at hlen S2
  exact ⟨ns, δ2, rfl, ⟨hlen, fun x h => (hb x h).1⟩, fun x h => (hb x h).2, S2.mono (by omega)⟩

theorem gs_rp {cs : List Int} {gs : List (Int × List Int)} (C : Coins cs) (G : Gs cs gs) : Rp 3 (8 * gs.length) (.lst (gs.map gD)) := by
  refine Rp.lst (RpA.all (a := 2) (m := 7) fun g hg => ?_)
  have Gg := G g hg
  have h5 := C.hi
  have hl := Gg.pd.till.len
  have h1 := Gg.lo
  have h2 := Gg.hi
  exact (Rp.tup (RpA.cons (Rp.int (i := g.1) (by omega) (by omega)) (RpA.cons (Rp.ints (ns := g.2) fun x hx => by
    have := Gg.pd.till.nn x hx
    have := Gg.pd.le x hx
    omega) RpA.nil))).mono (by omega) (by omega)

theorem bT_d (ps : List Nat) : (Rv.bk (.tree false (bT ps))).d = nD ps := by
  show (Tr.nd false (bT ps)).d = _
  rw [d_nf, trB]
theorem same_two {ps : List Nat} (h : ps.length ≤ 100) : F__law_same 7 [.im (.lst [nD ps, nD ps]), .im (.lst [nD ps, nD ps])] = .ok (.im (.bl true)) [.im (.lst [nD ps, nD ps]), .im (.lst [nD ps, nD ps])] :=
  same_lst (n := 6) (fun d hd => by
    have : d = nD ps := by
      simp only [List.mem_cons, List.not_mem_nil, or_false] at hd
      rcases hd with h | h <;> exact h
    rw [this]
    exact same_ints (n := 4) (by rw [List.length_map]; omega)) (by simp)
theorem law_true (ns : List Int) (hl : ns.length ≤ 63) (hb : ∀ z ∈ ns, Builtin.Int.intBits z ≤ 1048576) : ∃ ρ, F_law [.im (.scr ns)] = .ok (.im (.bl true)) ρ := by
  unfold F_law
  rw [x_run rfl]
  show ∃ ρ, endOf _ (g_law [.im (.scr ns), .no, .no, .no, .no, .no, .no, .no, .no, .no]) = _
  unfold g_law
  obtain ⟨δ0, e0, S0⟩ := deck_ok hl
  walk_at "ev"
  rw [x_do1 e0]
  walk_at "ev"
  generalize hstep : stepOf (tgName 2) _ = step
  obtain ⟨ρ', e, δ', s2, s3, s4, s5, s6, s7, s8, s9, rfl, S'⟩ := dFor_run (step := step) (items := rngD 0 8)
    (fun i ρ => ∃ (δ : Dkt) (s2 s3 s4 s5 s6 s7 s8 s9 : Sl), ρ = [.im (.scr ns), dkS δ, s2, s3, s4, s5, s6, s7, s8, s9] ∧ Dk (3000 * i) δ)
    (ρ := [.im (.scr ns), dkS δ0, .no, .no, .no, .no, .no, .no, .no, .no]) ⟨δ0, _, _, _, _, _, _, _, _, rfl, S0⟩ (by
    rintro i d ρ hi ⟨δ, s2, s3, s4, s5, s6, s7, s8, s9, rfl, S⟩
    have hin : i < 8 := by
      have := (List.getElem?_eq_some_iff.mp hi).1
      rwa [rngD_len] at this
    rw [rngD_get hin] at hi
    cases hi
    subst hstep
    obtain ⟨cs, δ1, e1, C, S1⟩ := metal_ok S (by omega)
    have h5 := C.hi
    obtain ⟨lot, δ2, e2, T, hlot, S2⟩ := poor_box_ok (cs := cs) S1 (by omega) h5
    obtain ⟨r, δ3, e3, k1, k2, S3⟩ := draw_ok (m := 4) S2 (by omega) (by omega) (by omega)
    obtain ⟨v, hv, v1⟩ := pick (P := fun x => 0 ≤ x ∧ x ≤ 6) (xs := [5, 5, 5, 6]) k1 (by simpa using k2) (by decide)
    obtain ⟨gs, δ4, e4, G, hgl, S4⟩ := dfolk_ok (most := v) S3 (by omega) C v1.1 (by omega)
    have hg6 : gs.length ≤ 6 := by omega
    have B : ∀ n ∈ lot, n < 2 ^ 140 := fun n h => by have := hlot n h; omega
    have R1 : Rp 1 5 (.lst (cs.map D.int)) := (Rp.ints (ns := cs) fun x hx => by have := C.le x hx; have := C.pos x hx; omega).mono (by omega) h5
    have R3 : Rp 1 5 (.lst (lot.map D.int)) := (Rp.ints (ns := lot) fun x hx => by have := hlot x hx; have := T.nn x hx; omega).mono (by omega) (by rw [T.len]; exact h5)
    have R2 := gs_rp C G
    have hr : rpOk (.lst [.lst (cs.map D.int), .lst (lot.map D.int), .lst (gs.map gD)]) = true := (Rp.lst (.cons R1 (.cons R3 (.cons R2 .nil)))).ok (by omega) (by omega)
    have D0 := law_due_ok C T B G hg6
    have O0 := order_for_ok C T B G (by omega)
    rw [x_step x_tgName]
    walk_at "ev"
    rw [x_doB rfl e1]
    walk_at "ev"
    rw [x_doBI rfl e2]
    walk_at "ev"
    rw [x_doBI (F := F__law_draw) rfl e3]
    walk_at "ev"
    rw [show atI [D.int 5, .int 5, .int 5, .int 6] r = some (.int v) from hv]
    walk_at "ev"
    rw [x_doBII rfl e4]
    walk_at "ev"
    rw [x_do3 D0]
    walk_at "ev"
    rw [x_repr hr]
    walk_at "ev"
    rw [x_do3 O0]
    walk_at "ev"
    unfold dueO
    cases hd : dfs cs lot gs gs.length [] with
    | none =>
      rw [hd] at O0
      rw [show rvO none = Rv.im .non from rfl] at O0 ⊢
      simp only []
      walk_at "ev"
      rw [show ∀ a b c : Av, permG 0 3 [2, 1, 0] [] [a, b, c] = [c, b, a] from fun _ _ _ => rfl, x_do3 O0]
      walk_at "ev"
      rw [x_repr hr]
      walk_at "ev"
      exact ⟨_, rfl, δ4, _, _, _, _, _, _, _, _, rfl, S4.mono (by omega)⟩
    | some ps =>
      rw [hd] at O0
      obtain ⟨pl, _⟩ := dfs_some hd (fun _ h => by cases h) rfl
      rw [show rvO (some ps) = Rv.bk (.tree false (bT ps)) from rfl] at O0 ⊢
      simp only []
      walk_at "ev"
      rw [show ∀ a b c : Av, permG 0 3 [2, 1, 0] [] [a, b, c] = [c, b, a] from fun _ _ _ => rfl, x_do3 O0]
      walk_at "ev"
      have pl2 : ps.length ≤ 6 := by
        rw [List.length_nil] at pl
        omega
      rw [show D.lst (trD (bT ps)) = nD ps by rw [trB], x_do2 (same_two (by omega))]
      walk_at "ev"
      rw [x_appTI (by unfold bT; rw [List.length_map]; omega)]
      walk_at "ev"
      rw [x_do3 O0]
      walk_at "ev"
      rw [bT_d, cNe_self (PyD.ints (ns := ps.map fun p : Nat => (p : Int)))]
      walk_at "ev"
      rw [x_repr hr]
      walk_at "ev"
      exact ⟨_, rfl, δ4, _, _, _, _, _, _, _, _, rfl, S4.mono (by omega)⟩)
  rw [e]
  walk_at "ev"
  exact ⟨_, rfl⟩

end Law
open PySem PySem.W PyProof.Rows
set_option maxHeartbeats 0 in
theorem PySem.Challenge.cw_tillpress_k56_orders_told_holds : PySem.Challenge.rw_tillpress_k56_orders_told.Holds := by
  w_on; o_law; k_head; (case hw => w_witness2)
  k_fill
  refine L2.walk_ofG (l := PySem.Challenge.rw_tillpress_k56_orders_told) (n := 63) (k := 12) (x := "script") (CX := fun w => L2.CX PySem.Challenge.rw_tillpress_k56_orders_told.prog w) (sp := fun w => DL.spD _ 1 Law.F_law) rfl (by decide) rfl ⟨rfl, by decide, by decide⟩ (fun w h Y => PySem.W.kIn_of Y) ?F (fun w H a ns hl hb _ hS => DL.law_sp hS (Law.law_true ns hl hb)) (fun w H s e s' h => DL.law_cx h)
  case F =>
    intro w mg fa h KX G hmg
    refine' Law.all_mk KX G hmg ?a0 ?l0 ?c0 ?k0 ?a1 ?l1 ?c1 ?k1 ?a2 ?l2 ?c2 ?k2 ?a3 ?l3 ?c3 ?k3 ?a4 ?l4 ?c4 ?k4 ?a5 ?l5 ?c5 ?k5 ?a6 ?l6 ?c6 ?k6 ?a7 ?l7 ?c7 ?k7 ?a8 ?l8 ?c8 ?k8 ?a9 ?l9 ?c9 ?k9 ?a10 ?l10 ?c10 ?k10 ?a11 ?l11 ?c11 ?k11 ?a12 ?l12 ?c12 ?k12 ?a13 ?l13 ?c13 ?k13 ?a14 ?l14 ?c14 ?k14 ?a15 ?l15 ?c15 ?k15 ?a16 ?l16 ?c16 ?k16 ?a17 ?l17 ?c17 ?k17 ?a18 ?l18 ?c18 ?k18 ?a19 ?l19 ?c19 ?k19 ?a20 ?l20 ?c20 ?k20 ?a21 ?l21 ?c21 ?k21 ?a22 ?l22 ?c22 ?k22 ?a23 ?l23 ?c23 ?k23 ?a24 ?l24 ?c24 ?k24 ?a25 ?l25 ?c25 ?k25 ?a26 ?l26 ?c26 ?k26 ?a27 ?l27 ?c27 ?k27 ?a28 ?l28 ?c28 ?k28 ?a29 ?l29 ?c29 ?k29 ?a30 ?l30 ?c30 ?k30 ?a31 ?l31 ?c31 ?k31 ?q0 ?q1 ?q2 ?q3 ?q4 ?q5 ?q6 ?z0 ?z1 ?z2 ?z3 ?z4 ?z5 ?z6 ?z7 ?z8 ?z9 ?z10 ?z11 ?z12
    (case a0 => k_is); (case l0 => k_is); (case c0 => k_is); (case k0 => k_is); (case a1 => k_is); (case l1 => k_is); (case c1 => k_is); (case k1 => k_is); (case a2 => k_is); (case l2 => k_is); (case c2 => k_is); (case k2 => k_is); (case a3 => k_is); (case l3 => k_is); (case c3 => k_is); (case k3 => k_is); (case a4 => k_is); (case l4 => k_is); (case c4 => k_is); (case k4 => k_is); (case a5 => k_is); (case l5 => k_is); (case c5 => k_is); (case k5 => k_is); (case a6 => k_is); (case l6 => k_is); (case c6 => k_is); (case k6 => k_is); (case a7 => k_is); (case l7 => k_is); (case c7 => k_is); (case k7 => k_is); (case a8 => k_is); (case l8 => k_is); (case c8 => k_is); (case k8 => k_is); (case a9 => k_is); (case l9 => k_is); (case c9 => k_is); (case k9 => k_is); (case a10 => k_is); (case l10 => k_is); (case c10 => k_is); (case k10 => k_is); (case a11 => k_is); (case l11 => k_is); (case c11 => k_is); (case k11 => k_is); (case a12 => k_is); (case l12 => k_is); (case c12 => k_is); (case k12 => k_is); (case a13 => k_is); (case l13 => k_is); (case c13 => k_is); (case k13 => k_is); (case a14 => k_is); (case l14 => k_is); (case c14 => k_is); (case k14 => k_is); (case a15 => k_is); (case l15 => k_is); (case c15 => k_is); (case k15 => k_is); (case a16 => k_is); (case l16 => k_is); (case c16 => k_is); (case k16 => k_is); (case a17 => k_is); (case l17 => k_is); (case c17 => k_is); (case k17 => k_is); (case a18 => k_is); (case l18 => k_is); (case c18 => k_is); (case k18 => k_is); (case a19 => k_is); (case l19 => k_is); (case c19 => k_is); (case k19 => k_is); (case a20 => k_is); (case l20 => k_is); (case c20 => k_is); (case k20 => k_is); (case a21 => k_is); (case l21 => k_is); (case c21 => k_is); (case k21 => k_is); (case a22 => k_is); (case l22 => k_is); (case c22 => k_is); (case k22 => k_is); (case a23 => k_is); (case l23 => k_is); (case c23 => k_is); (case k23 => k_is); (case a24 => k_is); (case l24 => k_is); (case c24 => k_is); (case k24 => k_is); (case a25 => k_is); (case l25 => k_is); (case c25 => k_is); (case k25 => k_is); (case a26 => k_is); (case l26 => k_is); (case c26 => k_is); (case k26 => k_is); (case a27 => k_is); (case l27 => k_is); (case c27 => k_is); (case k27 => k_is); (case a28 => k_is); (case l28 => k_is); (case c28 => k_is); (case k28 => k_is); (case a29 => k_is); (case l29 => k_is); (case c29 => k_is); (case k29 => k_is); (case a30 => k_is); (case l30 => k_is); (case c30 => k_is); (case k30 => k_is); (case a31 => k_is); (case l31 => k_is); (case c31 => k_is); (case k31 => k_is); (case q0 => k_is); (case q1 => k_is); (case q2 => k_is); (case q3 => k_is); (case q4 => k_is); (case q5 => k_is); (case q6 => k_is); (case z0 => k_is); (case z1 => k_is); (case z2 => k_is); (case z3 => k_is); (case z4 => k_is); (case z5 => k_is); (case z6 => k_is); (case z7 => k_is); (case z8 => k_is); (case z9 => k_is); (case z10 => k_is); (case z11 => k_is); (case z12 => k_is)

