import PyProof.Rows.All
import Wide.All
import OpenK.AllK
import Wide.FinOn
import Lean
import PyProof.EqAt
import PyProof.EqKinds
import PyProof.TupleCall
import PySem.Challenge.RW_dimhouse_k21_ways_and_values
set_option Elab.async false
set_option linter.all false
set_option maxRecDepth 100000
namespace L2
open PySem PySem.Spec PyProof.Rows

abbrev Key := Sum Int Str
def keyIs : Key → Value → Bool
  | .inl k, v => Value.isInt k v
  | .inr x, v => Value.isStrOf x v
def keyH (w : World) : Key → Int
  | .inl k => hashInt k
  | .inr x => hashStr w x
theorem keyIs_shape : ∀ {k : Key} {v : Value}, keyIs k v = true → (∃ i t, k = Sum.inl i ∧ v = Value.int i t) ∨ (∃ x t, k = Sum.inr x ∧ v = Value.str x t)
  | .inl i, v, h => by
    obtain ⟨t, e⟩ := Value.isInt_shape (k := i) (v := v) h
    exact .inl ⟨i, t, rfl, e⟩
  | .inr x, v, h => by
    obtain ⟨t, e⟩ := Value.isStrOf_shape (x := x) (v := v) h
    exact .inr ⟨x, t, rfl, e⟩
theorem keyIs_int (i : Int) (t : Tok) : keyIs (.inl i) (.int i t) = true := by simp [keyIs, Value.isInt]
theorem keyIs_str (x : Str) (t : Tok) : keyIs (.inr x) (.str x t) = true := by simp [keyIs, Value.isStrOf]
theorem key_ll (a b : Int) : decide ((Sum.inl a : Key) = Sum.inl b) = (a == b) := by
  by_cases e : a = b
  · subst e; simp
  · have h : ¬ (Sum.inl a : Key) = Sum.inl b := fun q => e (Sum.inl.inj q)
    rw [decide_eq_false h]
    exact (beq_eq_false_iff_ne.mpr e).symm
theorem key_rr (a b : Str) : decide ((Sum.inr a : Key) = Sum.inr b) = decide (a = b) := by
  by_cases e : a = b
  · subst e; simp
  · have h : ¬ (Sum.inr a : Key) = Sum.inr b := fun q => e (Sum.inr.inj q)
    rw [decide_eq_false h, decide_eq_false e]
theorem key_lr (a : Int) (b : Str) : decide ((Sum.inl a : Key) = Sum.inr b) = false := decide_eq_false (fun q => nomatch q)
theorem key_rl (a : Str) (b : Int) : decide ((Sum.inr a : Key) = Sum.inl b) = false := decide_eq_false (fun q => nomatch q)

def mixKind (prog : Program) (w : World) : PySem.KeyKind prog w Key where
  is := keyIs
  hash := keyH w
  inj := fun v a b ha hb => by
    rcases keyIs_shape ha with ⟨i, t, rfl, rfl⟩ | ⟨x, t, rfl, rfl⟩
    · rcases keyIs_shape hb with ⟨j, u, rfl, e⟩ | ⟨y, u, rfl, e⟩
      · injection e with e1 _; rw [e1]
      · exact nomatch e
    · rcases keyIs_shape hb with ⟨j, u, rfl, e⟩ | ⟨y, u, rfl, e⟩
      · exact nomatch e
      · injection e with e1 _; rw [e1]
  byValue := fun k v h => by
    rcases keyIs_shape h with ⟨i, t, rfl, rfl⟩ | ⟨x, t, rfl, rfl⟩ <;> rfl
  pyHash := fun hv h => by
    rcases keyIs_shape hv with ⟨i, t, rfl, rfl⟩ | ⟨x, t, rfl, rfl⟩
    · exact wpAny_pyHash_int h
    · exact wpAny_pyHash_str h
  eqBool := fun hu hv h => by
    rcases keyIs_shape hu with ⟨i, t, rfl, rfl⟩ | ⟨x, t, rfl, rfl⟩
    · rcases keyIs_shape hv with ⟨j, u, rfl, rfl⟩ | ⟨y, u, rfl, rfl⟩
      · rw [key_ll] at h; exact wpAny_eqBool_int h
      · rw [key_lr] at h; exact SeqAt.EqAt.int_str i t y u _ _ _ _ h
    · rcases keyIs_shape hv with ⟨j, u, rfl, rfl⟩ | ⟨y, u, rfl, rfl⟩
      · rw [key_rl] at h; exact SeqAt.EqAt.str_int x t j u _ _ _ _ h
      · rw [key_rr] at h; exact wpAny_eqBool_str h
  «strs» := fun k x t v h => by
    rcases keyIs_shape h with ⟨i, u, rfl, e⟩ | ⟨y, u, rfl, e⟩
    · exact nomatch e
    · injection e with e1 _
      subst e1
      cases v <;> rfl

theorem mixKind_is (prog : Program) (w : World) (k : Key) (v : Value) : (mixKind prog w).is k v = keyIs k v := rfl
theorem mixKind_int (prog : Program) (w : World) (i : Int) (t : Tok) : (mixKind prog w).is (.inl i) (.int i t) = true := keyIs_int i t
theorem mixKind_str (prog : Program) (w : World) (x : Str) (t : Tok) : (mixKind prog w).is (.inr x) (.str x t) = true := keyIs_str x t
end L2

namespace L2
open PySem PySem.Spec PyProof.Rows

inductive V where
  | non | bl (b : Bool) | int (i : Int) | str (x : Str) | byt (b : Array UInt8) | flt (b : UInt64) | ref (a : Addr) | ty (n : String)
  deriving DecidableEq

def RelV : V → Value → Prop
  | .non, u => u = Value.none
  | .bl b, u => u = Value.bool b
  | .int i, u => ∃ t, u = Value.int i t
  | .str x, u => ∃ t, u = Value.str x t
  | .byt b, u => ∃ t, u = Value.bytes b t
  | .flt b, u => ∃ t, u = Value.float b t
  | .ref a, u => u = Value.ref a
  | .ty n, u => u = Value.type n

abbrev Vals : List V → List Value → Prop := Paired RelV
theorem Vals.length {xs : List V} {us : List Value} (r : Vals xs us) : xs.length = us.length := Paired.length r
theorem Vals.get : ∀ {xs : List V} {us : List Value} {i : Nat} {x : V}, Vals xs us → xs[i]? = some x → ∃ u, us[i]? = some u ∧ RelV x u
  | _, _, _, _, .nil, e => by simp at e
  | _, _, 0, _, .cons r _, e => by simp at e; subst e; exact ⟨_, rfl, r⟩
  | _, _, i + 1, x, .cons _ t, e => by
    obtain ⟨u, h1, h2⟩ := Vals.get (i := i) (x := x) t (by simpa using e)
    exact ⟨u, by simpa using h1, h2⟩
theorem Vals.set {x : V} {u : Value} (r : RelV x u) : ∀ {xs : List V} {us : List Value} (i : Nat), Vals xs us → Vals (xs.set i x) (us.set i u)
  | _, _, _, .nil => .nil
  | _, _, 0, .cons _ t => .cons r t
  | _, _, i + 1, .cons q t => .cons q (Vals.set r i t)
theorem Vals.append : ∀ {xs ys : List V} {us ws : List Value}, Vals xs us → Vals ys ws → Vals (xs ++ ys) (us ++ ws)
  | _, _, _, _, .nil, s => s
  | _, _, _, _, .cons r t, s => .cons r (Vals.append t s)
theorem Vals.take : ∀ {xs : List V} {us : List Value} (n : Nat), Vals xs us → Vals (xs.take n) (us.take n)
  | _, _, 0, _ => .nil
  | _, _, _ + 1, .nil => .nil
  | _, _, n + 1, .cons r t => .cons r (Vals.take n t)
theorem Vals.drop : ∀ {xs : List V} {us : List Value} (n : Nat), Vals xs us → Vals (xs.drop n) (us.drop n)
  | _, _, 0, r => r
  | _, _, _ + 1, .nil => .nil
  | _, _, n + 1, .cons _ t => Vals.drop n t
theorem Vals.none_of : ∀ {xs : List V} {us : List Value} {i : Nat}, Vals xs us → xs[i]? = none → us[i]? = none := fun {xs us i} r e => by
  have h1 := r.length
  have h2 : xs.length ≤ i := List.getElem?_eq_none_iff.mp e
  exact List.getElem?_eq_none_iff.mpr (by omega)

def RelO : Option V → Option Value → Prop
  | some v, some u => RelV v u
  | none, none => True
  | _, _ => False
def KV {κ : Type} : List (κ × V) → List (κ × Value) → Prop := Paired fun (p : κ × V) (q : κ × Value) => p.1 = q.1 ∧ RelV p.2 q.2

def kV : Key → V
  | .inl i => .int i
  | .inr x => .str x

inductive HO where
  | lst (xs : List V)
  | tup (xs : List V)
  | dK (kvs : List (Key × V)) | dT (kvs : List (List Key × V))
  | set (S : Int → Bool) (n : Nat)
  | ins (C dx : Addr) (fs : List (Str × V))
  | own (x : Addr)
  | xd (fs : List (Str × V))
  | met (f x : Addr)
  | rng (lo hi : Int)
  | frz (o : Obj) (u : HO)
  | tbl (ps : Array Value)
  | ext (φ : Heap → Prop)

abbrev Hp := Addr → Option HO
def upd (H : Hp) (a : Addr) (o : HO) : Hp := fun b => if b = a then some o else H b
theorem upd_same {H : Hp} {a : Addr} {o : HO} : upd H a o a = some o := by unfold upd; rw [if_pos rfl]
theorem upd_ne {H : Hp} {a b : Addr} {o : HO} (h : b ≠ a) : upd H a o b = H b := by unfold upd; rw [if_neg h]
theorem upd_upd {H : Hp} {a : Addr} {o u : HO} : upd (upd H a o) a u = upd H a u := by
  funext b; unfold upd; split <;> rfl
theorem ne_of {H : Hp} {a b : Addr} {o u : HO} (h : H a = some o) (h' : H b = some u) (d : o ≠ u) : a ≠ b := by
  intro e; subst e; rw [h] at h'; exact d (Option.some.inj h')
theorem ne_of_none {H : Hp} {a b : Addr} {o : HO} (h : H a = some o) (h' : H b = none) : a ≠ b := by
  intro e; subst e; rw [h] at h'; cases h'

section
variable (P : Program) (w : World)
def ObjOk (H : Hp) (h : Heap) (a : Addr) : HO → Prop
  | .lst xs => xs.length ≤ sizeLine ∧ ∃ (its : List Value) (n : Nat), Vals xs its ∧ h.get? a = some { cls := .type "list", data := .seq its.toArray n }
  | .tup xs => xs.length ≤ sizeLine ∧ ∃ its : List Value, Vals xs its ∧ IsTup h a its.toArray
  | .dK kvs => kvs.length ≤ sizeLine ∧ (a == sysModules) = false ∧ ∃ vs, KV kvs vs ∧ h.DictOf (mixKind P w) a vs
  | .dT kvs => kvs.length ≤ sizeLine ∧ (a == sysModules) = false ∧ ∃ xs : List (List Key × Addr × Value),
      Paired (fun (p : List Key × V) (q : List Key × Addr × Value) => p.1 = q.1 ∧ H q.2.1 = some (.tup (p.1.map kV)) ∧ RelV p.2 q.2.2) kvs xs ∧
      ∃ o es ep, h.get? a = some o ∧ o.ExactDict ∧ o.data = .dict es ep ∧ es.toList = xs.map (entryOfKey (tupleKind (mixKind P w))) ∧ (xs.map (·.1)).Nodup
  | .set S n => h.SetOf (intKind P w) a S n
  | .ins C dx fs => H dx = some (.own a) ∧ fs.length ≤ 1000 ∧ dx ≠ a ∧ h.get? a = some (PySem.W.instObj C dx) ∧
      ∃ mA, h.Ns1 dx mA ∧ (∀ f, RelO (fs.lookup f) (mA f)) ∧ PySem.Within mA (fs.map (·.1))
  | .own _ => ∃ o, h.get? a = some o
  | .xd fs => ∃ mA, h.Ns1 a mA ∧ ∀ f, RelO (fs.lookup f) (mA f)
  | .rng lo hi => ∃ t u v, h.get? a = some { cls := .type "range", data := .fields #[.int lo t, .int hi u, .int 1 v] }
  | .frz o u => h.get? a = some o ∧ ObjOk H h a u
  | .tbl ps => h.get? a = some { cls := .none, data := .fields ps }
  | .met f x => h.get? a = some (PySem.W.methodObj (.ref f) (.ref x))
  | .ext φ => φ h ∧ (∃ o, h.get? a = some o) ∧ ∀ h1 h2 : Heap, φ h1 → (∀ o, h1.get? a = some o → h2.get? a = some o) → φ h2
def HOk (H : Hp) (h : Heap) : Prop := ∀ a o, H a = some o → ObjOk P w H h a o
end

section
variable {P : Program} {w : World} {H H' : Hp} {h h' : Heap} {a : Addr} {o : HO}
theorem ObjOk.lt (x : ObjOk P w H h a o) : a < h.objs.size := by
  cases o with
  | lst xs => obtain ⟨_, _, _, _, e⟩ := x; exact Heap.lt_size e
  | tup xs => obtain ⟨_, _, _, p⟩ := x; exact p.lt
  | dK kvs => obtain ⟨_, _, _, _, o, _, _, e, _⟩ := x; exact Heap.lt_size e
  | dT kvs => obtain ⟨_, _, _, _, o, _, _, e, _⟩ := x; exact Heap.lt_size e
  | set S n => obtain ⟨o, _, _, _, e, _⟩ := x; exact Heap.lt_size e
  | ins C dx fs => obtain ⟨_, _, _, e, _⟩ := x; exact Heap.lt_size e
  | own y => obtain ⟨_, e⟩ := x; exact Heap.lt_size e
  | xd fs => obtain ⟨_, ⟨_, _, _, e, _⟩, _⟩ := x; exact Heap.lt_size e
  | rng lo hi => obtain ⟨_, _, _, e⟩ := x; exact Heap.lt_size e
  | frz ob u => obtain ⟨e, _⟩ := x; exact Heap.lt_size e
  | tbl ps => exact Heap.lt_size (show h.get? a = some _ from x)
  | met f y => exact Heap.lt_size (show h.get? a = some _ from x)
  | ext φ => obtain ⟨_, ⟨_, e⟩, _⟩ := x; exact Heap.lt_size e
theorem Paired.mapP {α β : Type} {F G : α → β → Prop} : ∀ {l₁ : List α} {l₂ : List β}, Paired F l₁ l₂ → (∀ a b, F a b → G a b) → Paired G l₁ l₂
  | _, _, .nil, _ => .nil
  | _, _, .cons r t, f => .cons (f _ _ r) (Paired.mapP t f)
theorem Paired.imp' {α β : Type} {F G : α → β → Prop} (f : ∀ a b, F a b → G a b) {l₁ : List α} {l₂ : List β} (r : Paired F l₁ l₂) : Paired G l₁ l₂ := Paired.mapP r f
theorem ObjOk.stay (x : ObjOk P w H h a o) (k : ∀ b u, (b = a ∨ H b = some (.own a)) → h.get? b = some u → h'.get? b = some u)
    (ho : ∀ b, H b = some (.own a) → H' b = some (.own a)) (ht : ∀ b xs, H b = some (.tup xs) → H' b = some (.tup xs)) : ObjOk P w H' h' a o := by
  induction o with
  | lst xs => obtain ⟨z, its, n, r, e⟩ := x; exact ⟨z, its, n, r, k _ _ (.inl rfl) e⟩
  | tup xs => obtain ⟨z, its, r, ob, e, c⟩ := x; exact ⟨z, its, r, ob, k _ _ (.inl rfl) e, c⟩
  | dK kvs => obtain ⟨z, y, vs, r, ob, es, ep, e, c⟩ := x; exact ⟨z, y, vs, r, ob, es, ep, k _ _ (.inl rfl) e, c⟩
  | dT kvs =>
    obtain ⟨z, y, xs, r, ob, es, ep, e, c⟩ := x
    exact ⟨z, y, xs, Paired.mapP r fun p q z => ⟨z.1, ht _ _ z.2.1, z.2.2⟩, ob, es, ep, k _ _ (.inl rfl) e, c⟩
  | set S n => obtain ⟨ob, es, ep, t, e, c⟩ := x; exact ⟨ob, es, ep, t, k _ _ (.inl rfl) e, c⟩
  | ins C dx fs =>
    obtain ⟨d, z, ne, e, mA, ⟨od, es, ep, e2, c⟩, r⟩ := x
    exact ⟨ho _ d, z, ne, k _ _ (.inl rfl) e, mA, ⟨od, es, ep, k _ _ (.inr d) e2, c⟩, r⟩
  | own y => obtain ⟨ob, e⟩ := x; exact ⟨ob, k _ _ (.inl rfl) e⟩
  | xd fs => obtain ⟨mA, ⟨od, es, ep, e, c⟩, r⟩ := x; exact ⟨mA, ⟨od, es, ep, k _ _ (.inl rfl) e, c⟩, r⟩
  | rng lo hi => obtain ⟨t, u, v, e⟩ := x; exact ⟨t, u, v, k _ _ (.inl rfl) e⟩
  | frz ob u ih => obtain ⟨e, q⟩ := x; exact ⟨k _ _ (.inl rfl) e, ih q⟩
  | tbl ps =>
    have e : h.get? a = some { cls := .none, data := .fields ps } := x
    show h'.get? a = some { cls := .none, data := .fields ps }
    exact k a _ (.inl rfl) e
  | met f y =>
    have e : h.get? a = some (PySem.W.methodObj (.ref f) (.ref y)) := x
    show h'.get? a = some (PySem.W.methodObj (.ref f) (.ref y))
    exact k a _ (.inl rfl) e
  | ext φ => obtain ⟨p, ⟨o, e⟩, st⟩ := x; exact ⟨st _ _ p fun o q => k _ _ (.inl rfl) q, ⟨o, k _ _ (.inl rfl) e⟩, st⟩
theorem HOk.lt (x : HOk P w H h) (e : H a = some o) : a < h.objs.size := (x a o e).lt
theorem HOk.fresh (x : HOk P w H h) (e : h.objs.size ≤ a) : H a = none := by
  cases q : H a with
  | none => rfl
  | some u => exact absurd (Nat.lt_of_lt_of_le (x.lt q) e) (Nat.lt_irrefl _)
theorem HOk.kept (x : HOk P w H h) (k : ∀ b u, h.get? b = some u → h'.get? b = some u) : HOk P w H h' := fun a o e =>
  (x a o e).stay (fun b u _ q => k b u q) (fun _ q => q) fun _ _ q => q
theorem HOk.laid (x : HOk P w H h) (k : ∀ b u, h.get? b = some u → h'.get? b = some u) (hp : h.objs.size ≤ a) (new : ObjOk P w (upd H a o) h' a o) : HOk P w (upd H a o) h' := fun b u e => by
  have hn := x.fresh hp
  by_cases hb : b = a
  · subst hb; rw [upd_same] at e; cases e; exact new
  · rw [upd_ne hb] at e
    exact (x b u e).stay (fun c v _ q => k c v q) (fun c q => by rw [upd_ne (ne_of_none q hn)]; exact q) fun c xs q => by rw [upd_ne (ne_of_none q hn)]; exact q
end

def Rd (H : Hp) (a : Addr) (u : HO) : Prop := H a = some u ∨ ∃ o, H a = some (.frz o u)
theorem Rd.of {H : Hp} {a : Addr} {u : HO} (h : H a = some u) : Rd H a u := .inl h
theorem Rd.ok {P : Program} {w : World} {H : Hp} {h : Heap} {a : Addr} {u : HO} (r : Rd H a u) (x : HOk P w H h) : ObjOk P w H h a u := by
  rcases r with r | ⟨o, r⟩
  · exact x a u r
  · obtain ⟨_, q⟩ := x a _ r
    exact q
def Mut : Option HO → Prop
  | some (.lst _) => True
  | some (.dK _) => True
  | some (.dT _) => True
  | some (.set _ _) => True
  | some (.ins _ _ _) => True
  | some (.ext _) => True
  | _ => False
section
variable {P : Program} {w : World} {H : Hp} {h h' : Heap} {x e : Addr} {o' : HO}
theorem HOk.write (ok : HOk P w H h) (mu : Mut (H x)) (he : e = x ∨ H e = some (.own x)) (k : ∀ b u, b ≠ e → h.get? b = some u → h'.get? b = some u) (heo : ∃ u, h'.get? e = some u)
    (new : ObjOk P w (upd H x o') h' x o') : HOk P w (upd H x o') h' := fun b u q => by
  have nown : ∀ c y, H c = some (.own y) → c ≠ x := fun c y r z => by subst z; rw [r] at mu; exact mu
  have ntup : ∀ c xs, H c = some (.tup xs) → c ≠ x := fun c xs r z => by subst z; rw [r] at mu; exact mu
  by_cases hb : b = x
  · subst hb; rw [upd_same] at q; cases q; exact new
  · rw [upd_ne hb] at q
    by_cases hbe : b = e
    · have q' : H b = some (.own x) := by
        rcases he with z | z
        · exact absurd (hbe.trans z) hb
        · rw [hbe]; exact z
      rw [q] at q'; cases q'
      obtain ⟨v, hv⟩ := heo
      exact ⟨v, by rw [hbe]; exact hv⟩
    · refine (ok b u q).stay (fun c v hc r => k c v ?_ r) (fun c r => by rw [upd_ne (nown c b r)]; exact r) fun c xs r => by rw [upd_ne (ntup c xs r)]; exact r
      rcases hc with rfl | hc
      · exact hbe
      · rintro rfl
        rcases he with z | z
        · exact nown c b hc z
        · rw [hc] at z; cases z; exact hb rfl
end

structure Un (fs ex : List Addr) (H H' : Hp) (h h' : Heap) : Prop where
  keep : ∀ b o, h.get? b = some o → H b = none → b ∉ fs → b ∉ ex → h'.get? b = some o
  slot : ∀ b o, h.get? b = some o → H b = none → b ∈ fs → b ∉ ex → ∃ sl, h'.get? b = some { o with slots := sl }
  free : ∀ b o, h.get? b = some o → H b = none → b ∉ ex → H' b = none
  there : ∀ b o, h.get? b = some o → b ∉ ex → ∃ o', h'.get? b = some o'
  tups : ∀ b xs, H b = some (.tup xs) → H' b = some (.tup xs)
  frzs : ∀ b o u, H b = some (.frz o u) → H' b = some (.frz o u)
  tbls : ∀ b ps, H b = some (.tbl ps) → ∃ more, H' b = some (.tbl (ps ++ more))
section
variable {fs fs' ex ex' : List Addr} {H H1 H2 : Hp} {h h1 h2 h' : Heap} {a x e : Addr} {o : HO}
theorem Un.any (u : Un fs ex H H1 h h1) {b : Addr} {ob : Obj} (q : h.get? b = some ob) (n : H b = none) (hx : b ∉ ex) : ∃ sl, h1.get? b = some { ob with slots := sl } := by
  by_cases hb : b ∈ fs
  · exact u.slot b ob q n hb hx
  · exact ⟨ob.slots, u.keep b ob q n hb hx⟩
theorem Un.trans (a : Un fs ex H H1 h h1) (b : Un fs ex H1 H2 h1 h2) : Un fs ex H H2 h h2 where
  keep := fun c ob q n hc hx => b.keep c ob (a.keep c ob q n hc hx) (a.free c ob q n hx) hc hx
  slot := fun c ob q n hc hx => by
    obtain ⟨sl, e1⟩ := a.slot c ob q n hc hx
    obtain ⟨sl', e2⟩ := b.slot c _ e1 (a.free c ob q n hx) hc hx
    exact ⟨sl', e2⟩
  free := fun c ob q n hx => by
    obtain ⟨o', e1⟩ := a.there c ob q hx
    exact b.free c o' e1 (a.free c ob q n hx) hx
  there := fun c ob q hx => by
    obtain ⟨o', e1⟩ := a.there c ob q hx
    exact b.there c o' e1 hx
  tups := fun c xs q => b.tups c xs (a.tups c xs q)
  frzs := fun c ob xs q => b.frzs c ob xs (a.frzs c ob xs q)
  tbls := fun c ps q => by
    obtain ⟨m1, e1⟩ := a.tbls c ps q
    obtain ⟨m2, e2⟩ := b.tbls c _ e1
    exact ⟨m1 ++ m2, by rw [e2, Array.append_assoc]⟩
theorem Un.kept (k : ∀ b u, h.get? b = some u → h'.get? b = some u) : Un fs ex H H h h' :=
  ⟨fun b ob q _ _ _ => k b ob q, fun b ob q _ _ _ => ⟨ob.slots, k b ob q⟩, fun _ _ _ n _ => n, fun b ob q _ => ⟨ob, k b ob q⟩, fun _ _ q => q, fun _ _ _ q => q, fun _ ps q => ⟨#[], by rw [q]; simp⟩⟩
theorem Un.refl : Un fs ex H H h h := Un.kept fun _ _ q => q
theorem Un.laid (k : ∀ b u, h.get? b = some u → h'.get? b = some u) (hp : h.objs.size ≤ a) (hn : H a = none) : Un fs ex H (upd H a o) h h' where
  keep := fun b u q _ _ _ => k b u q
  slot := fun b u q _ _ _ => ⟨u.slots, k b u q⟩
  free := fun b u q n _ => by rw [upd_ne (Nat.ne_of_lt (Nat.lt_of_lt_of_le (Heap.lt_size q) hp))]; exact n
  there := fun b u q _ => ⟨u, k b u q⟩
  tups := fun b xs q => by rw [upd_ne (ne_of_none q hn)]; exact q
  frzs := fun b u xs q => by rw [upd_ne (ne_of_none q hn)]; exact q
  tbls := fun b ps q => ⟨#[], by rw [upd_ne (ne_of_none q hn), q]; simp⟩
theorem Un.write (mu : Mut (H x)) (he : e = x ∨ H e = some (.own x)) (k : ∀ b u, b ≠ e → h.get? b = some u → h'.get? b = some u) (heo : ∃ u, h'.get? e = some u) : Un fs ex H (upd H x o) h h' := by
  have hx : ∀ b, H b = none → b ≠ x := fun b n z => by subst z; rw [n] at mu; exact mu
  have hb : ∀ b, H b = none → b ≠ e := fun b n z => by
    subst z
    rcases he with r | r
    · exact hx b n r
    · rw [n] at r; cases r
  have hm : ∀ b u, H b = some u → ¬ Mut (some u) → b ≠ x := fun b u q nm z => by subst z; rw [q] at mu; exact nm mu
  refine ⟨fun b u q n _ _ => k b u (hb b n) q, fun b u q n _ _ => ⟨u.slots, k b u (hb b n) q⟩, fun b u q n _ => by rw [upd_ne (hx b n)]; exact n, fun b u q _ => ?_,
    fun b xs q => by rw [upd_ne (hm b _ q fun z => z)]; exact q, fun b u xs q => by rw [upd_ne (hm b _ q fun z => z)]; exact q, fun b ps q => ⟨#[], by rw [upd_ne (hm b _ q fun z => z), q]; simp⟩⟩
  by_cases hbe : b = e
  · subst hbe; exact heo
  · exact ⟨u, k b u hbe q⟩
theorem Un.mono (u : Un fs ex H H1 h h1) (hs : ∀ b ∈ fs, b ∈ fs') (hx : ∀ b ∈ ex, b ∈ ex') : Un fs' ex' H H1 h h1 :=
  ⟨fun b ob q n hb he => u.keep b ob q n (fun z => hb (hs b z)) fun z => he (hx b z), fun _ _ q n _ he => u.any q n fun z => he (hx _ z), fun b ob q n he => u.free b ob q n fun z => he (hx b z), fun b ob q he => u.there b ob q fun z => he (hx b z), u.tups, u.frzs, u.tbls⟩
end

def trk (h : Heap) (H : Hp) : List Addr := (List.range h.objs.size).filter fun a => (H a).isSome
def hidT (h : Heap) (H : Hp) : Heap := PySem.W.hideAll h (trk h H)
theorem hidT_size (h : Heap) (H : Hp) : (hidT h H).objs.size = h.objs.size := PySem.W.hideAll_size _ _
theorem hidT_get {h : Heap} {H : Hp} {b : Addr} {o : Obj} (e : h.get? b = some o) (n : H b = none) : (hidT h H).get? b = some o :=
  PySem.W.hideAll_get _ e fun hm => by
    have q : (H b).isSome = true := (List.mem_filter.mp hm).2
    rw [n] at q; simp at q
theorem of_hidT {h : Heap} {H : Hp} {b : Addr} {o : Obj} (e : (hidT h H).get? b = some o) : h.get? b = some o ∧ H b = none := by
  have e' : h.get? b = some o := PySem.W.of_hideAll (trk h H) e
  refine ⟨e', ?_⟩
  cases q : H b with
  | none => rfl
  | some x =>
    have hm : b ∈ trk h H := List.mem_filter.mpr ⟨List.mem_range.mpr (Heap.lt_size e'), by simp [q]⟩
    have z : (hidT h H).get? b = none := PySem.W.hideAll_none (trk h H) hm
    rw [z] at e; cases e

def allNews (g h : Heap) (L : Addr) : List (Addr × Obj) := (List.range h.objs.size).filterMap fun a => if a = L ∨ (g.get? a).isSome = true then none else (h.get? a).map fun o => (a, o)
theorem mem_allNews {g h : Heap} {L a : Addr} {o : Obj} (h1 : a ≠ L) (h2 : g.get? a = none) (h3 : h.get? a = some o) : (a, o) ∈ allNews g h L :=
  List.mem_filterMap.mpr ⟨a, List.mem_range.mpr (Heap.lt_size h3), by simp [h1, h2, h3]⟩
theorem of_mem_allNews {g h : Heap} {L : Addr} {p : Addr × Obj} (hp : p ∈ allNews g h L) : p.1 ≠ L ∧ g.get? p.1 = none ∧ h.get? p.1 = some p.2 := by
  obtain ⟨b, _, e⟩ := List.mem_filterMap.mp hp
  split at e
  · cases e
  · rename_i hn
    cases q : h.get? b with
    | none => rw [q] at e; simp at e
    | some u =>
      rw [q] at e
      simp only [Option.map_some, Option.some.injEq] at e
      subst e
      refine ⟨fun z => hn (.inl z), ?_, q⟩
      show g.get? b = none
      cases r : g.get? b with
      | none => rfl
      | some v => exact (hn (.inr (by simp [r]))).elim
def rest (g h : Heap) (L d : Addr) : List (Addr × Obj) := (allNews g h L).filter fun p => decide (p.1 ≠ d)
theorem rest_ne {g h : Heap} {L d : Addr} : ∀ p ∈ rest g h L d, p.1 ≠ d := fun p hp => of_decide_eq_true (List.mem_filter.mp hp).2
theorem mem_rest {g h : Heap} {L d a : Addr} {o : Obj} (h1 : a ≠ L) (h2 : g.get? a = none) (h3 : h.get? a = some o) (h4 : a ≠ d) : (a, o) ∈ rest g h L d :=
  List.mem_filter.mpr ⟨mem_allNews h1 h2 h3, decide_eq_true h4⟩
theorem news_all {g h : Heap} {L : Addr} : News g L h (allNews g h L) := fun p hp => let ⟨a, b, c⟩ := of_mem_allNews hp; ⟨c, a, b⟩
theorem news_at {g h : Heap} {L d : Addr} {o : Obj} (h1 : d ≠ L) (h2 : g.get? d = none) (h3 : h.get? d = some o) : News g L h ((d, o) :: rest g h L d) := fun p hp => by
  rcases List.mem_cons.mp hp with rfl | hp
  · exact ⟨h3, h1, h2⟩
  · exact news_all p (List.mem_filter.mp hp).1
theorem kept_of_news {g h h' : Heap} {L d : Addr} {m : Str → Option Value} (k : ∀ b o, g.get? b = some o → h.get? b = some o) (F : Fr g L h' m) (N : News g L h' (rest g h L d)) :
    ∀ b o, b ≠ L → b ≠ d → h.get? b = some o → h'.get? b = some o := fun b o h1 h2 e => by
  cases q : g.get? b with
  | some u =>
    have := k b u q
    rw [e] at this; cases this
    exact F.keep b _ q
  | none => exact (N (b, o) (mem_rest h1 q e h2)).1
end L2

namespace L2
open PySem PySem.Spec PyProof.Rows

structure Mod (K : PySem.W.Frag) (mg : Str → Option Value) (base : Heap) : Prop where
  kin : K.In base
  glob : base.Ns mainGlobals mg
  blt : ∃ mb, base.Ns builtinsNs mb ∧ ∀ x : Str, x ≠ "__name__" → mb x = bootBuiltins x
  nolimit : base.NoLimit

/-- the context: a def's body (or a comprehension's block) running. base: fixed through the whole law; s₀, H₀: the entry; outer: the frames whose slots others may change (a def's callers); stack: all frames that run;
   ex: iterators that were made ahead of the entry and are walked here (a comprehension's); fn: the names whose cells were made at the entry (a def: all; a comprehension's block: its own); calm: not within an except suite; pn: pins that every state bears; xe: what is wanted of an exception that leaves the code -/
structure Cx where
  prog : Program
  w : World
  K : PySem.W.Frag
  mg : Str → Option Value
  base : Heap
  A : Around
  N : List Str
  s₀ : Shared
  H₀ : Hp
  env : Env
  outer : List Env
  stack : List Env
  ex : List Addr
  fn : Str → Bool
  calm : Bool
  pn : List (Addr × Obj)
  xe : Value → Shared → Prop
def frs (l : List Env) : List Addr := l.filterMap (·.frame)
abbrev Cx.fs (X : Cx) : List Addr := frs X.outer

def Vis (sc : Scope) (x : Str) : Prop := sc.names.lookup x = some .local ∨ sc.names.lookup x = some .cell ∨ sc.names.lookup x = some .free
def Loc (sc : Scope) (x : Str) : Prop := sc.names.lookup x = some .local ∨ sc.names.lookup x = some .cell
def Look (env : Env) (h : Heap) (m : Str → Option Value) (x : Str) (u : Value) : Prop :=
  (env.kindOf x = some .local ∧ m x = some u) ∨ ((env.kindOf x = some .cell ∨ env.kindOf x = some .free) ∧ ∃ c, env.cells.lookup x = some c ∧ h.IsCell c (some u))

structure Cx.Ok (X : Cx) : Prop where
  mod : Mod X.K X.mg X.base
  kind : X.env.scope.kind = .function
  glob : X.env.globals = mainGlobals
  blt : X.env.builtins = builtinsNs
  above : X.s₀.heap.objs.size ≤ X.env.locals
  inj : ∀ x y c, X.env.cells.lookup x = some c → X.env.cells.lookup y = some c → x = y
  has : ∀ x, (X.env.kindOf x = some .cell ∨ X.env.kindOf x = some .free) → ∃ c, X.env.cells.lookup x = some c
  cab : ∀ x c, X.fn x = true → X.env.cells.lookup x = some c → X.s₀.heap.objs.size ≤ c
  hd : X.calm = true → X.A.handled = none
  frames : X.A.frames = some X.stack
  stk : X.stack = X.outer ∨ (X.stack = X.env :: X.outer ∧ X.env.frame = some X.env.locals)
  exf : ∀ b ∈ X.ex, b ≠ X.env.locals ∧ ∀ x c, X.env.cells.lookup x = some c → c ≠ b
  bs : ∀ b o, X.base.get? b = some o → X.s₀.heap.get? b = some o ∧ X.H₀ b = none
  bsz : X.base.objs.size ≤ X.s₀.heap.objs.size
  noex : ∀ b o, X.base.get? b = some o → b ∉ X.ex
  exfs : ∀ b ∈ X.ex, b ∉ X.fs
  funs : X.s₀.heap.FunFrames X.base X.outer
  frf : ∀ b ∈ X.fs, X.H₀ b = none

structure Inv (X : Cx) (pins : List (Addr × Obj)) (σ : List (Option V)) (H : Hp) (s : Shared) : Prop where
  ok : X.Ok
  os : s.os = X.s₀.os
  bare : AllBare s.gens
  base : Un X.fs X.ex X.H₀ H X.s₀.heap s.heap
  loc : ∃ m, s.heap.Ns X.env.locals m ∧ ∀ (i : Nat) (x : Str) (v : V), X.N[i]? = some x → σ[i]? = some (some v) → Vis X.env.scope x → ∃ u, RelV v u ∧ Look X.env s.heap m x u
  cell : ∀ x c, X.env.cells.lookup x = some c → ∃ v, s.heap.IsCell c v
  free : H X.env.locals = none
  freeC : ∀ x c, X.env.cells.lookup x = some c → H c = none
  pin : ∀ p ∈ X.pn ++ pins, s.heap.get? p.1 = some p.2 ∧ H p.1 = none ∧ p.1 ≠ X.env.locals ∧ p.1 ∉ X.fs ∧ ∀ v, p.2.data ≠ .cell v
  hok : HOk X.prog X.w H s.heap
  len : σ.length = X.N.length

section
variable {X : Cx} {pins : List (Addr × Obj)} {σ : List (Option V)} {H H' : Hp} {s : Shared} {h' : Heap}

theorem Cx.Ok.nofr (ok : X.Ok) {b : Addr} {o : Obj} (e : X.base.get? b = some o) : b ∉ X.fs := fun hb => by
  have := (ok.funs.mem hb).1
  rw [e] at this; cases this
theorem Inv.bs (I : Inv X pins σ H s) : ∀ b o, X.base.get? b = some o → s.heap.get? b = some o ∧ H b = none := fun b o e =>
  ⟨I.base.keep b o (I.ok.bs b o e).1 (I.ok.bs b o e).2 (I.ok.nofr e) (I.ok.noex b o e), I.base.free b o (I.ok.bs b o e).1 (I.ok.bs b o e).2 (I.ok.noex b o e)⟩
theorem Inv.bk (I : Inv X pins σ H s) : ∀ b o, X.base.get? b = some o → s.heap.get? b = some o := fun b o e => (I.bs b o e).1
theorem Inv.mod (I : Inv X pins σ H s) : Mod X.K X.mg X.base := I.ok.mod
theorem Inv.kIn (I : Inv X pins σ H s) : X.K.In s.heap := I.ok.mod.kin.keeps I.bk
theorem Inv.nolimit (I : Inv X pins σ H s) : s.heap.NoLimit := I.ok.mod.nolimit.keeps I.bk
theorem Inv.fr (I : Inv X pins σ H s) : ∃ m, Fr X.base X.env.locals s.heap m :=
  let ⟨m, hn, _⟩ := I.loc
  ⟨m, hn, I.bk, Nat.le_trans I.ok.bsz I.ok.above⟩
theorem Inv.lt (I : Inv X pins σ H s) : X.env.locals < s.heap.objs.size := let ⟨_, hn, _⟩ := I.loc; hn.lt
theorem Inv.sz (I : Inv X pins σ H s) : X.s₀.heap.objs.size ≤ s.heap.objs.size := Nat.le_trans I.ok.above (Nat.le_of_lt I.lt)
theorem Inv.nofs (I : Inv X pins σ H s) {a : Addr} (h : s.heap.objs.size ≤ a) : a ∉ X.fs := fun hb => by
  obtain ⟨_, o, ho, _⟩ := I.ok.funs.mem hb
  exact absurd (Nat.lt_of_lt_of_le (Heap.lt_size ho) (Nat.le_trans I.sz h)) (Nat.lt_irrefl _)
theorem Inv.cne (I : Inv X pins σ H s) : ∀ x c, X.env.cells.lookup x = some c → c ≠ X.env.locals := fun x c e z => by
  obtain ⟨v, o, ho, hd⟩ := I.cell x c e
  obtain ⟨m, ⟨o', es, ep, ho', hd', _⟩, _⟩ := I.loc
  rw [z, ho'] at ho; cases ho; rw [hd'] at hd; cases hd
theorem Inv.funs (I : Inv X pins σ H s) : s.heap.FunFrames X.base X.outer := by
  have all : ∀ (l : List Env), (∀ b ∈ frs l, b ∈ X.fs) → X.s₀.heap.FunFrames X.base l → s.heap.FunFrames X.base l := by
    intro l
    induction l with
    | nil => intro _ _; trivial
    | cons env r ih =>
      intro hs hl
      obtain ⟨hk, ⟨L, o, hf, hn, ho, hd⟩, hr⟩ := hl
      have hL : L ∈ X.fs := hs L (by unfold frs; rw [List.filterMap_cons, hf]; exact List.mem_cons_self)
      obtain ⟨sl, e⟩ := I.base.slot L o ho (I.ok.frf L hL) hL fun z => I.ok.exfs L z hL
      exact ⟨hk, ⟨L, _, hf, hn, e, hd⟩, ih (fun b hb => hs b (by unfold frs; rw [List.filterMap_cons, hf]; exact List.mem_cons_of_mem _ hb)) hr⟩
  exact all X.outer (fun _ hb => hb) I.ok.funs

theorem Inv.stack (I : Inv X pins σ H s) : s.heap.FunFrames X.base X.stack := by
  rcases I.ok.stk with e | ⟨e, hf⟩
  · rw [e]; exact I.funs
  · rw [e]
    obtain ⟨m, hn, _⟩ := I.loc
    refine .cons (by rw [I.ok.kind]; decide) hf hn ?_ I.funs
    exact Heap.get?_none_of_le (Nat.le_trans I.ok.bsz I.ok.above)
theorem Inv.stkSub (I : Inv X pins σ H s) : ∀ b ∈ frs X.stack, b ∈ X.env.locals :: X.fs := fun b hb => by
  rcases I.ok.stk with e | ⟨e, hf⟩
  · rw [e] at hb; exact List.mem_cons_of_mem _ hb
  · rw [e] at hb
    unfold frs at hb
    rw [List.filterMap_cons, hf] at hb
    exact hb
theorem Inv.stkFree (I : Inv X pins σ H s) : ∀ b ∈ frs X.stack, H b = none := fun b hb => by
  rcases List.mem_cons.mp (I.stkSub b hb) with e | hb
  · rw [e]; exact I.free
  · obtain ⟨_, o, ho, _⟩ := I.ok.funs.mem hb
    exact I.base.free b o ho (I.ok.frf b hb) fun z => I.ok.exfs b z hb

theorem Inv.step {g' : Array GenState} {t' : Nat} {d' : Drawn} {ch : List Addr} (I : Inv X pins σ H s)
    (hch : ∀ b ∈ ch, (b ∈ X.ex ∨ X.s₀.heap.objs.size ≤ b) ∧ b ≠ X.env.locals ∧ (∀ x c, X.env.cells.lookup x = some c → c ≠ b) ∧ ∀ p ∈ X.pn ++ pins, p.1 ≠ b)
    (keep : ∀ b o, b ≠ X.env.locals → b ∉ X.fs → b ∉ ch → s.heap.get? b = some o → H b = none → h'.get? b = some o)
    (slot : ∀ b o, b ≠ X.env.locals → b ∈ X.fs → b ∉ ch → s.heap.get? b = some o → H b = none → ∃ sl, h'.get? b = some { o with slots := sl }) (free : ∀ b o, b ∉ ch → s.heap.get? b = some o → H b = none → H' b = none)
    (there : ∀ b o, b ∉ ch → s.heap.get? b = some o → ∃ o', h'.get? b = some o')
    (tups : ∀ b xs, H b = some (.tup xs) → H' b = some (.tup xs)) (frzs : ∀ b o u, H b = some (.frz o u) → H' b = some (.frz o u)) (tbls : ∀ b ps, H b = some (.tbl ps) → ∃ more, H' b = some (.tbl (ps ++ more)))
    (ns : ∀ m, s.heap.Ns X.env.locals m → h'.Ns X.env.locals m) (hok : HOk X.prog X.w H' h') (hg : AllBare g') :
    Inv X pins σ H' { s with heap := h', gens := g', drawn := d', toks := t' } := by
  have neL : ∀ b o, X.s₀.heap.get? b = some o → b ≠ X.env.locals := fun b o e => Nat.ne_of_lt (Nat.lt_of_lt_of_le (Heap.lt_size e) I.ok.above)
  have neC : ∀ b o, X.s₀.heap.get? b = some o → b ∉ X.ex → b ∉ ch := fun b o e hx hb => by
    rcases (hch b hb).1 with z | z
    · exact hx z
    · exact absurd (Nat.lt_of_lt_of_le (Heap.lt_size e) z) (Nat.lt_irrefl _)
  have cellK : ∀ x c, X.env.cells.lookup x = some c → ∀ v, s.heap.IsCell c v → h'.IsCell c v := fun x c e v ⟨o, ho, hd⟩ => by
    have nch : c ∉ ch := fun z => (hch c z).2.2.1 x c e rfl
    by_cases hc : c ∈ X.fs
    · obtain ⟨sl, q⟩ := slot c o (I.cne x c e) hc nch ho (I.freeC x c e)
      exact ⟨_, q, hd⟩
    · exact ⟨o, keep c o (I.cne x c e) hc nch ho (I.freeC x c e), hd⟩
  refine ⟨I.ok, I.os, hg, ⟨fun b o e n hb hx => ?_, fun b o e n hb hx => ?_, fun b o e n hx => ?_, fun b o e hx => ?_, fun b xs e => tups b xs (I.base.tups b xs e), fun b o xs e => frzs b o xs (I.base.frzs b o xs e), fun b ps e => ?_⟩, ?_, fun x c e => ?_, ?_, fun x c e => ?_, fun p hp => ?_, hok, I.len⟩
  · exact keep b o (neL b o e) hb (neC b o e hx) (I.base.keep b o e n hb hx) (I.base.free b o e n hx)
  · obtain ⟨sl, e1⟩ := I.base.slot b o e n hb hx
    obtain ⟨sl', e2⟩ := slot b _ (neL b o e) hb (neC b o e hx) e1 (I.base.free b o e n hx)
    exact ⟨sl', e2⟩
  · obtain ⟨o', e1⟩ := I.base.there b o e hx
    exact free b o' (neC b o e hx) e1 (I.base.free b o e n hx)
  · obtain ⟨o', e1⟩ := I.base.there b o e hx
    exact there b o' (neC b o e hx) e1
  · obtain ⟨m1, e1⟩ := I.base.tbls b ps e
    obtain ⟨m2, e2⟩ := tbls b _ e1
    exact ⟨m1 ++ m2, by rw [e2, Array.append_assoc]⟩
  · obtain ⟨m, hn, hl⟩ := I.loc
    refine ⟨m, ns m hn, fun i x v e1 e2 e3 => ?_⟩
    obtain ⟨u, r, l⟩ := hl i x v e1 e2 e3
    refine ⟨u, r, ?_⟩
    rcases l with l | ⟨k, c, e, z⟩
    · exact .inl l
    · exact .inr ⟨k, c, e, cellK x c e _ z⟩
  · obtain ⟨v, z⟩ := I.cell x c e
    exact ⟨v, cellK x c e v z⟩
  · obtain ⟨m, ⟨o, _, _, ho, _⟩, _⟩ := I.loc
    exact free _ o (fun z => (hch _ z).2.1 rfl) ho I.free
  · obtain ⟨v, o, ho, hd⟩ := I.cell x c e
    exact free c o (fun z => (hch c z).2.2.1 x c e rfl) ho (I.freeC x c e)
  · obtain ⟨e, n, ne, nf, d⟩ := I.pin p hp
    have nch : p.1 ∉ ch := fun z => (hch p.1 z).2.2.2 p hp rfl
    exact ⟨keep p.1 p.2 ne nf nch e n, free p.1 p.2 nch e n, ne, nf, d⟩
theorem Inv.un {t' : Nat} (I : Inv X pins σ H s) (u : Un X.fs [] H H' s.heap h') (hok : HOk X.prog X.w H' h') : Inv X pins σ H' { s with heap := h', toks := t' } := by
  obtain ⟨m, ⟨o, es, ep, ho, r⟩, _⟩ := id I.loc
  obtain ⟨sl, hL⟩ := u.any ho I.free (by simp)
  exact I.step (g' := s.gens) (d' := s.drawn) (ch := []) (fun _ z => nomatch z) (fun b o _ hb _ e n => u.keep b o e n hb (by simp)) (fun b o _ hb _ e n => u.slot b o e n hb (by simp)) (fun b o _ e n => u.free b o e n (by simp)) (fun b o _ e => u.there b o e (by simp)) u.tups u.frzs u.tbls (fun m' hm => by
    obtain ⟨o', es', ep', ho', r'⟩ := hm
    rw [ho] at ho'; cases ho'
    exact ⟨_, es', ep', hL, r'⟩) hok I.bare
theorem Inv.call {g' : Array GenState} {t' : Nat} {d' : Drawn} {ch : List Addr} (I : Inv X pins σ H s) (u : Un (frs X.stack) ch H H' s.heap h') (hok : HOk X.prog X.w H' h') (hg : AllBare g')
    (hch : ∀ b ∈ ch, (b ∈ X.ex ∨ X.s₀.heap.objs.size ≤ b) ∧ b ≠ X.env.locals ∧ (∀ x c, X.env.cells.lookup x = some c → c ≠ b) ∧ ∀ p ∈ X.pn ++ pins, p.1 ≠ b) :
    Inv X pins σ H' { s with heap := h', gens := g', drawn := d', toks := t' } := by
  obtain ⟨m, ⟨o, es, ep, ho, r⟩, _⟩ := id I.loc
  obtain ⟨sl, hL⟩ := u.any ho I.free fun z => (hch _ z).2.1 rfl
  exact I.step (ch := ch) hch (fun b o hL hb hc e n => u.keep b o e n (fun z => (List.mem_cons.mp (I.stkSub b z)).elim hL hb) hc) (fun b o _ _ hc e n => u.any e n hc) (fun b o hc e n => u.free b o e n hc) (fun b o hc e => u.there b o e hc) u.tups u.frzs u.tbls (fun m' hm => by
    obtain ⟨o', es', ep', ho', r'⟩ := hm
    rw [ho] at ho'; cases ho'
    exact ⟨_, es', ep', hL, r'⟩) hok hg
theorem Inv.turned {t' : Nat} {it : Addr} (I : Inv X pins σ H s) (k : ∀ b o, b ≠ it → s.heap.get? b = some o → h'.get? b = some o) (hn : H it = none) (hL : it ≠ X.env.locals)
    (h1 : it ∈ X.ex ∨ X.s₀.heap.objs.size ≤ it) (h2 : ∀ x c, X.env.cells.lookup x = some c → c ≠ it) (h3 : ∀ p ∈ X.pn ++ pins, p.1 ≠ it) : Inv X pins σ H { s with heap := h', toks := t' } := by
  have nit : ∀ b u, H b = some u → b ≠ it := fun b u e z => by rw [z, hn] at e; cases e
  refine I.step (g' := s.gens) (d' := s.drawn) (ch := [it]) (fun b hb => ?_) (fun b o _ _ hc e _ => k b o (fun z => hc (by simp [z])) e) (fun b o _ _ hc e _ => ⟨o.slots, k b o (fun z => hc (by simp [z])) e⟩) (fun _ _ _ _ n => n)
    (fun b o hc e => ⟨o, k b o (fun z => hc (by simp [z])) e⟩) (fun _ _ e => e) (fun _ _ _ e => e) (fun b ps e => ⟨#[], by rw [e]; simp⟩) (fun m hm => ?_) (fun b u e => ?_) I.bare
  · have e : b = it := by simpa using hb
    subst e
    exact ⟨h1, hL, h2, h3⟩
  · obtain ⟨o, es, ep, ho, r⟩ := hm
    exact ⟨o, es, ep, k _ o (Ne.symm hL) ho, r⟩
  · refine (I.hok b u e).stay (fun c v hc q => k c v ?_ q) (fun _ q => q) fun _ _ q => q
    rcases hc with z | z
    · rw [z]; exact nit b u e
    · exact nit c _ z
theorem Inv.tok (I : Inv X pins σ H s) (t : Nat) : Inv X pins σ H { s with toks := t } := I.un (h' := s.heap) (t' := t) Un.refl I.hok
theorem Inv.kept {t' : Nat} (I : Inv X pins σ H s) (k : ∀ b u, s.heap.get? b = some u → h'.get? b = some u) : Inv X pins σ H { s with heap := h', toks := t' } := I.un (Un.kept k) (I.hok.kept k)
theorem Inv.laid {a : Addr} {o : HO} {t' : Nat} (I : Inv X pins σ H s) (k : ∀ b u, s.heap.get? b = some u → h'.get? b = some u) (hp : s.heap.objs.size ≤ a) (new : ObjOk X.prog X.w (upd H a o) h' a o) :
    Inv X pins σ (upd H a o) { s with heap := h', toks := t' } := I.un (Un.laid k hp (I.hok.fresh hp)) (I.hok.laid k hp new)
theorem Inv.write {x e : Addr} {o : HO} {t' : Nat} (I : Inv X pins σ H s) (mu : Mut (H x)) (he : e = x ∨ H e = some (.own x)) (k : ∀ b u, b ≠ e → s.heap.get? b = some u → h'.get? b = some u) (heo : ∃ u, h'.get? e = some u)
    (new : ObjOk X.prog X.w (upd H x o) h' x o) : Inv X pins σ (upd H x o) { s with heap := h', toks := t' } := I.un (Un.write mu he k heo) (I.hok.write mu he k heo new)
theorem Inv.weak {σ' : List (Option V)} (I : Inv X pins σ H s) (hl : σ'.length = σ.length) (w : ∀ (i : Nat) v, σ'[i]? = some (some v) → σ[i]? = some (some v)) : Inv X pins σ' H s :=
  ⟨I.ok, I.os, I.bare, I.base, let ⟨m, hn, hl'⟩ := I.loc; ⟨m, hn, fun i x v e1 e2 e3 => hl' i x v e1 (w i v e2) e3⟩, I.cell, I.free, I.freeC, I.pin, I.hok, hl.trans I.len⟩
theorem Inv.pins_of {pins' : List (Addr × Obj)} (I : Inv X pins σ H s) (h : ∀ p ∈ pins', s.heap.get? p.1 = some p.2 ∧ H p.1 = none ∧ p.1 ≠ X.env.locals ∧ p.1 ∉ X.fs ∧ ∀ v, p.2.data ≠ .cell v) : Inv X pins' σ H s :=
  ⟨I.ok, I.os, I.bare, I.base, I.loc, I.cell, I.free, I.freeC, fun p hp => (List.mem_append.mp hp).elim (fun z => I.pin p (List.mem_append_left _ z)) (h p), I.hok, I.len⟩

theorem nodup_ix {N : List Str} (hN : N.Nodup) {i j : Nat} {x : Str} (a : N[i]? = some x) (b : N[j]? = some x) : i = j := by
  obtain ⟨h1, e1⟩ := List.getElem?_eq_some_iff.mp a
  obtain ⟨h2, e2⟩ := List.getElem?_eq_some_iff.mp b
  exact (List.getElem_inj hN).mp (e1.trans e2.symm)

theorem store_ok2 {M : Model} {A : Around} {E : Value → Shared → Prop} {i : Nat} {x : Str} {v : V} {u : Value} {Q : Unit → Shared → Prop} (I : Inv X pins σ H s) (hN : X.N.Nodup) (hi : X.N[i]? = some x) (hx : Loc X.env.scope x) (r : RelV v u)
    (h : ∀ s', Inv X pins (σ.set i (some v)) H s' → (∃ a, Heap.SameBut a s.heap s'.heap ∧ (a = X.env.locals ∨ X.env.cells.lookup x = some a)) → Q () s') (hf : X.fn x = true ∨ X.env.scope.names.lookup x = some .local := by first | exact .inl rfl | exact .inr rfl | assumption) : wpAny M A (storeName X.env x u) Q E s := by
  obtain ⟨m, hn, hl⟩ := id I.loc
  have hcls : (X.env.scope.kind == .class || (X.env.scope.kind == .module && X.env.locals != X.env.globals)) = false := by rw [I.ok.kind]; rfl
  have hiσ : i < σ.length := by rw [I.len]; exact (List.getElem?_eq_some_iff.mp hi).1
  have cne := I.cne
  have tracked : ∀ {a : Addr} {h' : Heap}, (∃ o, s.heap.get? a = some o ∧ H a = none) → Heap.SameBut a s.heap h' → HOk X.prog X.w H h' := fun {a h'} ha hs b ob e => by
    obtain ⟨_, _, hfree⟩ := ha
    refine (I.hok b ob e).stay (fun c w' hc q => (hs.2 c ?_).trans q) (fun _ q => q) fun _ _ q => q
    rintro rfl
    rcases hc with rfl | hc
    · rw [hfree] at e; cases e
    · rw [hfree] at hc; cases hc
  rcases hx with hk | hk
  · refine wpAny_storeName_local hk hn (fun h' hn' hs => ?_) hcls
    obtain ⟨oL, _, _, hoL, _⟩ := id hn
    refine h _ ⟨I.ok, I.os, I.bare, ⟨fun b o e n hb hx => ?_, fun b o e n hb hx => ?_, I.base.free, fun b o e hx => ?_, I.base.tups, I.base.frzs, I.base.tbls⟩, ⟨_, hn', fun j y v' e1 e2 e3 => ?_⟩, fun y c e => ?_, I.free, I.freeC, fun p hp => ?_, tracked ⟨oL, hoL, I.free⟩ hs, by simpa using I.len⟩ ⟨_, hs, .inl rfl⟩
    · exact (hs.2 b (Nat.ne_of_lt (Nat.lt_of_lt_of_le (Heap.lt_size e) I.ok.above))).trans (I.base.keep b o e n hb hx)
    · obtain ⟨sl, e1⟩ := I.base.slot b o e n hb hx
      exact ⟨sl, (hs.2 b (Nat.ne_of_lt (Nat.lt_of_lt_of_le (Heap.lt_size e) I.ok.above))).trans e1⟩
    · obtain ⟨o', e1⟩ := I.base.there b o e hx
      exact ⟨o', (hs.2 b (Nat.ne_of_lt (Nat.lt_of_lt_of_le (Heap.lt_size e) I.ok.above))).trans e1⟩
    · by_cases hj : j = i
      · subst hj
        rw [hi] at e1; cases e1
        rw [List.getElem?_set_self hiσ] at e2
        cases e2
        exact ⟨u, r, .inl ⟨hk, by simp⟩⟩
      · rw [List.getElem?_set_ne (Ne.symm hj)] at e2
        obtain ⟨u', r', q⟩ := hl j y v' e1 e2 e3
        refine ⟨u', r', ?_⟩
        rcases q with ⟨k, e⟩ | ⟨k, c, e, z⟩
        · refine .inl ⟨k, ?_⟩
          have : y ≠ x := fun e => hj (nodup_ix hN e1 (e ▸ hi))
          simp [this, e]
        · exact .inr ⟨k, c, e, z.sameBut hs (cne y c e)⟩
    · obtain ⟨w', z⟩ := I.cell y c e
      exact ⟨w', z.sameBut hs (cne y c e)⟩
    · obtain ⟨e, n, ne, nf, d⟩ := I.pin p hp
      exact ⟨(hs.2 p.1 ne).trans e, n, ne, nf, d⟩
  · have hfn : X.fn x = true := by
      rcases hf with z | z
      · exact z
      · rw [z] at hk; cases hk
    obtain ⟨c, hc⟩ := I.ok.has x (.inl hk)
    obtain ⟨w', z⟩ := I.cell x c hc
    refine wpAny_storeName_cell I.ok.kind hk hc z (fun h' hc' hs => ?_)
    obtain ⟨oc, hoc, hocd⟩ := id z
    refine h { s with heap := h' } ⟨I.ok, I.os, I.bare, ⟨fun b o e n hb hx => ?_, fun b o e n hb hx => ?_, I.base.free, fun b o e hx => ?_, I.base.tups, I.base.frzs, I.base.tbls⟩, ⟨m, hn.sameBut hs (Ne.symm (cne x c hc)), fun j y v' e1 e2 e3 => ?_⟩, fun y c' e => ?_, I.free, I.freeC, fun p hp => ?_, tracked ⟨oc, hoc, I.freeC x c hc⟩ hs, by simpa using I.len⟩ ⟨c, hs, .inr hc⟩
    · exact (hs.2 b (Nat.ne_of_lt (Nat.lt_of_lt_of_le (Heap.lt_size e) (I.ok.cab x c hfn hc)))).trans (I.base.keep b o e n hb hx)
    · obtain ⟨sl, e1⟩ := I.base.slot b o e n hb hx
      exact ⟨sl, (hs.2 b (Nat.ne_of_lt (Nat.lt_of_lt_of_le (Heap.lt_size e) (I.ok.cab x c hfn hc)))).trans e1⟩
    · obtain ⟨o', e1⟩ := I.base.there b o e hx
      exact ⟨o', (hs.2 b (Nat.ne_of_lt (Nat.lt_of_lt_of_le (Heap.lt_size e) (I.ok.cab x c hfn hc)))).trans e1⟩
    · by_cases hj : j = i
      · subst hj
        rw [hi] at e1; cases e1
        rw [List.getElem?_set_self hiσ] at e2
        cases e2
        exact ⟨u, r, .inr ⟨.inl hk, c, hc, hc'⟩⟩
      · rw [List.getElem?_set_ne (Ne.symm hj)] at e2
        obtain ⟨u', r', q⟩ := hl j y v' e1 e2 e3
        refine ⟨u', r', ?_⟩
        rcases q with q | ⟨k, c', e, z'⟩
        · exact .inl q
        · refine .inr ⟨k, c', e, z'.sameBut hs ?_⟩
          rintro rfl
          exact hj (nodup_ix hN e1 (I.ok.inj _ _ _ e hc ▸ hi))
    · by_cases hcc : c' = c
      · subst hcc; exact ⟨_, hc'⟩
      · obtain ⟨w2, z2⟩ := I.cell y c' e
        exact ⟨w2, z2.sameBut hs hcc⟩
    · obtain ⟨e, n, ne, nf, d⟩ := I.pin p hp
      refine ⟨(hs.2 p.1 ?_).trans e, n, ne, nf, d⟩
      intro q
      rw [q, hoc] at e
      have q' : oc = p.2 := Option.some.inj e
      exact d w' (by rw [← q']; exact hocd)
theorem store_ok {M : Model} {A : Around} {E : Value → Shared → Prop} {i : Nat} {x : Str} {v : V} {u : Value} {Q : Unit → Shared → Prop} (I : Inv X pins σ H s) (hN : X.N.Nodup) (hi : X.N[i]? = some x) (hx : Loc X.env.scope x) (r : RelV v u)
    (h : ∀ s', Inv X pins (σ.set i (some v)) H s' → Q () s') (hf : X.fn x = true ∨ X.env.scope.names.lookup x = some .local := by first | exact .inl rfl | exact .inr rfl | assumption) : wpAny M A (storeName X.env x u) Q E s :=
  store_ok2 I hN hi hx r (fun s' I' _ => h s' I') hf
theorem Inv.call' {s' : Shared} {ch : List Addr} (I : Inv X pins σ H s) (ho : s'.os = s.os) (u : Un (frs X.stack) ch H H' s.heap s'.heap) (hok : HOk X.prog X.w H' s'.heap) (hg : AllBare s'.gens)
    (hch : ∀ b ∈ ch, (b ∈ X.ex ∨ X.s₀.heap.objs.size ≤ b) ∧ b ≠ X.env.locals ∧ (∀ x c, X.env.cells.lookup x = some c → c ≠ b) ∧ ∀ p ∈ X.pn ++ pins, p.1 ≠ b) : Inv X pins σ H' s' := by
  obtain ⟨h', g', d', t', o'⟩ := s'
  have e : o' = s.os := ho
  subst e
  exact I.call (g' := g') (t' := t') (d' := d') u hok hg hch
end

abbrev XK := Value → Option Addr → Hp → Prop
abbrev St := List (Option V)
abbrev VK := V → Hp → Prop
abbrev TE := St → Hp → VK → Prop
abbrev TT := St → Hp → (Bool → Hp → Prop) → Prop
abbrev TA := St → Hp → (List V → Hp → Prop) → Prop
structure Ends where
  nx : St → Hp → Prop
  rt : VK
  bk : St → Hp → Prop := fun _ _ => False
  ct : St → Hp → Prop := fun _ _ => False
abbrev TS := Ends → St → Hp → Prop

def EP (X : Cx) (pins : List (Addr × Obj)) (σ : St) (Q : VK) (u : Value) (s' : Shared) : Prop := ∃ v H', Inv X pins σ H' s' ∧ RelV v u ∧ Q v H'
def TP (X : Cx) (pins : List (Addr × Obj)) (σ : St) (Q : Bool → Hp → Prop) (b : Bool) (s' : Shared) : Prop := ∃ H', Inv X pins σ H' s' ∧ Q b H'
def AP (X : Cx) (pins : List (Addr × Obj)) (σ : St) (Q : List V → Hp → Prop) (us : List Value) (s' : Shared) : Prop := ∃ vs H', Inv X pins σ H' s' ∧ Vals vs us ∧ Q vs H'
def SP (X : Cx) (pins : List (Addr × Obj)) (D : Ends) (f : Flow) (s' : Shared) : Prop :=
  match f with
  | .next => ∃ σ' H', Inv X pins σ' H' s' ∧ D.nx σ' H'
  | .brk => ∃ σ' H', Inv X pins σ' H' s' ∧ D.bk σ' H'
  | .cont => ∃ σ' H', Inv X pins σ' H' s' ∧ D.ct σ' H'
  | .ret u => ∃ v σ' H', Inv X pins σ' H' s' ∧ RelV v u ∧ D.rt v H'

def PE (X : Cx) (e : Expr) (t : TE) : Prop :=
  ∀ (pins : List (Addr × Obj)) (s : Shared) (σ : St) (H : Hp) (Q : VK), Inv X pins σ H s → t σ H Q → wpAny (model X.prog X.w) X.A (eval e X.env) (EP X pins σ Q) X.xe s
def PT (X : Cx) (e : Expr) (t : TT) : Prop :=
  ∀ (pins : List (Addr × Obj)) (s : Shared) (σ : St) (H : Hp) (Q : Bool → Hp → Prop), Inv X pins σ H s → t σ H Q → wpAny (model X.prog X.w) X.A (isTrue e X.env (eval e X.env)) (TP X pins σ Q) X.xe s
def PW (X : Cx) (e : Expr) (t : TT) : Prop :=
  ∀ (whole : Sem Value) (pins : List (Addr × Obj)) (s : Shared) (σ : St) (H : Hp) (Q : Bool → Hp → Prop), Inv X pins σ H s → t σ H Q → wpAny (model X.prog X.w) X.A (isTrue e X.env whole) (TP X pins σ Q) X.xe s
theorem PW.pt {X : Cx} {e : Expr} {t : TT} (h : PW X e t) : PT X e t := h _
def PA (X : Cx) (es : List Expr) (t : TA) : Prop :=
  ∀ (pos : Pos) (pins : List (Addr × Obj)) (s : Shared) (σ : St) (H : Hp) (Q : List V → Hp → Prop), Inv X pins σ H s → t σ H Q → wpAny (model X.prog X.w) X.A (spliced (backTo pos (starEach es X.env))) (AP X pins σ Q) X.xe s
def PS (X : Cx) (st : Stmt) (t : TS) : Prop :=
  ∀ (pins : List (Addr × Obj)) (s : Shared) (σ : St) (H : Hp) (D : Ends), Inv X pins σ H s → t D σ H → wpAny (model X.prog X.w) X.A (exec st X.env) (SP X pins D) X.xe s
def PSs (X : Cx) (st : List Stmt) (t : TS) : Prop :=
  ∀ (pins : List (Addr × Obj)) (s : Shared) (σ : St) (H : Hp) (D : Ends), Inv X pins σ H s → t D σ H → wpAny (model X.prog X.w) X.A (execs st X.env) (SP X pins D) X.xe s
theorem thn {α : Type} {t : Sem α} {Q Q' : α → Shared → Prop} {M : Model} {A : Around} {E : Value → Shared → Prop} {s : Shared} (h : wpAny M A t Q E s) (hQ : ∀ a s, Q a s → Q' a s) : wpAny M A t Q' E s := wpAny_mono h hQ fun _ _ x => x
end L2

namespace L2
open PySem PySem.Spec PyProof.Rows
section
variable {X : Cx}

theorem bin {a b : Expr} {ta tb : TE} (ha : PE X a ta) (hb : PE X b tb) {pins : List (Addr × Obj)} {s : Shared} {σ : St} {H : Hp} {R : V → V → Hp → Prop} (I : Inv X pins σ H s) (h : ta σ H fun x H1 => tb σ H1 fun y H2 => R x y H2)
    {α : Type} {Q : α → Shared → Prop} {f : Value → Value → Sem α}
    (hf : ∀ v u s2 x y H2, Inv X pins σ H2 s2 → RelV x v → RelV y u → R x y H2 → wpAny (model X.prog X.w) X.A (f v u) Q X.xe s2) :
    wpAny (model X.prog X.w) X.A (eval a X.env) (fun v s₁ => wpAny (model X.prog X.w) X.A (eval b X.env) (fun u s₂ => wpAny (model X.prog X.w) X.A (f v u) Q X.xe s₂) X.xe s₁) X.xe s := by
  refine thn (ha pins s σ H _ I h) fun v s1 ⟨x, H1, I1, r1, q1⟩ => ?_
  refine thn (hb pins s1 σ H1 _ I1 q1) fun u s2 ⟨y, H2, I2, r2, q2⟩ => ?_
  exact hf v u s2 x y H2 I2 r1 r2 q2

def tVar (i : Nat) : TE := fun σ H Q => ∃ v, σ[i]? = some (some v) ∧ Q v H
def tC (v : V) : TE := fun _ H Q => Q v H
theorem pe_var {i : Nat} {x : Str} {pos : Pos} (hN : X.N[i]? = some x) (hv : Vis X.env.scope x) (hd : (x == ("__debug__" : Str)) = false := by decide) (hcd : (x == ("__classdict__" : Str)) = false := by decide) : PE X (.Name x pos) (tVar i) := by
  intro pins s σ H Q I h
  obtain ⟨v, e, h⟩ := h
  obtain ⟨m, hn, hl⟩ := I.loc
  obtain ⟨u, r, l⟩ := hl i x v hN e hv
  have fin : EP X pins σ Q u s := ⟨v, H, I, r, h⟩
  rcases l with ⟨hk, hm⟩ | ⟨hk, c, hc, hcell⟩
  · exact wpAny_Name (wpAny_loadName_local I.ok.kind hk hn hm fin) hd
  · rcases hk with hk | hk
    · exact wpAny_Name (wpAny_loadName_cell I.ok.kind hk hc hcell fin) hd
    · exact wpAny_Name (wpAny_loadName_free I.ok.kind hk hc hcell fin hcd) hd
theorem pe_int {i j pos} : PE X (.Constant (.int i) j pos) (tC (.int i)) := fun _ _ _ H _ I h => wpAny_Constant_int ⟨.int i, H, I.tok _, ⟨_, rfl⟩, h⟩
theorem pe_bl {b j pos} : PE X (.Constant (.bool b) j pos) (tC (.bl b)) := fun _ _ _ H _ I h => Constant_bool ⟨.bl b, H, I, rfl, h⟩
theorem pe_non {j pos} : PE X (.Constant .none j pos) (tC .non) := fun _ _ _ H _ I h => Constant_none ⟨.non, H, I, rfl, h⟩
theorem pe_str {x j pos} : PE X (.Constant (.str x) j pos) (tC (.str x)) := fun _ _ _ H _ I h => Calls.Constant_str ⟨.str x, H, I.tok _, ⟨_, rfl⟩, h⟩

def Gl (X : Cx) (x : Str) : Prop := X.env.kindOf x = some .globalImplicit
theorem ld_glob {E : Value → Shared → Prop} {pins : List (Addr × Obj)} {s : Shared} {σ : St} {H : Hp} {x : Str} {u : Value} {pos : Pos} {Q : Value → Shared → Prop} (I : Inv X pins σ H s) (hg : Gl X x) (hm : X.mg x = some u) (h : Q u s)
    (hd : (x == ("__debug__" : Str)) = false := by decide) : wpAny (model X.prog X.w) X.A (eval (.Name x pos) X.env) Q E s :=
  Calls.Name_function_global I.ok.kind hg (Calls.loadGlobal_global (by rw [I.ok.glob]; exact I.mod.glob.keeps I.bk) hm h) hd
theorem ld_blt {E : Value → Shared → Prop} {pins : List (Addr × Obj)} {s : Shared} {σ : St} {H : Hp} {x : Str} {u : Value} {pos : Pos} {Q : Value → Shared → Prop} (I : Inv X pins σ H s) (hg : Gl X x) (hm : X.mg x = none) (hv : bootBuiltins x = some u) (h : Q u s)
    (hn : x ≠ "__name__" := by decide) (hd : (x == ("__debug__" : Str)) = false := by decide) : wpAny (model X.prog X.w) X.A (eval (.Name x pos) X.env) Q E s := by
  obtain ⟨mb, h1, h2⟩ := I.mod.blt
  exact Calls.Name_function_global I.ok.kind hg (Calls.loadGlobal_builtin (by rw [I.ok.glob]; exact I.mod.glob.keeps I.bk) hm (by rw [I.ok.blt]; exact h1.keeps I.bk) ((h2 x hn).trans hv) h) hd
theorem pe_glob {x : Str} {v : V} {u : Value} {pos : Pos} (hg : Gl X x) (hm : X.mg x = some u) (r : RelV v u) (hd : (x == ("__debug__" : Str)) = false := by decide) : PE X (.Name x pos) (tC v) :=
  fun _ _ _ H _ I h => ld_glob I hg hm ⟨v, H, I, r, h⟩ hd
theorem pe_bltn {x : Str} {v : V} {u : Value} {pos : Pos} (hg : Gl X x) (hm : X.mg x = none) (hv : bootBuiltins x = some u) (r : RelV v u) (hn : x ≠ "__name__" := by decide) (hd : (x == ("__debug__" : Str)) = false := by decide) : PE X (.Name x pos) (tC v) :=
  fun _ _ _ H _ I h => ld_blt I hg hm hv ⟨v, H, I, r, h⟩ hn hd

def t2I (ta tb : TE) (k : Int → Int → Hp → Prop) : St → Hp → Prop := fun σ H => ta σ H fun x H1 => tb σ H1 fun y H2 => ∃ i j, x = .int i ∧ y = .int j ∧ k i j H2
def tAdd (ta tb : TE) : TE := fun σ H Q => t2I ta tb (fun i j H2 => Q (.int (i + j)) H2) σ H
def tSub (ta tb : TE) : TE := fun σ H Q => t2I ta tb (fun i j H2 => Q (.int (i - j)) H2) σ H
def tMul (ta tb : TE) : TE := fun σ H Q => t2I ta tb (fun i j H2 => (-(2 ^ 64) < i ∧ i < 2 ^ 64) ∧ Q (.int (i * j)) H2) σ H
variable {a b : Expr} {ta tb : TE} {pos : Pos}
theorem pe_add (ha : PE X a ta) (hb : PE X b tb) : PE X (.BinOp a .Add b pos) (tAdd ta tb) := by
  intro pins s σ H Q I h
  refine wpAny_BinOp (bin ha hb I h fun v u s2 x y H2 I2 rx ry q => ?_)
  obtain ⟨i, j, rfl, rfl, q⟩ := q
  obtain ⟨t, rfl⟩ := rx
  obtain ⟨t', rfl⟩ := ry
  exact add_int ⟨.int _, H2, I2.tok _, ⟨_, rfl⟩, q⟩
theorem pe_sub (ha : PE X a ta) (hb : PE X b tb) : PE X (.BinOp a .Sub b pos) (tSub ta tb) := by
  intro pins s σ H Q I h
  refine wpAny_BinOp (bin ha hb I h fun v u s2 x y H2 I2 rx ry q => ?_)
  obtain ⟨i, j, rfl, rfl, q⟩ := q
  obtain ⟨t, rfl⟩ := rx
  obtain ⟨t', rfl⟩ := ry
  exact sub_int ⟨.int _, H2, I2.tok _, ⟨_, rfl⟩, q⟩
theorem pe_mul (ha : PE X a ta) (hb : PE X b tb) : PE X (.BinOp a .Mult b pos) (tMul ta tb) := by
  intro pins s σ H Q I h
  refine wpAny_BinOp (bin ha hb I h fun v u s2 x y H2 I2 rx ry q => ?_)
  obtain ⟨i, j, rfl, rfl, ⟨q1, q2⟩, q⟩ := q
  obtain ⟨t, rfl⟩ := rx
  obtain ⟨t', rfl⟩ := ry
  exact mul_int ⟨.int _, H2, I2.tok _, ⟨_, rfl⟩, q⟩ (.of_left (intBits_le_64 q1 q2))

def PC (X : Cx) (op : CmpOp) (a b : Expr) (t : TE) : Prop :=
  ∀ (pins : List (Addr × Obj)) (s : Shared) (σ : St) (H : Hp) (Q : VK), Inv X pins σ H s → t σ H Q →
    wpAny (model X.prog X.w) X.A (eval a X.env) (fun v s₁ => wpAny (model X.prog X.w) X.A (eval b X.env) (fun u s₂ => wpAny (model X.prog X.w) X.A (compareOp op v u) (EP X pins σ Q) X.xe s₂) X.xe s₁) X.xe s
theorem nobehind (b : Expr) {op : CmpOp} (h : op ≠ .In) (h2 : op ≠ .NotIn) : behindInMarks op b = false := by
  have e1 : (op == CmpOp.In) = false := by cases op <;> first | rfl | exact absurd rfl h
  have e2 : (op == CmpOp.NotIn) = false := by cases op <;> first | rfl | exact absurd rfl h2
  cases b <;> simp [behindInMarks, e1, e2]
def tCmp (p : Int → Int → Bool) (ta tb : TE) : TE := fun σ H Q => t2I ta tb (fun i j H2 => Q (.bl (p i j)) H2) σ H
abbrev tLt : TE → TE → TE := tCmp fun i j => decide (i < j)
abbrev tLe : TE → TE → TE := tCmp fun i j => decide (i ≤ j)
abbrev tGt : TE → TE → TE := tCmp fun i j => decide (j < i)
abbrev tGe : TE → TE → TE := tCmp fun i j => decide (j ≤ i)
abbrev tEqI : TE → TE → TE := tCmp fun i j => decide (i = j)
abbrev tNeI : TE → TE → TE := tCmp fun i j => !decide (i = j)
theorem pc_int {op : CmpOp} {p : Int → Int → Bool} (ha : PE X a ta) (hb : PE X b tb)
    (rule : ∀ (i j : Int) (t u : Tok) (Q : Value → Shared → Prop) (s : Shared), Q (.bool (p i j)) s → wpAny (model X.prog X.w) X.A (compareOp op (.int i t) (.int j u)) Q X.xe s) : PC X op a b (tCmp p ta tb) := by
  intro pins s σ H Q I h
  refine bin ha hb I h fun v u s2 x y H2 I2 rx ry q => ?_
  obtain ⟨i, j, rfl, rfl, q⟩ := q
  obtain ⟨t, rfl⟩ := rx
  obtain ⟨t', rfl⟩ := ry
  exact rule i j t t' _ s2 ⟨.bl _, H2, I2, rfl, q⟩
theorem pc_lt (ha : PE X a ta) (hb : PE X b tb) : PC X .Lt a b (tLt ta tb) := pc_int ha hb fun _ _ _ _ _ _ h => lt_int h
theorem pc_le (ha : PE X a ta) (hb : PE X b tb) : PC X .LtE a b (tLe ta tb) := pc_int ha hb fun _ _ _ _ _ _ h => le_int h
theorem pc_gt (ha : PE X a ta) (hb : PE X b tb) : PC X .Gt a b (tGt ta tb) := pc_int ha hb fun _ _ _ _ _ _ h => gt_int h
theorem pc_ge (ha : PE X a ta) (hb : PE X b tb) : PC X .GtE a b (tGe ta tb) := pc_int ha hb fun _ _ _ _ _ _ h => ge_int h
theorem pc_eqI (ha : PE X a ta) (hb : PE X b tb) : PC X .Eq a b (tEqI ta tb) := pc_int ha hb fun _ _ _ _ _ _ h => eq_int (by rw [Bool.beq_eq_decide_eq]; exact h)
theorem pc_neI (ha : PE X a ta) (hb : PE X b tb) : PC X .NotEq a b (tNeI ta tb) := pc_int ha hb fun _ _ _ _ _ _ h => ne_int (by rw [bne, Bool.beq_eq_decide_eq]; exact h)
def tIsN (ta : TE) : TE := fun σ H Q => ta σ H fun x H1 => Q (.bl (decide (x = .non))) H1
def tNotN (ta : TE) : TE := fun σ H Q => ta σ H fun x H1 => Q (.bl (!decide (x = .non))) H1
theorem RelV.none_iff {x : V} {v : Value} (r : RelV x v) : (v == Value.none) = decide (x = .non) := by
  cases x with
  | non => cases r; rfl
  | bl _ => cases r; rfl
  | int _ => obtain ⟨t, rfl⟩ := r; rfl
  | str _ => obtain ⟨t, rfl⟩ := r; rfl
  | byt _ => obtain ⟨t, rfl⟩ := r; rfl
  | flt _ => obtain ⟨t, rfl⟩ := r; rfl
  | ref _ => cases r; rfl
  | ty _ => cases r; rfl
theorem pc_isN {j pos'} (ha : PE X a ta) : PC X .Is a (.Constant .none j pos') (tIsN ta) := by
  intro pins s σ H Q I h
  refine thn (ha pins s σ H _ I h) fun v s1 ⟨x, H1, I1, r1, q1⟩ => ?_
  exact Constant_none (is_none_gen ⟨.bl _, H1, I1, by rw [r1.none_iff]; rfl, q1⟩)
theorem pc_notN {j pos'} (ha : PE X a ta) : PC X .IsNot a (.Constant .none j pos') (tNotN ta) := by
  intro pins s σ H Q I h
  refine thn (ha pins s σ H _ I h) fun v s1 ⟨x, H1, I1, r1, q1⟩ => ?_
  exact Constant_none (isnot_none_gen ⟨.bl _, H1, I1, by rw [r1.none_iff]; rfl, q1⟩)
def tB (t : TE) : TT := fun σ H Q => t σ H fun x H1 => ∃ c, x = .bl c ∧ Q c H1
theorem pe_cmp {op : CmpOp} {t : TE} (h : PC X op a b t) (h1 : behindInMarks op b = false := by first | exact nobehind _ (by decide) (by decide) | rfl) : PE X (.Compare a [op] [b] pos) t := fun pins s σ H Q I hw => wpAny_Compare1 (h pins s σ H Q I hw) h1
theorem pt_cmp {op : CmpOp} {t : TE} (h : PC X op a b t) (h1 : behindInMarks op b = false := by first | exact nobehind _ (by decide) (by decide) | rfl) : PT X (.Compare a [op] [b] pos) (tB t) := by
  intro pins s σ H Q I hw
  refine wpAny_isTrue_Compare1 (thn (h pins s σ H _ I hw) fun v s1 h1 => thn h1 fun u s2 h2 => thn h2 fun c s3 ⟨x, H1, I1, r1, q1⟩ => ?_) h1
  obtain ⟨d, rfl, q⟩ := q1
  cases r1
  exact wpAny_truthy_bool ⟨H1, I1, q⟩
theorem pt_val {e : Expr} {t : TE} (h : PE X e t) (he : ∀ whole, isTrue e X.env whole = (do let v ← whole; standAt e.pos; holding [v] (truthy v)) := by intro _; rfl) : PT X e (tB t) := by
  intro pins s σ H Q I hw
  refine isTrue_plain (thn (h pins s σ H _ I hw) fun v s1 ⟨x, H1, I1, r1, q1⟩ => ?_) (he _)
  obtain ⟨d, rfl, q⟩ := q1
  cases r1
  exact wpAny_truthy_bool ⟨H1, I1, q⟩

variable {tA tB' : TT} {rest : List Expr}
def tAnd (t u : TT) : TT := fun σ H Q => t σ H fun c H1 => if c = true then u σ H1 Q else Q false H1
def tOr (t u : TT) : TT := fun σ H Q => t σ H fun c H1 => if c = true then Q true H1 else u σ H1 Q
def tNot (t : TT) : TT := fun σ H Q => t σ H fun c H1 => Q (!c) H1
theorem pw_and1 (ha : PT X a tA) : PW X (.BoolOp .And [a] pos) tA := by
  intro wh pins s σ H Q I h
  refine isTrue_and (thn (ha pins s σ H Q I h) fun c s1 e => ?_)
  cases c with
  | true => exact isTrue_and_nil e
  | false => exact e
theorem pw_or1 (ha : PT X a tA) : PW X (.BoolOp .Or [a] pos) tA := by
  intro wh pins s σ H Q I h
  refine isTrue_or (thn (ha pins s σ H Q I h) fun c s1 e => ?_)
  cases c with
  | false => exact isTrue_or_nil e
  | true => exact e
theorem pw_and (ha : PT X a tA) (hb : PW X (.BoolOp .And (b :: rest) pos) tB') : PW X (.BoolOp .And (a :: b :: rest) pos) (tAnd tA tB') := by
  intro wh pins s σ H Q I h
  refine isTrue_and (thn (ha pins s σ H _ I h) fun c s1 ⟨H1, I1, q1⟩ => ?_)
  cases c with
  | true => exact hb wh pins s1 σ H1 Q I1 q1
  | false => exact ⟨H1, I1, q1⟩
theorem pw_or (ha : PT X a tA) (hb : PW X (.BoolOp .Or (b :: rest) pos) tB') : PW X (.BoolOp .Or (a :: b :: rest) pos) (tOr tA tB') := by
  intro wh pins s σ H Q I h
  refine isTrue_or (thn (ha pins s σ H _ I h) fun c s1 ⟨H1, I1, q1⟩ => ?_)
  cases c with
  | true => exact ⟨H1, I1, q1⟩
  | false => exact hb wh pins s1 σ H1 Q I1 q1
theorem pt_not (ha : PT X a tA) : PT X (.UnaryOp .Not a pos) (tNot tA) := by
  intro pins s σ H Q I h
  exact isTrue_not (ha pins s σ H (fun c H1 => Q (!c) H1) I h)
def tAndV (ta tb : TE) : TE := fun σ H Q => ta σ H fun x H1 => ∃ c, x = .bl c ∧ if c = true then tb σ H1 Q else Q (.bl false) H1
def tOrV (ta tb : TE) : TE := fun σ H Q => ta σ H fun x H1 => ∃ c, x = .bl c ∧ if c = true then Q (.bl true) H1 else tb σ H1 Q
def tNotV (ta : TE) : TE := fun σ H Q => ta σ H fun x H1 => ∃ c, x = .bl c ∧ Q (.bl (!c)) H1
theorem pe_one {op} {t : TE} (h : PE X a t) : PE X (.BoolOp op [a] pos) t := fun pins s σ H Q I hw => BoolOp_one (h pins s σ H Q I hw)
theorem pe_and (ha : PE X a ta) (hb : PE X (.BoolOp .And (b :: rest) pos) tb) : PE X (.BoolOp .And (a :: b :: rest) pos) (tAndV ta tb) := by
  intro pins s σ H Q I h
  refine BoolOp_and (thn (ha pins s σ H _ I h) fun v s1 ⟨x, H1, I1, r1, q1⟩ => ?_)
  obtain ⟨c, rfl, q1⟩ := q1
  cases r1
  refine wpAny_truthy_bool ?_
  cases c with
  | true => exact hb pins s1 σ H1 Q I1 q1
  | false => exact ⟨.bl false, H1, I1, rfl, q1⟩
theorem pe_or (ha : PE X a ta) (hb : PE X (.BoolOp .Or (b :: rest) pos) tb) : PE X (.BoolOp .Or (a :: b :: rest) pos) (tOrV ta tb) := by
  intro pins s σ H Q I h
  refine BoolOp_or (thn (ha pins s σ H _ I h) fun v s1 ⟨x, H1, I1, r1, q1⟩ => ?_)
  obtain ⟨c, rfl, q1⟩ := q1
  cases r1
  refine wpAny_truthy_bool ?_
  cases c with
  | false => exact hb pins s1 σ H1 Q I1 q1
  | true => exact ⟨.bl true, H1, I1, rfl, q1⟩
theorem pe_not (ha : PE X a ta) : PE X (.UnaryOp .Not a pos) (tNotV ta) := by
  intro pins s σ H Q I h
  refine UnaryOp_ (thn (ha pins s σ H _ I h) fun v s1 ⟨x, H1, I1, r1, q1⟩ => ?_)
  obtain ⟨c, rfl, q1⟩ := q1
  cases r1
  exact not_of (wpAny_truthy_bool ⟨.bl (!c), H1, I1, rfl, q1⟩)
def tIf (t : TT) (ta tb : TE) : TE := fun σ H Q => t σ H fun c H1 => if c = true then ta σ H1 Q else tb σ H1 Q
theorem pe_ifExp {c : Expr} (hc : PT X c tA) (ha : PE X a ta) (hb : PE X b tb) : PE X (.IfExp c a b pos) (tIf tA ta tb) := by
  intro pins s σ H Q I h
  refine wpAny_IfExp (thn (hc pins s σ H _ I h) fun d s1 ⟨H1, I1, q1⟩ => ?_)
  cases d with
  | true => exact ha pins s1 σ H1 Q I1 q1
  | false => exact hb pins s1 σ H1 Q I1 q1
end
end L2

namespace L2
open PySem PySem.Spec PyProof.Rows

def SqL (K : PySem.W.Frag) (H : Hp) (a : Addr) (xs : List V) : Prop :=
  Rd H a (.lst xs) ∨
    ∃ (o : Obj) (its : Array Value) (n : Nat), K.lookup a = some o ∧ o.cls = .type "list" ∧ o.dict = none ∧ o.data = .seq its n ∧ its.size ≤ sizeLine ∧ Vals xs its.toList
def SqT (K : PySem.W.Frag) (H : Hp) (a : Addr) (xs : List V) : Prop :=
  Rd H a (.tup xs) ∨
    ∃ (o : Obj) (its : Array Value) (n : Nat), K.lookup a = some o ∧ o.cls = .type "tuple" ∧ o.data = .seq its n ∧ its.size ≤ sizeLine ∧ Vals xs its.toList
def absV : Value → Option V
  | .none => some .non
  | .bool b => some (.bl b)
  | .int i _ => some (.int i)
  | .str x _ => some (.str x)
  | .bytes b _ => some (.byt b)
  | .float b _ => some (.flt b)
  | .ref a => some (.ref a)
  | .type n => some (.ty n)
  | _ => none
theorem RelV.abs {x : V} {u : Value} (r : RelV x u) : absV u = some x := by
  cases x with
  | non => cases r; rfl
  | bl _ => cases r; rfl
  | int _ => obtain ⟨t, rfl⟩ := r; rfl
  | str _ => obtain ⟨t, rfl⟩ := r; rfl
  | byt _ => obtain ⟨t, rfl⟩ := r; rfl
  | flt _ => obtain ⟨t, rfl⟩ := r; rfl
  | ref _ => cases r; rfl
  | ty _ => cases r; rfl
theorem RelV.inj {x y : V} {u : Value} (r : RelV x u) (q : RelV y u) : x = y := Option.some.inj (r.abs.symm.trans q.abs)
theorem Vals.inj : ∀ {xs ys : List V} {us : List Value}, Vals xs us → Vals ys us → xs = ys
  | _, _, _, .nil, .nil => rfl
  | _, _, _, .cons r t, .cons r' t' => by rw [r.inj r', Vals.inj t t']
section
variable {X : Cx} {pins : List (Addr × Obj)} {σ : St} {H : Hp} {s : Shared} {a : Addr} {xs ys : List V}
theorem SqL.of {K : PySem.W.Frag} (h : H a = some (.lst xs)) : SqL K H a xs := .inl (.inl h)
theorem SqT.of {K : PySem.W.Frag} (h : H a = some (.tup xs)) : SqT K H a xs := .inl (.inl h)
theorem Inv.list (I : Inv X pins σ H s) (h : SqL X.K H a xs) : ∃ its : List Value, Vals xs its ∧ PlainL s.heap a its.toArray ∧ xs.length ≤ sizeLine := by
  rcases h with h | ⟨o, its, n, hk, hc, hd, hs, hz, r⟩
  · obtain ⟨z, its, n, r, e⟩ := h.ok I.hok
    exact ⟨its, r, ⟨_, n, e, rfl, rfl, rfl⟩, z⟩
  · refine ⟨its.toList, r, ⟨o, n, I.kIn a o hk, hc, hd, by simpa using hs⟩, ?_⟩
    have e := r.length
    simp only [Array.length_toList] at e
    omega
theorem Inv.tuple (I : Inv X pins σ H s) (h : SqT X.K H a xs) : ∃ its : List Value, Vals xs its ∧ IsTup s.heap a its.toArray ∧ xs.length ≤ sizeLine := by
  rcases h with h | ⟨o, its, n, hk, hc, hs, hz, r⟩
  · obtain ⟨z, its, r, p⟩ := h.ok I.hok
    exact ⟨its, r, p, z⟩
  · refine ⟨its.toList, r, ⟨o, I.kIn a o hk, hc, n, by simpa using hs⟩, ?_⟩
    have e := r.length
    simp only [Array.length_toList] at e
    omega
theorem Inv.list_inj (I : Inv X pins σ H s) (h : SqL X.K H a xs) (h' : SqL X.K H a ys) : xs = ys := by
  obtain ⟨its, r, ⟨o, n, e, _, _, d⟩, _⟩ := I.list h
  obtain ⟨its', r', ⟨o', n', e', _, _, d'⟩, _⟩ := I.list h'
  rw [e] at e'; cases e'
  rw [d] at d'
  injection d' with d1 _
  have : its = its' := by simpa using congrArg Array.toList d1
  subst this
  exact r.inj r'
theorem Inv.tuple_inj (I : Inv X pins σ H s) (h : SqT X.K H a xs) (h' : SqT X.K H a ys) : xs = ys := by
  obtain ⟨its, r, ⟨o, e, _, n, d⟩, _⟩ := I.tuple h
  obtain ⟨its', r', ⟨o', e', _, n', d'⟩, _⟩ := I.tuple h'
  rw [e] at e'; cases e'
  rw [d] at d'
  injection d' with d1 _
  have : its = its' := by simpa using congrArg Array.toList d1
  subst this
  exact r.inj r'
end

abbrev Cx.wish (X : Cx) (E : Value → Shared → Prop) : Cx := { X with xe := E }
abbrev Cx.nox (X : Cx) : Cx := X.wish fun _ _ => False
theorem Cx.Ok.wish {X : Cx} (ok : X.Ok) (E : Value → Shared → Prop) : (X.wish E).Ok :=
  ⟨ok.mod, ok.kind, ok.glob, ok.blt, ok.above, ok.inj, ok.has, ok.cab, ok.hd, ok.frames, ok.stk, ok.exf, ok.bs, ok.bsz, ok.noex, ok.exfs, ok.funs, ok.frf⟩
theorem Cx.Ok.unwish {X : Cx} {E : Value → Shared → Prop} (ok : (X.wish E).Ok) : X.Ok :=
  ⟨ok.mod, ok.kind, ok.glob, ok.blt, ok.above, ok.inj, ok.has, ok.cab, ok.hd, ok.frames, ok.stk, ok.exf, ok.bs, ok.bsz, ok.noex, ok.exfs, ok.funs, ok.frf⟩
section
variable {X : Cx} {pins : List (Addr × Obj)} {σ : St} {H : Hp} {s : Shared} {E : Value → Shared → Prop}
theorem Inv.wish (I : Inv X pins σ H s) (E : Value → Shared → Prop) : Inv (X.wish E) pins σ H s := ⟨I.ok.wish E, I.os, I.bare, I.base, I.loc, I.cell, I.free, I.freeC, I.pin, I.hok, I.len⟩
theorem Inv.unwish (I : Inv (X.wish E) pins σ H s) : Inv X pins σ H s := ⟨I.ok.unwish, I.os, I.bare, I.base, I.loc, I.cell, I.free, I.freeC, I.pin, I.hok, I.len⟩
theorem SP.unwish {D : Ends} {f : Flow} {s' : Shared} (h : SP (X.wish E) pins D f s') : SP X pins D f s' := by
  cases f with
  | next => obtain ⟨σ', H', I, q⟩ := h; exact ⟨σ', H', I.unwish, q⟩
  | brk => obtain ⟨σ', H', I, q⟩ := h; exact ⟨σ', H', I.unwish, q⟩
  | cont => obtain ⟨σ', H', I, q⟩ := h; exact ⟨σ', H', I.unwish, q⟩
  | ret u => obtain ⟨v, σ', H', I, r, q⟩ := h; exact ⟨v, σ', H', I.unwish, r, q⟩
theorem PE.nox {e : Expr} {t : TE} (h : PE X.nox e t) : PE X e t := fun pins s σ H Q I hw =>
  wpAny_mono (h pins s σ H Q (I.wish _) hw) (fun _ _ ⟨v, H', I', r, q⟩ => ⟨v, H', I'.unwish, r, q⟩) fun _ _ z => False.elim z
theorem PT.nox {e : Expr} {t : TT} (h : PT X.nox e t) : PT X e t := fun pins s σ H Q I hw =>
  wpAny_mono (h pins s σ H Q (I.wish _) hw) (fun _ _ ⟨H', I', q⟩ => ⟨H', I'.unwish, q⟩) fun _ _ z => False.elim z
theorem PSs.nox {st : List Stmt} {t : TS} (h : PSs X.nox st t) : PSs X st t := fun pins s σ H D I hw =>
  wpAny_mono (h pins s σ H D (I.wish _) hw) (fun _ _ q => q.unwish) fun _ _ z => False.elim z
end

section
variable {X : Cx} {st : Stmt} {rest : List Stmt} {t u : TS} {e : Expr} {te : TE} {pos : Pos}
def tNext : TS := fun D σ H => D.nx σ H
def tSeq (t u : TS) : TS := fun D σ H => t { D with nx := u D } σ H
theorem pss_nil : PSs X [] tNext := fun _ _ σ H _ I h => wpAny_execs_nil ⟨σ, H, I, h⟩
theorem pss_cons (h1 : PS X st t) (h2 : PSs X rest u) : PSs X (st :: rest) (tSeq t u) := by
  intro pins s σ H D I h
  refine wpAny_execs_cons (thn (h1 pins s σ H { D with nx := u D } I h) fun f s1 q => ?_)
  cases f with
  | next =>
    obtain ⟨σ', H', I', q⟩ := q
    exact h2 pins s1 σ' H' D I' q
  | ret v => exact q
  | brk => exact q
  | cont => exact q
theorem pss_one (h1 : PS X st t) : PSs X [st] t := by
  intro pins s σ H D I h
  refine wpAny_execs_cons (thn (h1 pins s σ H D I h) fun f s1 q => ?_)
  cases f with
  | next => exact wpAny_execs_nil q
  | ret v => exact q
  | brk => exact q
  | cont => exact q
def tBreak : TS := fun D σ H => D.bk σ H
def tCont : TS := fun D σ H => D.ct σ H
theorem ps_pass : PS X (.Pass pos) tNext := fun _ _ σ H _ I h => wpAny_Pass ⟨σ, H, I, h⟩
theorem ps_break : PS X (.Break pos) tBreak := fun _ _ σ H _ I h => wpAny_Break ⟨σ, H, I, h⟩
theorem ps_continue : PS X (.Continue pos) tCont := fun _ _ σ H _ I h => wpAny_Continue ⟨σ, H, I, h⟩
theorem Inv.quiet {pins : List (Addr × Obj)} {σ : St} {H : Hp} {s : Shared} (I : Inv X pins σ H s) : interactive X.env = false := by simp [interactive, I.ok.kind]
theorem ps_doc {x j pos pos'} : PS X (.Expr (.Constant (.str x) j pos) pos') tNext := fun _ s σ H _ I h => wpAny_Expr (Calls.Constant_str (show SP X _ _ .next { s with toks := s.toks + 1 } from ⟨σ, H, I.tok _, h⟩)) I.quiet
def tDrop (te : TE) : TS := fun D σ H => te σ H fun _ H1 => D.nx σ H1
theorem ps_expr (he : PE X e te) (hs : swapsWith e none pos.line X.env = pure false := by rfl) : PS X (.Expr e pos) (tDrop te) := by
  intro pins s σ H D I h
  exact wpAny_Expr_any (thn (he pins s σ H _ I h) fun v s1 ⟨x, H1, I1, r1, q1⟩ => ⟨σ, H1, I1, q1⟩) I.quiet hs
def tRet (te : TE) : TS := fun D σ H => te σ H D.rt
theorem ps_ret (he : PE X e te) : PS X (.Return (some e) pos) (tRet te) := by
  intro pins s σ H D I h
  exact wpAny_Return_some (thn (he pins s σ H _ I h) fun v s1 ⟨x, H1, I1, r1, q1⟩ => ⟨x, σ, H1, I1, r1, q1⟩)
def tRetN : TS := fun D _ H => D.rt .non H
theorem ps_retN : PS X (.Return none pos) tRetN := fun _ _ σ H _ I h => wpAny_Return_none ⟨.non, σ, H, I, rfl, h⟩
def tIfS (c : TT) (t u : TS) : TS := fun D σ H => c σ H fun b H1 => if b = true then t D σ H1 else u D σ H1
theorem ps_if {c : Expr} {a b : List Stmt} {tc : TT} (hc : PT X c tc) (ha : PSs X a t) (hb : PSs X b u) : PS X (.If c a b pos) (tIfS tc t u) := by
  intro pins s σ H D I h
  refine wpAny_If (thn (hc pins s σ H _ I h) fun d s1 ⟨H1, I1, q1⟩ => ?_)
  cases d with
  | true => exact ha pins s1 σ H1 D I1 q1
  | false => exact hb pins s1 σ H1 D I1 q1
def tNever : TS := fun _ _ _ => False
theorem ps_never : PS X st tNever := fun _ _ _ _ _ _ h => h.elim
theorem pss_never {sts : List Stmt} : PSs X sts tNever := fun _ _ _ _ _ _ h => h.elim
end

abbrev TG := V → St → Hp → (St → Hp → Prop) → Prop
abbrev TGs := List V → St → Hp → (St → Hp → Prop) → Prop
def PG (X : Cx) (target : Expr) (t : TG) : Prop :=
  ∀ (pins : List (Addr × Obj)) (s : Shared) (σ : St) (H : Hp) (v : V) (u : Value) (Q : St → Hp → Prop), Inv X pins σ H s → RelV v u → t v σ H Q →
    wpAny (model X.prog X.w) X.A (assign target X.env u) (fun _ s' => ∃ σ' H', Inv X pins σ' H' s' ∧ Q σ' H') X.xe s
def PGs (X : Cx) (ts : List Expr) (t : TGs) : Prop :=
  ∀ (pins : List (Addr × Obj)) (s : Shared) (σ : St) (H : Hp) (vs : List V) (us : List Value) (Q : St → Hp → Prop), Inv X pins σ H s → Vals vs us → t vs σ H Q →
    wpAny (model X.prog X.w) X.A (assignInOrder ((assignEach ts X.env).map (·.2)) us) (fun _ s' => ∃ σ' H', Inv X pins σ' H' s' ∧ Q σ' H') X.xe s
abbrev TSet := V → V → V → Hp → (Hp → Prop) → Prop
def PSet (X : Cx) (t : TSet) : Prop :=
  ∀ (pins : List (Addr × Obj)) (s : Shared) (σ : St) (H : Hp) (o i v : V) (ov iv u : Value) (Q : Hp → Prop), Inv X pins σ H s → RelV o ov → RelV i iv → RelV v u → t o i v H Q →
    wpAny (model X.prog X.w) X.A (setItem ov iv u) (fun _ s' => ∃ H', Inv X pins σ H' s' ∧ Q H') X.xe s
abbrev TIp := V → V → Hp → VK → Prop
def PIp (X : Cx) (op : Operator) (t : TIp) : Prop :=
  ∀ (pins : List (Addr × Obj)) (s : Shared) (σ : St) (H : Hp) (x y : V) (v u : Value) (Q : VK), Inv X pins σ H s → RelV x v → RelV y u → t x y H Q →
    wpAny (model X.prog X.w) X.A (inplaceOp op v u) (EP X pins σ Q) X.xe s
section
variable {X : Cx} {pos : Pos}
def gName (i : Nat) : TG := fun v σ H Q => Q (σ.set i (some v)) H
theorem pg_name {i : Nat} {x : Str} (hN : X.N.Nodup) (hi : X.N[i]? = some x) (hx : Loc X.env.scope x) (hf : X.fn x = true ∨ X.env.scope.names.lookup x = some .local := by first | exact .inl rfl | exact .inr rfl | assumption) : PG X (.Name x pos) (gName i) := by
  intro pins s σ H v u Q I r h
  exact wpAny_assign_Name (store_ok I hN hi hx r (fun s' I' => ⟨_, H, I', h⟩) hf)
def gNil : TGs := fun vs σ H Q => vs = [] ∧ Q σ H
def gCons (t : TG) (u : TGs) : TGs := fun vs σ H Q => ∃ v r, vs = v :: r ∧ t v σ H fun σ' H' => u r σ' H' Q
theorem pgs_nil : PGs X [] gNil := by
  intro pins s σ H vs us Q I r h
  obtain ⟨e, h⟩ := h
  subst e
  cases r
  exact assignInOrder_nil ⟨σ, H, I, h⟩
theorem pgs_cons {e : Expr} {es : List Expr} {t : TG} {u : TGs} (h1 : PG X e t) (h2 : PGs X es u)
    (hs : (assignEach (e :: es) X.env).map (·.2) = assign e X.env :: (assignEach es X.env).map (·.2) := by rfl) : PGs X (e :: es) (gCons t u) := by
  intro pins s σ H vs us Q I r h
  obtain ⟨v, vr, e1, h⟩ := h
  subst e1
  cases r with
  | cons r rr =>
    rw [hs]
    refine assignInOrder_cons (thn (h1 pins s σ H _ _ _ I r h) fun _ s1 ⟨σ1, H1, I1, q1⟩ => ?_)
    exact h2 pins s1 σ1 H1 _ _ Q I1 rr q1
def gTup (K : PySem.W.Frag) (n : Nat) (t : TGs) : TG := fun v σ H Q => ∃ a xs, v = .ref a ∧ SqT K H a xs ∧ xs.length = n ∧ t xs σ H Q
theorem pg_tup {es : List Expr} {k : Nat} {t : TGs} {n : Nat} (hc : X.calm = true) (h : PGs X es t)
    (hn : (assignEach es X.env).length = n := by rfl) (hst : (assignEach es X.env).findIdx? (·.1) = none := by rfl) : PG X (.Tuple es k pos) (gTup X.K n t) := by
  intro pins s σ H v u Q I r hw
  obtain ⟨a, xs, e1, hq, hl, hw⟩ := hw
  subst e1
  cases r
  obtain ⟨its, rv, ht, hz⟩ := I.tuple hq
  refine assign_Tuple_tuple (I.ok.hd hc) ht (by simp [hn, ← hl, rv.length]) hst fun h' hx => ?_
  have I1 : Inv X pins σ H { s with heap := h' } := I.kept (t' := s.toks) fun b o e => hx b o (Nat.ne_of_lt (Heap.lt_size e)) e
  exact h pins _ σ H xs _ Q I1 (by simpa using rv) hw
def gSub (to ti : TE) (t : TSet) : TG := fun v σ H Q => to σ H fun o H1 => ti σ H1 fun i H2 => t o i v H2 fun H3 => Q σ H3
theorem pg_sub {o i : Expr} {to ti : TE} {t : TSet} (ho : PE X o to) (hi : PE X i ti) (hs : PSet X t)
    (ha : ∀ v, assign (.Subscript o i pos) X.env v = (do
      let ov ← holding [v] (eval o X.env)
      let iv ← holding [v, ov] (eval i X.env)
      standAt pos
      holding [v, ov, iv] (setItem ov iv v)
      release [v, ov, iv] []) := by intro _; rfl) : PG X (.Subscript o i pos) (gSub to ti t) := by
  intro pins s σ H v u Q I r h
  rw [ha]
  refine wpAny_bind (wpAny_holding (thn (ho pins s σ H _ I h) fun ov s1 ⟨x, H1, I1, r1, q1⟩ => ?_))
  refine wpAny_bind (wpAny_holding (thn (hi pins s1 σ H1 _ I1 q1) fun iv s2 ⟨y, H2, I2, r2, q2⟩ => ?_))
  refine wpAny_bind (wpAny_standAt (wpAny_bind (wpAny_holding (thn (hs pins s2 σ H2 x y v ov iv u _ I2 r1 r2 r q2) fun _ s3 ⟨H3, I3, q3⟩ => ?_))))
  exact wpAny_release ⟨σ, H3, I3, q3⟩
def tAsg (te : TE) (g : TG) : TS := fun D σ H => te σ H fun x H1 => g x σ H1 D.nx
theorem ps_asg {tg e : Expr} {te : TE} {g : TG} (he : PE X e te) (hg : PG X tg g) (hs : swapsWithSole [tg] e pos.line X.env = pure false := by rfl) (hw : swappedStores [tg] e X.env = pure none := by rfl)
    (h1 : (assignEach [tg] X.env).map (·.2) = [assign tg X.env] := by rfl) : PS X (.Assign [tg] e pos) (tAsg te g) := by
  intro pins s σ H D I h
  refine wpAny_Assign_stores (thn (he pins s σ H _ I h) fun v s1 ⟨x, H1, I1, r1, q1⟩ => ?_) hs hw
  rw [h1]
  exact thn (hg pins s1 σ H1 x v _ I1 r1 q1) fun _ s2 q => q
theorem ps_set {i : Nat} {x : Str} {e : Expr} {te : TE} {pos' : Pos} (hN : X.N.Nodup) (hi : X.N[i]? = some x) (hx : Loc X.env.scope x) (he : PE X e te) (hs : swapsWith e (some (.Name x pos')) pos.line X.env = pure false := by rfl) (hf : X.fn x = true ∨ X.env.scope.names.lookup x = some .local := by first | exact .inl rfl | exact .inr rfl | assumption) :
    PS X (.Assign [.Name x pos'] e pos) (tAsg te (gName i)) := by
  intro pins s σ H D I h
  refine wpAny_Assign_Name (thn (he pins s σ H _ I h) fun v s1 ⟨y, H1, I1, r1, q1⟩ => ?_) hs
  exact store_ok I1 hN hi hx r1 (fun s2 I2 => ⟨_, H1, I2, q1⟩) hf
def tPar (i j : Nat) (ta : TA) : TS := fun D σ H => ta σ H fun vs H1 => ∃ v w, vs = [v, w] ∧ D.nx ((σ.set i (some v)).set j (some w)) H1
theorem ps_par {i j : Nat} {x y : Str} {a b : Expr} {ta : TA} {px py pt : Pos} {kt k2 pt2} (hc : X.calm = true) (hN : X.N.Nodup) (hi : X.N[i]? = some x) (hj : X.N[j]? = some y) (hij : i ≠ j)
    (hx : X.env.scope.names.lookup x = some .local) (hy : X.env.scope.names.lookup y = some .local) (ha : PA X [a, b] ta)
    (hw : swappedStores [.Tuple [.Name x px, .Name y py] kt pt] (.Tuple [a, b] k2 pt2) X.env = pure (some [x, y]))
    (hs : swapsWithSole [.Tuple [.Name x px, .Name y py] kt pt] (.Tuple [a, b] k2 pt2) pos.line X.env = pure false := by rfl) :
    PS X (.Assign [.Tuple [.Name x px, .Name y py] kt pt] (.Tuple [a, b] k2 pt2) pos) (tPar i j ta) := by
  intro pins s σ H D I h
  rw [exec_Assign_arm]
  refine wpAny_bind (wpAny_standAt ?_)
  rw [hs]
  refine wpAny_bind (wpAny_pure ?_)
  rw [if_neg (by decide)]
  refine wpAny_bind (Tuple_ (thn (ha _ pins s σ H _ I h) fun us s1 ⟨vs, H1, I1, r1, q1⟩ => ?_))
  obtain ⟨v, w, e1, q1⟩ := q1
  subst e1
  obtain ⟨u1, u2, rfl, rv, rw'⟩ : ∃ u1 u2, us = [u1, u2] ∧ RelV v u1 ∧ RelV w u2 := by
    cases r1 with
    | cons p q =>
      cases q with
      | cons p' q' =>
        cases q'
        exact ⟨_, _, rfl, p, p'⟩
  refine wpAny_newObj_type ?_ (by show 2 ≤ sizeLine; decide)
  have I2 : Inv X pins σ H1 { s1 with heap := s1.heap.push { cls := .type "tuple", data := .seq [u1, u2].toArray } } := I1.kept (t' := s1.toks) fun b o e => Heap.get?_push_of_some _ e
  rw [hw]
  refine wpAny_bind (wpAny_pure ?_)
  show wpAny (model X.prog X.w) X.A (do rule "assign.swapped-stores"; let items ← unpackItems (.ref s1.heap.objs.size) 2 none; assignInOrder [fun v => bindName X.env y v, fun v => bindName X.env x v] items.reverse; pure Flow.next) _ _ _
  refine wpAny_bind (wpAny_rule (wpAny_bind (unpackItems_tuple (items := #[u1, u2]) (I.ok.hd hc) (IsTup.new s1.heap _) fun h' hx' => ?_)))
  have I3 := I2.kept (h' := h') (t' := s1.toks) fun b o e => hx' b o (Nat.ne_of_lt (Heap.lt_size e)) e
  show wpAny _ _ (assignInOrder [fun v => bindName X.env y v, fun v => bindName X.env x v] [u2, u1] >>= fun _ => pure Flow.next) _ _ _
  refine wpAny_bind (assignInOrder_cons (wpAny_bindName (store_ok I3 hN hj (.inl hy) rw' (fun s2 I4 => ?_) (.inr hy))))
  refine assignInOrder_cons (wpAny_bindName (store_ok I4 hN hi (.inl hx) rv (fun s3 I5 => assignInOrder_nil (wpAny_pure ?_)) (.inr hx)))
  rw [List.set_comm _ _ (Ne.symm hij)] at I5
  exact ⟨_, H1, I5, q1⟩
def tAug (i : Nat) (te : TE) (ti : TIp) : TS := fun D σ H => ∃ x, σ[i]? = some (some x) ∧ te σ H fun y H1 => ti x y H1 fun z H2 => D.nx (σ.set i (some z)) H2
theorem ps_aug {i : Nat} {x : Str} {e : Expr} {te : TE} {op : Operator} {ti : TIp} {pos' : Pos} (hN : X.N.Nodup) (hi : X.N[i]? = some x) (hx : Loc X.env.scope x) (he : PE X e te) (ho : PIp X op ti) (hf : X.fn x = true ∨ X.env.scope.names.lookup x = some .local := by first | exact .inl rfl | exact .inr rfl | assumption) :
    PS X (.AugAssign (.Name x pos') op e pos) (tAug i te ti) := by
  intro pins s σ H D I h
  obtain ⟨v, e1, h⟩ := h
  obtain ⟨m, hn, hl⟩ := I.loc
  have vis : Vis X.env.scope x := by rcases hx with k | k; exact .inl k; exact .inr (.inl k)
  obtain ⟨u, r, l⟩ := hl i x v hi e1 vis
  refine wpAny_AugAssign_Name ?_
  have go : wpAny (model X.prog X.w) X.A (eval e X.env) (fun w s₂ => wpAny (model X.prog X.w) X.A (inplaceOp op u w) (fun r s₃ => wpAny (model X.prog X.w) X.A (storeName X.env x r) (fun _ => SP X pins D .next) X.xe s₃) X.xe s₂) X.xe s := by
    refine thn (he pins s σ H _ I h) fun w s1 ⟨y, H1, I1, r1, q1⟩ => ?_
    refine thn (ho pins s1 σ H1 v y u w _ I1 r r1 q1) fun z s2 ⟨zv, H2, I2, r2, q2⟩ => ?_
    exact store_ok I2 hN hi hx r2 (fun s3 I3 => ⟨_, H2, I3, q2⟩) hf
  rcases l with ⟨hk, hm⟩ | ⟨hk, c, hc, hcell⟩
  · exact wpAny_loadName_local I.ok.kind hk hn hm go
  · rcases hk with hk | hk
    · exact wpAny_loadName_cell I.ok.kind hk hc hcell go
    · rcases hx with k | k
      · have : X.env.scope.names.lookup x = some .free := hk
        rw [k] at this; cases this
      · have : X.env.scope.names.lookup x = some .free := hk
        rw [k] at this; cases this
def tAugS (to ti te : TE) (tget : V → V → Hp → VK → Prop) (tip : TIp) (tset : TSet) : TS := fun D σ H => to σ H fun o H1 => ti σ H1 fun i H2 => tget o i H2 fun x H3 => te σ H3 fun y H4 => tip x y H4 fun z H5 => tset o i z H5 fun H6 => D.nx σ H6
def PGet (X : Cx) (t : V → V → Hp → VK → Prop) : Prop :=
  ∀ (pins : List (Addr × Obj)) (s : Shared) (σ : St) (H : Hp) (o i : V) (ov iv : Value) (Q : VK), Inv X pins σ H s → RelV o ov → RelV i iv → t o i H Q →
    wpAny (model X.prog X.w) X.A (getItem ov iv) (EP X pins σ Q) X.xe s
theorem ps_augS {o i e : Expr} {to ti te : TE} {tget : V → V → Hp → VK → Prop} {tip : TIp} {tset : TSet} {op : Operator} {tpos : Pos} (ho : PE X o to) (hi : PE X i ti) (hg : PGet X tget) (he : PE X e te) (hp : PIp X op tip) (hs : PSet X tset)
    (ha : ∀ ov iv new, augStore i ov iv new = (do holding [new, ov, iv] (setItem ov iv new); release [new, ov, iv] []; pure .next) := by intros; rfl) : PS X (.AugAssign (.Subscript o i tpos) op e pos) (tAugS to ti te tget tip tset) := by
  intro pins s σ H D I h
  refine wpAny_AugAssign_SubscriptAny (thn (ho pins s σ H _ I h) fun ov s1 ⟨x1, H1, I1, r1, q1⟩ => ?_) ha
  refine thn (hi pins s1 σ H1 _ I1 q1) fun iv s2 ⟨x2, H2, I2, r2, q2⟩ => ?_
  refine thn (hg pins s2 σ H2 x1 x2 ov iv _ I2 r1 r2 q2) fun old s3 ⟨x3, H3, I3, r3, q3⟩ => ?_
  refine thn (he pins s3 σ H3 _ I3 q3) fun v s4 ⟨x4, H4, I4, r4, q4⟩ => ?_
  refine thn (hp pins s4 σ H4 x3 x4 old v _ I4 r3 r4 q4) fun new s5 ⟨x5, H5, I5, r5, q5⟩ => ?_
  exact thn (hs pins s5 σ H5 x1 x2 x5 ov iv new _ I5 r1 r2 r5 q5) fun _ s6 ⟨H6, I6, q6⟩ => ⟨σ, H6, I6, q6⟩
def ipI (f : Int → Int → Int) : TIp := fun x y H Q => ∃ i j, x = .int i ∧ y = .int j ∧ Q (.int (f i j)) H
theorem ip_add : PIp X .Add (ipI fun i j => i + j) := by
  intro pins s σ H x y v u Q I r1 r2 h
  obtain ⟨i, j, e1, e2, q⟩ := h
  subst e1; subst e2
  obtain ⟨t, rfl⟩ := r1
  obtain ⟨t', rfl⟩ := r2
  exact iadd_int ⟨.int _, H, I.tok _, ⟨_, rfl⟩, q⟩
theorem ip_sub : PIp X .Sub (ipI fun i j => i - j) := by
  intro pins s σ H x y v u Q I r1 r2 h
  obtain ⟨i, j, e1, e2, q⟩ := h
  subst e1; subst e2
  obtain ⟨t, rfl⟩ := r1
  obtain ⟨t', rfl⟩ := r2
  exact isub_int ⟨.int _, H, I.tok _, ⟨_, rfl⟩, q⟩
end

section
variable {X : Cx} {pos : Pos}
def tWhile (c : TT) (tb : TS) : TS := fun D σ H => ∃ W : Nat → St → Hp → Prop, (∃ m, W m σ H) ∧ ∀ m σ H, W m σ H →
  c σ H fun b H1 => if b = true then ∃ N : St → Hp → Prop, (∀ σ' H', N σ' H' → ∃ m', m' < m ∧ W m' σ' H') ∧ tb { D with nx := N, ct := N, bk := D.nx } σ H1 else D.nx σ H1
theorem ps_while {c : Expr} {body : List Stmt} {tc : TT} {tb : TS} (hp : PassesOwn (model X.prog X.w) X.A X.env X.xe) (hc : PT X c tc) (hb : PSs X body tb) : PS X (.While c body [] pos) (tWhile tc tb) := by
  intro pins s σ H D I h
  obtain ⟨W, ⟨m0, w0⟩, turn⟩ := h
  refine wpAny_While (codeAny_whileLoop (fun n s' => ∃ σ' H', Inv X pins σ' H' s' ∧ W n σ' H') ?_ m0 ⟨σ, H, I, w0⟩)
  rintro n s1 ⟨σ1, H1, I1, w1⟩
  refine wpAny_passesOwn hp (thn (hc pins s1 σ1 H1 _ I1 (turn n σ1 H1 w1)) fun b s2 ⟨H2, I2, q2⟩ => ?_)
  cases b with
  | true =>
    obtain ⟨N, hN, q2⟩ := q2
    rw [if_pos rfl]
    refine wpAny_passesOwn hp (thn (hb pins s2 σ1 H2 _ I2 q2) fun f s3 q3 => ?_)
    cases f with
    | next =>
      obtain ⟨σ3, H3, I3, n3⟩ := q3
      obtain ⟨m', hm, w3⟩ := hN σ3 H3 n3
      exact ⟨m', hm, σ3, H3, I3, w3⟩
    | cont =>
      obtain ⟨σ3, H3, I3, n3⟩ := q3
      obtain ⟨m', hm, w3⟩ := hN σ3 H3 n3
      exact ⟨m', hm, σ3, H3, I3, w3⟩
    | brk => exact q3
    | ret v => exact q3
  | false =>
    rw [if_neg Bool.false_ne_true]
    exact wpAny_execs_nil ⟨σ1, H2, I2, q2⟩
end

structure It where
  go : Nat → Hp → Prop
  yld : Nat → Hp → V → Hp → Prop
  stop : Nat → Hp → Prop
def FpOk (X : Cx) (pins : List (Addr × Obj)) (H : Hp) (b : Addr) : Prop :=
  H b = none ∧ b ≠ X.env.locals ∧ b ∉ X.fs ∧ (b ∈ X.ex ∨ X.s₀.heap.objs.size ≤ b) ∧ (∀ x c, X.env.cells.lookup x = some c → c ≠ b) ∧ ∀ p ∈ X.pn ++ pins, p.1 ≠ b
theorem Inv.fpOk {X : Cx} {pins : List (Addr × Obj)} {σ : St} {H H' : Hp} {s : Shared} {b : Addr} (I : Inv X pins σ H s) (hb : s.heap.objs.size ≤ b) (hn : H' b = none) : FpOk X pins H' b := by
  refine ⟨hn, Nat.ne_of_gt (Nat.lt_of_lt_of_le I.lt hb), I.nofs hb, .inr (Nat.le_trans I.sz hb), fun x c e z => ?_, fun p hp z => ?_⟩
  · obtain ⟨v, q⟩ := I.cell x c e
    exact absurd (Nat.lt_of_lt_of_le q.lt (by rw [z]; exact hb)) (Nat.lt_irrefl _)
  · exact absurd (Nat.lt_of_lt_of_le (Heap.lt_size (I.pin p hp).1) (by rw [z]; exact hb)) (Nat.lt_irrefl _)
structure Turn (P : Program) (w : World) (K : PySem.W.Frag) (tg : Expr) (J : It) (fp : List Addr) (it : Addr) (tn : Nat → Heap → Prop) : Prop where
  mem : it ∈ fp
  obj : ∀ i h, tn i h → ∀ b ∈ fp, ∃ o, h.get? b = some o ∧ ∀ v, o.data ≠ .cell v
  keep : ∀ i h h', tn i h → (∀ b ∈ fp, ∀ o, h.get? b = some o → h'.get? b = some o) → tn i h'
  item : ∀ (X : Cx), X.prog = P → X.w = w → X.K = K → X.calm = true → ∀ (i : Nat) (pins : List (Addr × Obj)) (s : Shared) (σ : St) (H : Hp) (E : Value → Shared → Prop), Inv X pins σ H s → (∀ b ∈ fp, FpOk X pins H b) → tn i s.heap → J.go i H →
    wpAny (model P w) X.A (pyNext (.ref it)) (fun r s1 => ∃ u, r = some u ∧
      wpAny (model P w) X.A (letOwnedTupleGo tg (.ref it) u) (fun _ s2 => ∃ x H', Inv X pins σ H' s2 ∧ RelV x u ∧ J.yld i H x H' ∧ tn (i + 1) s2.heap ∧ ∀ b ∈ fp, H' b = none) E s1) E s
  done : ∀ (X : Cx), X.prog = P → X.w = w → X.K = K → X.calm = true → ∀ (i : Nat) (pins : List (Addr × Obj)) (s : Shared) (σ : St) (H : Hp) (E : Value → Shared → Prop), Inv X pins σ H s → (∀ b ∈ fp, FpOk X pins H b) → tn i s.heap → J.stop i H →
    wpAny (model P w) X.A (pyNext (.ref it)) (fun r s1 => r = none ∧ Inv X pins σ H s1) E s
  self : ∀ (A : Around) (i : Nat) (s : Shared) (Q : Value → Shared → Prop) (E : Value → Shared → Prop), tn i s.heap → Q (.ref it) s → wpAny (model P w) A (pyIter (.ref it)) Q E s
abbrev TI := St → Hp → (It → Hp → Prop) → Prop
def PIE (X : Cx) (pins : List (Addr × Obj)) (σ : St) (tg : Expr) (R : It → Hp → Prop) (itv : Value) (s2 : Shared) : Prop :=
  ∃ (it : Addr) (fp : List Addr) (tn : Nat → Heap → Prop) (J : It) (H' : Hp), itv = .ref it ∧ Inv X pins σ H' s2 ∧ Turn X.prog X.w X.K tg J fp it tn ∧ tn 0 s2.heap ∧ (∀ b ∈ fp, FpOk X pins H' b) ∧ R J H'
def PI (X : Cx) (tg iter : Expr) (wi : TI) : Prop :=
  ∀ (pins : List (Addr × Obj)) (s : Shared) (σ : St) (H : Hp) (R : It → Hp → Prop), Inv X pins σ H s → wi σ H R →
    wpAny (model X.prog X.w) X.A (eval iter X.env) (fun v s1 => wpAny (model X.prog X.w) X.A (pyIter v) (PIE X pins σ tg R) X.xe s1) X.xe s

theorem go_of {M : Model} {A : Around} {E : Value → Shared → Prop} {s : Shared} {tg : Expr} {it : Addr} {u : Value} {o : Obj} {n : String} {vs : Array Value} {Q : Unit → Shared → Prop} (ho : s.heap.get? it = some o) (hc : o.cls = .type n) (hd : o.data = .fields vs)
    (hn : ["enumerate", "zip", "dict_itemiterator", "dict_reverseitemiterator", "odict_iterator", "itertools.zip_longest", "itertools.pairwise"].contains n = false) (hQ : Q () s) : wpAny M A (letOwnedTupleGo tg (.ref it) u) Q E s := by
  unfold letOwnedTupleGo
  cases tg <;> first
    | exact wpAny_pure hQ
    | (cases u <;> first
        | exact wpAny_pure hQ
        | (refine wpAny_bind (wpAny_load ho ?_)
           rw [hc, hd]
           show wpAny M A (if (["enumerate", "zip", "dict_itemiterator", "dict_reverseitemiterator", "odict_iterator", "itertools.zip_longest", "itertools.pairwise"].contains n && vs[0]? == some (rawInt _)) = true then _ else _) Q E s
           rw [if_neg (by intro h; rw [hn, Bool.false_and] at h; cases h)]
           exact wpAny_pure hQ))

def Itl (K : PySem.W.Frag) (a : Addr) : It :=
  ⟨fun i H => ∃ xs x, SqL K H a xs ∧ xs[i]? = some x, fun i H x H' => H' = H ∧ ∀ xs, SqL K H a xs → xs[i]? = some x, fun i H => ∃ xs, SqL K H a xs ∧ xs.length ≤ i⟩
def Itt (K : PySem.W.Frag) (a : Addr) : It :=
  ⟨fun i H => ∃ xs x, SqT K H a xs ∧ xs[i]? = some x, fun i H x H' => H' = H ∧ ∀ xs, SqT K H a xs → xs[i]? = some x, fun i H => ∃ xs, SqT K H a xs ∧ xs.length ≤ i⟩
def Itr (lo : Int) (n : Nat) : It := ⟨fun i _ => i < n, fun i H x H' => H' = H ∧ x = .int (lo + i), fun i _ => n ≤ i⟩
theorem turn_list {P : Program} {w : World} {K : PySem.W.Frag} {tg : Expr} (a it : Addr) : Turn P w K tg (Itl K a) [it] it (fun i h => h.IsListIter it a i) where
  mem := by simp
  obj := fun i h st b hb => by
    have e : b = it := by simpa using hb
    subst e
    obtain ⟨o, e, c, d⟩ := st
    exact ⟨o, e, fun v z => by rw [d] at z; cases z⟩
  keep := fun i h h' st k => st.at fun o e => k it (by simp) o e
  item := by
    intro X hP hw hK hc i pins s σ H E I hf st hg
    subst hP hw hK
    obtain ⟨xs, x, hq, hx⟩ := hg
    obtain ⟨its, rv, p, hz⟩ := I.list hq
    obtain ⟨u, hu, ru⟩ := rv.get hx
    obtain ⟨f0, f1, f2, f3, f4, f5⟩ := hf it (by simp)
    refine wpAny_pyNext_list_item st p.isList (x := u) (by simpa using hu) fun h' st' sb => ?_
    have I1 : Inv X pins σ H { s with heap := h' } := I.turned (t' := s.toks) (fun b o hb e => (sb.2 b hb).trans e) f0 f1 f3 f4 f5
    obtain ⟨o, e, c, d⟩ := id st'
    exact ⟨u, rfl, go_of (s := { s with heap := h' }) e c d (by decide) ⟨x, H, I1, ru, ⟨rfl, fun ys hy => by rw [I.list_inj hy hq]; exact hx⟩, st', fun b hb => (hf b hb).1⟩⟩
  done := by
    intro X hP hw hK hc i pins s σ H E I hf st hg
    subst hP hw hK
    obtain ⟨xs, hq, hx⟩ := hg
    obtain ⟨its, rv, p, hz⟩ := I.list hq
    obtain ⟨f0, f1, f2, f3, f4, f5⟩ := hf it (by simp)
    have hl := rv.length
    exact wpAny_pyNext_list_end (I.ok.hd hc) st p.isList (by simp; omega) fun h' eb => ⟨rfl, I.turned (t' := s.toks) (fun b o hb e => eb b o hb e) f0 f1 f3 f4 f5⟩
  self := fun _ _ _ _ _ st h => wpAny_pyIter_listiter st h
theorem turn_tuple {P : Program} {w : World} {K : PySem.W.Frag} {tg : Expr} (a it : Addr) : Turn P w K tg (Itt K a) [it] it (fun i h => h.IsTupleIter it a i) where
  mem := by simp
  obj := fun i h st b hb => by
    have e : b = it := by simpa using hb
    subst e
    obtain ⟨o, e, c, d⟩ := st
    exact ⟨o, e, fun v z => by rw [d] at z; cases z⟩
  keep := fun i h h' st k => st.at fun o e => k it (by simp) o e
  item := by
    intro X hP hw hK hc i pins s σ H E I hf st hg
    subst hP hw hK
    obtain ⟨xs, x, hq, hx⟩ := hg
    obtain ⟨its, rv, p, hz⟩ := I.tuple hq
    obtain ⟨u, hu, ru⟩ := rv.get hx
    obtain ⟨f0, f1, f2, f3, f4, f5⟩ := hf it (by simp)
    refine wpAny_pyNext_tuple_item st (show s.heap.IsTuple a its.toArray from p) (x := u) (by simpa using hu) fun h' st' sb => ?_
    have I1 : Inv X pins σ H { s with heap := h' } := I.turned (t' := s.toks) (fun b o hb e => (sb.2 b hb).trans e) f0 f1 f3 f4 f5
    obtain ⟨o, e, c, d⟩ := id st'
    exact ⟨u, rfl, go_of (s := { s with heap := h' }) e c d (by decide) ⟨x, H, I1, ru, ⟨rfl, fun ys hy => by rw [I.tuple_inj hy hq]; exact hx⟩, st', fun b hb => (hf b hb).1⟩⟩
  done := by
    intro X hP hw hK hc i pins s σ H E I hf st hg
    subst hP hw hK
    obtain ⟨xs, hq, hx⟩ := hg
    obtain ⟨its, rv, p, hz⟩ := I.tuple hq
    obtain ⟨f0, f1, f2, f3, f4, f5⟩ := hf it (by simp)
    have hl := rv.length
    exact wpAny_pyNext_tuple_end (I.ok.hd hc) st (show s.heap.IsTuple a its.toArray from p) (by simp; omega) fun h' eb => ⟨rfl, I.turned (t' := s.toks) (fun b o hb e => eb b o hb e) f0 f1 f3 f4 f5⟩
  self := fun _ _ _ _ _ st h => wpAny_pyIter_tupleiter st h
theorem turn_range {P : Program} {w : World} {K : PySem.W.Frag} {tg : Expr} (it : Addr) (lo : Int) (n : Nat) : Turn P w K tg (Itr lo n) [it] it (fun i h => IsRangeIter h it (lo + (i : Nat) * 1) ((n : Int) - (i : Nat)) 1) where
  mem := by simp
  obj := fun i h st b hb => by
    have e : b = it := by simpa using hb
    subst e
    exact ⟨_, st, fun v z => by
      have z' : Data.fields _ = Data.cell v := z
      cases z'⟩
  keep := fun i h h' st k => k it (by simp) _ st
  item := by
    intro X hP hw hK hc i pins s σ H E I hf st hg
    subst hP hw hK
    obtain ⟨f0, f1, f2, f3, f4, f5⟩ := hf it (by simp)
    have W := Walks.range (prog := X.prog) (w := X.w) (I.ok.hd hc) it lo 1 n
    refine W.item i s _ _ hg st fun v h' tk hv st' kk => ?_
    obtain ⟨t, rfl⟩ := hv
    have I1 : Inv X pins σ H { s with heap := h', toks := tk } := I.turned (fun b o hb e => kk b o (by simpa using hb) e) f0 f1 f3 f4 f5
    refine ⟨_, rfl, go_of (s := { s with heap := h', toks := tk }) (n := "range_iterator") st' rfl rfl (by decide) ⟨.int (lo + i), H, I1, ⟨t, ?_⟩, ⟨rfl, rfl⟩, st', fun b hb => (hf b hb).1⟩⟩
    rw [Int.mul_one]
  done := by
    intro X hP hw hK hc i pins s σ H E I hf st hg
    subst hP hw hK
    obtain ⟨f0, f1, f2, f3, f4, f5⟩ := hf it (by simp)
    exact wpAny_pyNext_range_end (I.ok.hd hc) st (by have : n ≤ i := hg; omega) fun h' eb => ⟨rfl, I.turned (t' := s.toks) (fun b o hb e => eb b o hb e) f0 f1 f3 f4 f5⟩
  self := fun _ _ _ _ _ st h => wpAny_pyIter_rangeiter st h
end L2

namespace L2
open PySem PySem.Spec PyProof.Rows
section
variable {X : Cx} {tg : Expr}
def iList (K : PySem.W.Frag) (tl : TE) : TI := fun σ H R => tl σ H fun x H1 => ∃ a, x = .ref a ∧ (∃ xs, SqL K H1 a xs) ∧ R (Itl K a) H1
def iTup (K : PySem.W.Frag) (tl : TE) : TI := fun σ H R => tl σ H fun x H1 => ∃ a, x = .ref a ∧ (∃ xs, SqT K H1 a xs) ∧ R (Itt K a) H1
theorem pi_list {l : Expr} {tl : TE} (hl : PE X l tl) : PI X tg l (iList X.K tl) := by
  intro pins s σ H R I h
  refine thn (hl pins s σ H _ I h) fun v s1 ⟨x, H1, I1, r1, q1⟩ => ?_
  obtain ⟨a, e, ⟨xs, hq⟩, q⟩ := q1
  subst e
  cases r1
  obtain ⟨its, rv, p, hz⟩ := I1.list hq
  refine wpAny_pyIter_list p.isList ?_
  refine ⟨s1.heap.objs.size, [s1.heap.objs.size], _, _, H1, rfl, I1.kept (t' := s1.toks) fun b o e => Heap.get?_push_of_some _ e, turn_list a _, ⟨_, Heap.get?_push_size _ rfl, rfl, rfl⟩, fun b hb => ?_, q⟩
  have e : b = s1.heap.objs.size := by simpa using hb
  subst e
  exact I1.fpOk (Nat.le_refl _) (I1.hok.fresh (Nat.le_refl _))
theorem pi_tup {l : Expr} {tl : TE} (hl : PE X l tl) : PI X tg l (iTup X.K tl) := by
  intro pins s σ H R I h
  refine thn (hl pins s σ H _ I h) fun v s1 ⟨x, H1, I1, r1, q1⟩ => ?_
  obtain ⟨a, e, ⟨xs, hq⟩, q⟩ := q1
  subst e
  cases r1
  obtain ⟨its, rv, p, hz⟩ := I1.tuple hq
  refine wpAny_pyIter_tuple (show s1.heap.IsTuple a its.toArray from p) ?_
  refine ⟨s1.heap.objs.size, [s1.heap.objs.size], _, _, H1, rfl, I1.kept (t' := s1.toks) fun b o e => Heap.get?_push_of_some _ e, turn_tuple a _, ⟨_, Heap.get?_push_size _ rfl, rfl, rfl⟩, fun b hb => ?_, q⟩
  have e : b = s1.heap.objs.size := by simpa using hb
  subst e
  exact I1.fpOk (Nat.le_refl _) (I1.hok.fresh (Nat.le_refl _))
theorem range_it {pins : List (Addr × Obj)} {σ : St} {H : Hp} {s : Shared} {R : It → Hp → Prop} {E : Value → Shared → Prop} {lo hi : Int} {t u v : Tok} {tk : Nat} (I : Inv X pins σ H s) (h1 : -(2 ^ 62) ≤ lo) (h2 : lo < 2 ^ 62) (h3 : -(2 ^ 62) ≤ hi) (h4 : hi < 2 ^ 62)
    (q : R (Itr lo (hi - lo).toNat) H) : wpAny (model X.prog X.w) X.A (pyIter (.ref s.heap.objs.size)) (PIE X pins σ tg R) E { s with heap := s.heap.push { cls := .type "range", data := .fields #[.int lo t, .int hi u, .int 1 v] }, toks := tk } := by
  refine wpAny_pyIter_range (IsRange.new ..) (small_one h1 h2 h3 h4) ?_
  have I1 : Inv X pins σ H { s with heap := s.heap.push { cls := .type "range", data := .fields #[.int lo t, .int hi u, .int 1 v] }, toks := tk } := I.kept fun b o e => Heap.get?_push_of_some _ e
  refine ⟨(s.heap.push { cls := .type "range", data := .fields #[.int lo t, .int hi u, .int 1 v] }).objs.size, [(s.heap.push { cls := .type "range", data := .fields #[.int lo t, .int hi u, .int 1 v] }).objs.size], _, _, H, rfl,
    I1.kept (t' := tk) fun b o e => Heap.get?_push_of_some _ e, turn_range _ lo (hi - lo).toNat, ?_, fun b hb => ?_, q⟩
  · have e1 : lo + ((0 : Nat) : Int) * 1 = lo := by simp
    have e2 : (((hi - lo).toNat : Nat) : Int) - ((0 : Nat) : Int) = Builtin.Range.rangeSize lo hi 1 := by rw [rangeSize_one]; split <;> omega
    show IsRangeIter _ _ (lo + ((0 : Nat) : Int) * 1) ((((hi - lo).toNat : Nat) : Int) - ((0 : Nat) : Int)) 1
    rw [e1, e2]
    exact Heap.get?_push_size _ rfl
  · have e : b = (s.heap.push { cls := .type "range", data := .fields #[.int lo t, .int hi u, .int 1 v] }).objs.size := by simpa using hb
    subst e
    exact I1.fpOk (Nat.le_refl _) (I1.hok.fresh (Nat.le_refl _))
def iRng1 (ta : TA) : TI := fun σ H R => ta σ H fun vs H1 => ∃ j : Int, vs = [.int j] ∧ -(2 ^ 62) ≤ j ∧ j < 2 ^ 62 ∧ R (Itr 0 j.toNat) H1
def iRng2 (ta : TA) : TI := fun σ H R => ta σ H fun vs H1 => ∃ i j : Int, vs = [.int i, .int j] ∧ (-(2 ^ 62) ≤ i ∧ i < 2 ^ 62 ∧ -(2 ^ 62) ≤ j ∧ j < 2 ^ 62) ∧ R (Itr i (j - i).toNat) H1
theorem pi_range1 {a : Expr} {ta : TA} {p pos : Pos} (hg : Gl X "range") (hm : X.mg "range" = none) (ha : PA X [a] ta) (hs : starEach [a] X.env = [(false, eval a X.env)] := by rfl) : PI X tg (.Call (.Name "range" p) [a] [] pos) (iRng1 ta) := by
  intro pins s σ H R I h
  refine Call_ (ld_blt I hg hm boot_range (PyProof.Rows.callWith_type1 (thn (ha pos pins s σ H _ I h) fun us s1 ⟨vs, H1, I1, r1, q1⟩ => ?_) hs rfl))
  obtain ⟨j, e, q1, q2, q⟩ := q1
  subst e
  cases r1 with
  | cons r rr =>
    cases rr
    obtain ⟨t, rfl⟩ := r
    exact call_range_1 (range_it I1 (by omega) (by omega) q1 q2 (by simpa using q))
theorem pi_range2 {a b : Expr} {ta : TA} {p pos : Pos} (hg : Gl X "range") (hm : X.mg "range" = none) (ha : PA X [a, b] ta) (hs : starEach [a, b] X.env = [(false, eval a X.env), (false, eval b X.env)] := by rfl) (hs2 : starEach [b] X.env = [(false, eval b X.env)] := by rfl) :
    PI X tg (.Call (.Name "range" p) [a, b] [] pos) (iRng2 ta) := by
  intro pins s σ H R I h
  refine Call_ (ld_blt I hg hm boot_range (PyProof.Rows.callWith_type1 (thn (ha pos pins s σ H _ I h) fun us s1 ⟨vs, H1, I1, r1, q1⟩ => ?_) (by rw [hs, hs2]) (by rw [hs2]; rfl)))
  obtain ⟨i, j, e, ⟨q1, q2, q3, q4⟩, q⟩ := q1
  subst e
  cases r1 with
  | cons r rr =>
    cases rr with
    | cons r' rr =>
      cases rr
      obtain ⟨t, rfl⟩ := r
      obtain ⟨t', rfl⟩ := r'
      exact call_range_2 (range_it I1 q1 q2 q3 q4 q)

def tFor (wi : TI) (g : TG) (tb : TS) : TS := fun D σ H => wi σ H fun J H1 => ∃ W : Nat → Nat → St → Hp → Prop, (∃ m, W 0 m σ H1) ∧ ∀ i m σ H, W i m σ H →
  (J.stop i H ∧ D.nx σ H) ∨ (J.go i H ∧ ∃ N : St → Hp → Prop, (∀ σ' H', N σ' H' → ∃ m', m' < m ∧ W (i + 1) m' σ' H') ∧ ∀ x H', J.yld i H x H' → g x σ H' fun σ2 H2 => tb { D with nx := N, ct := N, bk := D.nx } σ2 H2)
def pinsAt (fp : List Addr) (h : Heap) : List (Addr × Obj) := fp.filterMap fun b => (h.get? b).map fun o => (b, o)
theorem mem_pinsAt {fp : List Addr} {h : Heap} {b : Addr} {o : Obj} (hb : b ∈ fp) (e : h.get? b = some o) : (b, o) ∈ pinsAt fp h := List.mem_filterMap.mpr ⟨b, hb, by rw [e]; rfl⟩
theorem of_pinsAt {fp : List Addr} {h : Heap} {p : Addr × Obj} (hp : p ∈ pinsAt fp h) : p.1 ∈ fp ∧ h.get? p.1 = some p.2 := by
  obtain ⟨b, hb, e⟩ := List.mem_filterMap.mp hp
  cases q : h.get? b with
  | none => rw [q] at e; cases e
  | some o =>
    rw [q] at e
    have e' : (b, o) = p := Option.some.inj e
    subst e'
    exact ⟨hb, q⟩
theorem Inv.pinned {pins : List (Addr × Obj)} {σ : St} {H : Hp} {s : Shared} {fp : List Addr} (I : Inv X pins σ H s) (hf : ∀ b ∈ fp, FpOk X pins H b) (ho : ∀ b ∈ fp, ∃ o, s.heap.get? b = some o ∧ ∀ v, o.data ≠ .cell v) : Inv X (pins ++ pinsAt fp s.heap) σ H s :=
  I.pins_of fun p hp => (List.mem_append.mp hp).elim (fun z => I.pin p (List.mem_append_right _ z)) fun z => by
    obtain ⟨hb, e⟩ := of_pinsAt z
    obtain ⟨f0, f1, f2, _⟩ := hf p.1 hb
    obtain ⟨o, e', d⟩ := ho p.1 hb
    rw [e] at e'; cases e'
    exact ⟨e, f0, f1, f2, d⟩
theorem Inv.unpinned {pins pl : List (Addr × Obj)} {σ : St} {H : Hp} {s : Shared} (I : Inv X (pins ++ pl) σ H s) : Inv X pins σ H s := I.pins_of fun p hp => I.pin p (List.mem_append_right _ (List.mem_append_left _ hp))
theorem ps_for {iter : Expr} {body : List Stmt} {wi : TI} {g : TG} {tb : TS} {pos : Pos} (hp : PassesOwn (model X.prog X.w) X.A X.env X.xe) (hc : X.calm = true) (hi : PI X tg iter wi) (hg : PG X tg g) (hb : PSs X body tb)
    (hs : ∀ x, foldedSetIterable iter X.env x = pure x := by intro _; rfl) : PS X (.For tg iter body [] pos) (tFor wi g tb) := by
  intro pins s σ H D I h
  refine wpAny_For (thn (hi pins s σ H _ I h) fun v s1 h1 => thn h1 fun itv s2 h2 => ?_) hs
  obtain ⟨it, fp, tn, J, H2, e, I2, T, st2, f2, W, ⟨m0, w0⟩, turn⟩ := h2
  subst e
  -- what stays true of the iterator's objects through the loop
  have stat : ∀ {H' : Hp}, (∀ b ∈ fp, H' b = none) → ∀ b ∈ fp, FpOk X pins H' b := fun hn b hb => ⟨hn b hb, (f2 b hb).2⟩
  refine codeAny_forLoop_any (fun n s' => ∃ i σ' H', Inv X pins σ' H' s' ∧ tn i s'.heap ∧ (∀ b ∈ fp, H' b = none) ∧ W i n σ' H') ?_ m0 ⟨0, σ, H2, I2, st2, fun b hb => (f2 b hb).1, w0⟩
  rintro n s3 ⟨i, σ3, H3, I3, st3, fr3, w3⟩
  rcases turn i n σ3 H3 w3 with ⟨stop, qn⟩ | ⟨go, N, hN, step⟩
  · refine wpAny_passesOwn hp (thn (T.done X rfl rfl rfl hc i pins s3 σ3 H3 X.xe I3 (stat fr3) st3 stop) fun r s4 ⟨hr, I4⟩ => ?_)
    subst hr
    exact wpAny_execs_nil ⟨σ3, H3, I4, qn⟩
  · refine wpAny_passesOwn hp (thn (T.item X rfl rfl rfl hc i pins s3 σ3 H3 X.xe I3 (stat fr3) st3 go) fun r s4 ⟨u, hr, h4⟩ => ?_)
    subst hr
    refine wpAny_passesOwn hp (thn h4 fun _ s5 ⟨x, H5, I5, r5, y5, st5, fr5⟩ => ?_)
    have I5' := I5.pinned (stat fr5) (T.obj _ _ st5)
    refine wpAny_passesOwn hp (thn (hg _ s5 σ3 H5 x u _ I5' r5 (step x H5 y5)) fun _ s6 ⟨σ6, H6, I6, q6⟩ => ?_)
    refine wpAny_passesOwn hp (thn (hb _ s6 σ6 H6 _ I6 q6) fun f s7 q7 => ?_)
    have again : ∀ {σ7 : St} {H7 : Hp}, Inv X (pins ++ pinsAt fp s5.heap) σ7 H7 s7 → N σ7 H7 → ∃ m, m < n ∧ ∃ i σ' H', Inv X pins σ' H' s7 ∧ tn i s7.heap ∧ (∀ b ∈ fp, H' b = none) ∧ W i m σ' H' := fun {σ7 H7} I7 n7 => by
      obtain ⟨m', hm, w7⟩ := hN σ7 H7 n7
      refine ⟨m', hm, i + 1, σ7, H7, I7.unpinned, T.keep _ _ _ st5 fun b hb o e => (I7.pin (b, o) (List.mem_append_right _ (List.mem_append_right _ (mem_pinsAt hb e)))).1, fun b hb => ?_, w7⟩
      obtain ⟨o, e, d⟩ := T.obj _ _ st5 b hb
      exact (I7.pin (b, o) (List.mem_append_right _ (List.mem_append_right _ (mem_pinsAt hb e)))).2.1
    cases f with
    | next => obtain ⟨σ7, H7, I7, n7⟩ := q7; exact again I7 n7
    | cont => obtain ⟨σ7, H7, I7, n7⟩ := q7; exact again I7 n7
    | brk => obtain ⟨σ7, H7, I7, q7⟩ := q7; exact ⟨σ7, H7, I7.unpinned, q7⟩
    | ret v => obtain ⟨x7, σ7, H7, I7, r7, q7⟩ := q7; exact ⟨x7, σ7, H7, I7.unpinned, r7, q7⟩
end

theorem for_list {K : PySem.W.Frag} {a : Addr} {xs : List V} {g : TG} {tb : TS} {D : Ends} {σ : St} {H : Hp} (Pv : Nat → St → Hp → Prop) (h0 : Pv 0 σ H) (hl : ∀ i σ H, i ≤ xs.length → Pv i σ H → SqL K H a xs)
    (hs : ∀ i x σ H, xs[i]? = some x → Pv i σ H → g x σ H fun σ2 H2 => tb { D with nx := Pv (i + 1), ct := Pv (i + 1), bk := D.nx } σ2 H2) (hd : ∀ σ H, Pv xs.length σ H → D.nx σ H) :
    ∃ W : Nat → Nat → St → Hp → Prop, (∃ m, W 0 m σ H) ∧ ∀ i m σ H, W i m σ H →
      ((Itl K a).stop i H ∧ D.nx σ H) ∨ ((Itl K a).go i H ∧ ∃ N : St → Hp → Prop, (∀ σ' H', N σ' H' → ∃ m', m' < m ∧ W (i + 1) m' σ' H') ∧ ∀ x H', (Itl K a).yld i H x H' → g x σ H' fun σ2 H2 => tb { D with nx := N, ct := N, bk := D.nx } σ2 H2) := by
  refine ⟨fun i m σ H => m = xs.length - i ∧ i ≤ xs.length ∧ Pv i σ H, ⟨xs.length, by simp, Nat.zero_le _, h0⟩, ?_⟩
  rintro i m σ H ⟨rfl, hi, p⟩
  have q := hl i σ H hi p
  by_cases hlt : i < xs.length
  · refine .inr ⟨⟨xs, xs[i], q, by simp [hlt]⟩, Pv (i + 1), fun σ' H' p' => ⟨xs.length - (i + 1), by omega, rfl, hlt, p'⟩, fun x H' y => ?_⟩
    obtain ⟨e, y⟩ := y
    subst e
    exact hs i x σ _ (y xs q) p
  · have e : i = xs.length := by omega
    subst e
    exact .inl ⟨⟨xs, q, Nat.le_refl _⟩, hd σ H p⟩
theorem for_tup {K : PySem.W.Frag} {a : Addr} {xs : List V} {g : TG} {tb : TS} {D : Ends} {σ : St} {H : Hp} (Pv : Nat → St → Hp → Prop) (h0 : Pv 0 σ H) (hl : ∀ i σ H, i ≤ xs.length → Pv i σ H → SqT K H a xs)
    (hs : ∀ i x σ H, xs[i]? = some x → Pv i σ H → g x σ H fun σ2 H2 => tb { D with nx := Pv (i + 1), ct := Pv (i + 1), bk := D.nx } σ2 H2) (hd : ∀ σ H, Pv xs.length σ H → D.nx σ H) :
    ∃ W : Nat → Nat → St → Hp → Prop, (∃ m, W 0 m σ H) ∧ ∀ i m σ H, W i m σ H →
      ((Itt K a).stop i H ∧ D.nx σ H) ∨ ((Itt K a).go i H ∧ ∃ N : St → Hp → Prop, (∀ σ' H', N σ' H' → ∃ m', m' < m ∧ W (i + 1) m' σ' H') ∧ ∀ x H', (Itt K a).yld i H x H' → g x σ H' fun σ2 H2 => tb { D with nx := N, ct := N, bk := D.nx } σ2 H2) := by
  refine ⟨fun i m σ H => m = xs.length - i ∧ i ≤ xs.length ∧ Pv i σ H, ⟨xs.length, by simp, Nat.zero_le _, h0⟩, ?_⟩
  rintro i m σ H ⟨rfl, hi, p⟩
  have q := hl i σ H hi p
  by_cases hlt : i < xs.length
  · refine .inr ⟨⟨xs, xs[i], q, by simp [hlt]⟩, Pv (i + 1), fun σ' H' p' => ⟨xs.length - (i + 1), by omega, rfl, hlt, p'⟩, fun x H' y => ?_⟩
    obtain ⟨e, y⟩ := y
    subst e
    exact hs i x σ _ (y xs q) p
  · have e : i = xs.length := by omega
    subst e
    exact .inl ⟨⟨xs, q, Nat.le_refl _⟩, hd σ H p⟩
theorem for_range {lo : Int} {n : Nat} {g : TG} {tb : TS} {D : Ends} {σ : St} {H : Hp} (Pv : Nat → St → Hp → Prop) (h0 : Pv 0 σ H)
    (hs : ∀ i σ H, i < n → Pv i σ H → g (.int (lo + i)) σ H fun σ2 H2 => tb { D with nx := Pv (i + 1), ct := Pv (i + 1), bk := D.nx } σ2 H2) (hd : ∀ σ H, Pv n σ H → D.nx σ H) :
    ∃ W : Nat → Nat → St → Hp → Prop, (∃ m, W 0 m σ H) ∧ ∀ i m σ H, W i m σ H →
      ((Itr lo n).stop i H ∧ D.nx σ H) ∨ ((Itr lo n).go i H ∧ ∃ N : St → Hp → Prop, (∀ σ' H', N σ' H' → ∃ m', m' < m ∧ W (i + 1) m' σ' H') ∧ ∀ x H', (Itr lo n).yld i H x H' → g x σ H' fun σ2 H2 => tb { D with nx := N, ct := N, bk := D.nx } σ2 H2) := by
  refine ⟨fun i m σ H => m = n - i ∧ i ≤ n ∧ Pv i σ H, ⟨n, by simp, Nat.zero_le _, h0⟩, ?_⟩
  rintro i m σ H ⟨rfl, hi, p⟩
  by_cases hlt : i < n
  · refine .inr ⟨hlt, Pv (i + 1), fun σ' H' p' => ⟨n - (i + 1), by omega, rfl, hlt, p'⟩, fun x H' y => ?_⟩
    obtain ⟨e, y⟩ := y
    subst e y
    exact hs i σ _ hlt p
  · have e : i = n := by omega
    subst e
    exact .inl ⟨Nat.le_refl _, hd σ H p⟩
theorem while_by {c : TT} {tb : TS} {D : Ends} {σ : St} {H : Hp} (Pv : St → Hp → Prop) (μ : St → Hp → Nat) (h0 : Pv σ H)
    (hs : ∀ σ H, Pv σ H → c σ H fun b H1 => if b = true then tb { D with nx := fun σ' H' => Pv σ' H' ∧ μ σ' H' < μ σ H, ct := fun σ' H' => Pv σ' H' ∧ μ σ' H' < μ σ H, bk := D.nx } σ H1 else D.nx σ H1)
    (mono : ∀ σ H Q Q', (∀ b H1, Q b H1 → Q' b H1) → c σ H Q → c σ H Q') : tWhile c tb D σ H := by
  refine ⟨fun m σ H => m = μ σ H ∧ Pv σ H, ⟨_, rfl, h0⟩, ?_⟩
  rintro m σ H ⟨rfl, p⟩
  refine mono σ H _ _ (fun b H1 q => ?_) (hs σ H p)
  cases b with
  | true => exact ⟨_, fun σ' H' ⟨p', l⟩ => ⟨_, l, rfl, p'⟩, q⟩
  | false => exact q
end L2

namespace L2
open PySem PySem.Spec PyProof.Rows

abbrev R2 := V → V → Hp → VK → Prop
def OpR (X : Cx) (f : Value → Value → Sem Value) (r : R2) : Prop :=
  ∀ (pins : List (Addr × Obj)) (s : Shared) (σ : St) (H : Hp) (x y : V) (v u : Value) (Q : VK), Inv X pins σ H s → RelV x v → RelV y u → r x y H Q →
    wpAny (model X.prog X.w) X.A (f v u) (EP X pins σ Q) X.xe s
def UnR (X : Cx) (f : Value → Sem Value) (r : V → Hp → VK → Prop) : Prop :=
  ∀ (pins : List (Addr × Obj)) (s : Shared) (σ : St) (H : Hp) (x : V) (v : Value) (Q : VK), Inv X pins σ H s → RelV x v → r x H Q →
    wpAny (model X.prog X.w) X.A (f v) (EP X pins σ Q) X.xe s
def CallR (X : Cx) (f : Value) (r : List V → Hp → VK → Prop) : Prop :=
  ∀ (pins : List (Addr × Obj)) (s : Shared) (σ : St) (H : Hp) (xs : List V) (us : List Value) (Q : VK), Inv X pins σ H s → Vals xs us → r xs H Q →
    wpAny (model X.prog X.w) X.A (call f us) (EP X pins σ Q) X.xe s
def TruR (X : Cx) (r : V → Hp → (Bool → Hp → Prop) → Prop) : Prop :=
  ∀ (pins : List (Addr × Obj)) (s : Shared) (σ : St) (H : Hp) (x : V) (v : Value) (Q : Bool → Hp → Prop), Inv X pins σ H s → RelV x v → r x H Q →
    wpAny (model X.prog X.w) X.A (truthy v) (TP X pins σ Q) X.xe s

def tOp (r : R2) (ta tb : TE) : TE := fun σ H Q => ta σ H fun x H1 => tb σ H1 fun y H2 => r x y H2 Q
def tUn (r : V → Hp → VK → Prop) (ta : TE) : TE := fun σ H Q => ta σ H fun x H1 => r x H1 Q
def rI (C : Int → Int → Prop) (g : Int → Int → V) : R2 := fun x y H Q => ∃ i j, x = .int i ∧ y = .int j ∧ C i j ∧ Q (g i j) H
def rI0 (g : Int → Int → V) : R2 := fun x y H Q => ∃ i j, x = .int i ∧ y = .int j ∧ Q (g i j) H
def rU (g : Int → V) : V → Hp → VK → Prop := fun x H Q => ∃ i, x = .int i ∧ Q (g i) H

section
variable {X : Cx} {a b c : Expr} {ta tb tc : TE} {pos : Pos}

theorem binT (ha : PE X a ta) (hb : PE X b tb) {pins : List (Addr × Obj)} {s : Shared} {σ : St} {H : Hp} {R : V → V → Hp → Prop} (I : Inv X pins σ H s)
    (h : ta σ H fun x H1 => tb σ H1 fun y H2 => R x y H2) {Q : Value → Shared → Prop} {f : Value → Value → Sem Value}
    (hf : ∀ v u s2 x y H2, Inv X pins σ H2 s2 → RelV x v → RelV y u → R x y H2 → wpAny (model X.prog X.w) X.A (f v u) Q X.xe s2) :
    wpAny (model X.prog X.w) X.A (eval a X.env) (fun v s₁ => wpAny (model X.prog X.w) X.A (eval b X.env) (fun u s₂ => wpAny (model X.prog X.w) X.A (f v u) Q X.xe s₂) X.xe s₁) X.xe s := by
  refine thn (ha pins s σ H _ I h) fun v s1 ⟨x, H1, I1, r1, q1⟩ => ?_
  refine thn (hb pins s1 σ H1 _ I1 q1) fun u s2 ⟨y, H2, I2, r2, q2⟩ => ?_
  exact hf v u s2 x y H2 I2 r1 r2 q2

theorem pe_op {op : Operator} {r : R2} (ho : OpR X (binaryOp op) r) (ha : PE X a ta) (hb : PE X b tb) : PE X (.BinOp a op b pos) (tOp r ta tb) := by
  intro pins s σ H Q I h
  exact wpAny_BinOp (binT ha hb I h fun v u s2 x y H2 I2 rx ry q => ho pins s2 σ H2 x y v u Q I2 rx ry q)
theorem pe_un {op : UnaryOp} {r : V → Hp → VK → Prop} (ho : UnR X (unaryOp op) r) (ha : PE X a ta) : PE X (.UnaryOp op a pos) (tUn r ta) := by
  intro pins s σ H Q I h
  exact UnaryOp_ (thn (ha pins s σ H _ I h) fun v s1 ⟨x, H1, I1, r1, q1⟩ => ho pins s1 σ H1 x v Q I1 r1 q1)
theorem augR {op : Operator} {r : R2} (ho : OpR X (inplaceOp op) r) {pins : List (Addr × Obj)} {s : Shared} {σ : St} {H : Hp} {x y : V} {v u : Value} {Q : VK} (I : Inv X pins σ H s)
    (rx : RelV x v) (ry : RelV y u) (q : r x y H Q) : wpAny (model X.prog X.w) X.A (inplaceOp op v u) (EP X pins σ Q) X.xe s := ho pins s σ H x y v u Q I rx ry q

theorem opI {f : Value → Value → Sem Value} {C : Int → Int → Prop} {g : Int → Int → Int}
    (rule : ∀ (i j : Int) (t u : Tok) (s : Shared) (Q : Value → Shared → Prop) (E : Value → Shared → Prop), C i j → Q (.int (g i j) s.toks) { s with toks := s.toks + 1 } → wpAny (model X.prog X.w) X.A (f (.int i t) (.int j u)) Q E s) :
    OpR X f (rI C fun i j => .int (g i j)) := by
  intro pins s σ H x y v u Q I rx ry h
  obtain ⟨i, j, rfl, rfl, hc, q⟩ := h
  obtain ⟨t, rfl⟩ := rx
  obtain ⟨t', rfl⟩ := ry
  exact rule i j t t' s _ _ hc ⟨.int (g i j), H, I.tok _, ⟨_, rfl⟩, q⟩
theorem opI0 {f : Value → Value → Sem Value} {g : Int → Int → Int}
    (rule : ∀ (i j : Int) (t u : Tok) (s : Shared) (Q : Value → Shared → Prop) (E : Value → Shared → Prop), Q (.int (g i j) s.toks) { s with toks := s.toks + 1 } → wpAny (model X.prog X.w) X.A (f (.int i t) (.int j u)) Q E s) :
    OpR X f (rI0 fun i j => .int (g i j)) := by
  intro pins s σ H x y v u Q I rx ry h
  obtain ⟨i, j, rfl, rfl, q⟩ := h
  obtain ⟨t, rfl⟩ := rx
  obtain ⟨t', rfl⟩ := ry
  exact rule i j t t' s _ _ ⟨.int (g i j), H, I.tok _, ⟨_, rfl⟩, q⟩
theorem opB0 {f : Value → Value → Sem Value} {g : Int → Int → Bool}
    (rule : ∀ (i j : Int) (t u : Tok) (s : Shared) (Q : Value → Shared → Prop) (E : Value → Shared → Prop), Q (.bool (g i j)) s → wpAny (model X.prog X.w) X.A (f (.int i t) (.int j u)) Q E s) :
    OpR X f (rI0 fun i j => .bl (g i j)) := by
  intro pins s σ H x y v u Q I rx ry h
  obtain ⟨i, j, rfl, rfl, q⟩ := h
  obtain ⟨t, rfl⟩ := rx
  obtain ⟨t', rfl⟩ := ry
  exact rule i j t t' s _ _ ⟨.bl (g i j), H, I, rfl, q⟩

def CDiv (i j : Int) : Prop := 0 < j ∧ j < 1073741824
def CDivN (i j : Int) : Prop := j ≠ 0 ∧ j.natAbs < 1073741824
def CPow (i j : Int) : Prop := 0 ≤ j ∧ j ≤ 1000000 ∧ i.natAbs < 2 ^ 64
def CMul (i j : Int) : Prop := (-(2 ^ 64) < i ∧ i < 2 ^ 64) ∨ (-(2 ^ 64) < j ∧ j < 2 ^ 64)
theorem CMul.ok {i j : Int} (h : CMul i j) : IntMulOk i j := by
  rcases h with ⟨h1, h2⟩ | ⟨h1, h2⟩
  · exact .of_left (intBits_le_64 h1 h2)
  · exact .of_right (intBits_le_64 h1 h2)
theorem two_pow_nn (k : Nat) : (0 : Int) ≤ 2 ^ k := by
  rw [two_pow_cast]
  exact Int.natCast_nonneg _

theorem op_add : OpR X (binaryOp .Add) (rI0 fun i j => .int (i + j)) := opI0 fun _ _ _ _ _ _ _ q => add_int q
theorem op_sub : OpR X (binaryOp .Sub) (rI0 fun i j => .int (i - j)) := opI0 fun _ _ _ _ _ _ _ q => sub_int q
theorem op_mul : OpR X (binaryOp .Mult) (rI CMul fun i j => .int (i * j)) := opI fun _ _ _ _ _ _ _ hc q => mul_int q hc.ok
theorem op_fdiv : OpR X (binaryOp .FloorDiv) (rI CDiv fun i j => .int (i / j)) := opI fun i j _ _ _ _ _ hc q => by
  have h1 : (0 : Int) < j := hc.1
  have h2 : j < 1073741824 := hc.2
  exact floordiv_int (by omega) (by rw [Int.fdiv_eq_ediv_of_nonneg i (by omega)]; exact q) (.inl (PyProof.noPylong_small (by omega)))
theorem op_fdivN : OpR X (binaryOp .FloorDiv) (rI CDivN fun i j => .int (i.fdiv j)) := opI fun _ _ _ _ _ _ _ hc q => floordiv_int hc.1 q (.inl (PyProof.noPylong_small hc.2))
theorem op_mod : OpR X (binaryOp .Mod) (rI (fun _ j => 0 < j) fun i j => .int (i % j)) := opI fun i j _ _ _ _ _ hc q => by
  have h1 : (0 : Int) < j := hc
  exact mod_int' (by omega) (by rw [Int.fmod_eq_emod_of_nonneg i (by omega)]; exact q)
theorem op_modN : OpR X (binaryOp .Mod) (rI (fun _ j => j ≠ 0) fun i j => .int (i.fmod j)) := opI fun _ _ _ _ _ _ _ hc q => mod_int' hc q
theorem op_pow : OpR X (binaryOp .Pow) (rI CPow fun i j => .int (i ^ j.toNat)) := opI fun _ _ _ _ _ _ _ hc q => pow_int_small hc.1 hc.2.1 hc.2.2 q
theorem op_shl : OpR X (binaryOp .LShift) (rI CPow fun i j => .int (i * 2 ^ j.toNat)) := opI fun _ _ _ _ _ _ _ hc q => lshift_int_small hc.1 hc.2.1 hc.2.2 q
theorem op_shr : OpR X (binaryOp .RShift) (rI (fun _ j => 0 ≤ j) fun i j => .int (i / 2 ^ j.toNat)) := opI fun i j _ _ _ _ _ hc q =>
  rshift_int hc (by rw [Int.fdiv_eq_ediv_of_nonneg i (two_pow_nn _)]; exact q)
theorem op_and : OpR X (binaryOp .BitAnd) (rI0 fun i j => .int (Builtin.bitAnd i j)) := opI0 fun _ _ _ _ _ _ _ q => and_int q
theorem op_or : OpR X (binaryOp .BitOr) (rI0 fun i j => .int (Builtin.bitOr i j)) := opI0 fun _ _ _ _ _ _ _ q => or_int q
theorem op_xor : OpR X (binaryOp .BitXor) (rI0 fun i j => .int (Builtin.bitXor i j)) := opI0 fun _ _ _ _ _ _ _ q => xor_int q

theorem iop_add : OpR X (inplaceOp .Add) (rI0 fun i j => .int (i + j)) := opI0 fun _ _ _ _ _ _ _ q => iadd_int q
theorem iop_sub : OpR X (inplaceOp .Sub) (rI0 fun i j => .int (i - j)) := opI0 fun _ _ _ _ _ _ _ q => isub_int q
theorem iop_mul : OpR X (inplaceOp .Mult) (rI CMul fun i j => .int (i * j)) := opI fun _ _ _ _ _ _ _ hc q => imul_int q hc.ok
theorem iop_fdiv : OpR X (inplaceOp .FloorDiv) (rI CDiv fun i j => .int (i / j)) := opI fun i j _ _ _ _ _ hc q => by
  have h1 : (0 : Int) < j := hc.1
  have h2 : j < 1073741824 := hc.2
  exact ifloordiv_int (by omega) (by rw [Int.fdiv_eq_ediv_of_nonneg i (by omega)]; exact q) (.inl (PyProof.noPylong_small (by omega)))
theorem iop_mod : OpR X (inplaceOp .Mod) (rI (fun _ j => 0 < j) fun i j => .int (i % j)) := opI fun i j _ _ _ _ _ hc q => by
  have h1 : (0 : Int) < j := hc
  exact imod_int (by omega) (by rw [Int.fmod_eq_emod_of_nonneg i (by omega)]; exact q)
theorem iop_shl : OpR X (inplaceOp .LShift) (rI CPow fun i j => .int (i * 2 ^ j.toNat)) := opI fun _ _ _ _ _ _ _ hc q => ilshift_int_small hc.1 hc.2.1 hc.2.2 q
theorem iop_shr : OpR X (inplaceOp .RShift) (rI (fun _ j => 0 ≤ j) fun i j => .int (i / 2 ^ j.toNat)) := opI fun i j _ _ _ _ _ hc q =>
  irshift_int hc (by rw [Int.fdiv_eq_ediv_of_nonneg i (two_pow_nn _)]; exact q)
theorem iop_and : OpR X (inplaceOp .BitAnd) (rI0 fun i j => .int (Builtin.bitAnd i j)) := opI0 fun _ _ _ _ _ _ _ q => iand_int q
theorem iop_or : OpR X (inplaceOp .BitOr) (rI0 fun i j => .int (Builtin.bitOr i j)) := opI0 fun _ _ _ _ _ _ _ q => ior_int q
theorem iop_xor : OpR X (inplaceOp .BitXor) (rI0 fun i j => .int (Builtin.bitXor i j)) := opI0 fun _ _ _ _ _ _ _ q => ixor_int q

theorem unI {f : Value → Sem Value} {g : Int → Int}
    (rule : ∀ (i : Int) (t : Tok) (s : Shared) (Q : Value → Shared → Prop) (E : Value → Shared → Prop), Q (.int (g i) s.toks) { s with toks := s.toks + 1 } → wpAny (model X.prog X.w) X.A (f (.int i t)) Q E s) :
    UnR X f (rU fun i => .int (g i)) := by
  intro pins s σ H x v Q I rx h
  obtain ⟨i, rfl, q⟩ := h
  obtain ⟨t, rfl⟩ := rx
  exact rule i t s _ _ ⟨.int (g i), H, I.tok _, ⟨_, rfl⟩, q⟩
theorem un_neg : UnR X (unaryOp .USub) (rU fun i => .int (-i)) := unI fun _ _ _ _ _ q => neg_int q
theorem un_inv : UnR X (unaryOp .Invert) (rU fun i => .int (Builtin.bitNot i)) := unI fun _ _ _ _ _ q => invert_int q

theorem op_add_ib : OpR X (binaryOp .Add) (fun x y H Q => ∃ i k, x = .int i ∧ y = .bl k ∧ Q (.int (i + b2i k)) H) := by
  intro pins s σ H x y v u Q I rx ry h
  obtain ⟨i, k, rfl, rfl, q⟩ := h
  obtain ⟨t, rfl⟩ := rx
  cases ry
  exact add_int_bool ⟨.int (i + b2i k), H, I.tok _, ⟨_, rfl⟩, q⟩
end

def scal : V → V → Bool
  | .non, .non => true | .non, .int _ => true | .int _, .non => true | .non, .bl _ => true | .bl _, .non => true | .non, .str _ => true | .str _, .non => true
  | .int _, .int _ => true | .bl _, .bl _ => true | .str _, .str _ => true | .byt _, .byt _ => true
  | .int _, .str _ => true | .str _, .int _ => true | .bl _, .str _ => true | .str _, .bl _ => true
  | _, _ => false
def rEq : R2 := fun x y H Q => scal x y = true ∧ Q (.bl (decide (x = y))) H
def rNe : R2 := fun x y H Q => scal x y = true ∧ Q (.bl (!decide (x = y))) H

theorem dec_int {i j : Int} : decide (V.int i = V.int j) = (i == j) := by
  rw [Bool.eq_iff_iff]
  simp
theorem dec_bl {i j : Bool} : decide (V.bl i = V.bl j) = (i == j) := by
  rw [Bool.eq_iff_iff]
  simp
theorem dec_str {i j : Str} : decide (V.str i = V.str j) = (i == j) := by
  rw [Bool.eq_iff_iff]
  simp
theorem dec_byt {i j : Array UInt8} : decide (V.byt i = V.byt j) = (i.toList == j.toList) := by
  rw [Bool.eq_iff_iff]
  cases i
  cases j
  simp

section
variable {X : Cx} {a b c : Expr} {ta tb tc : TE} {pos : Pos}
theorem fin_bl {pins : List (Addr × Obj)} {σ : St} {H : Hp} {s : Shared} {Q : VK} {k k' : Bool} (I : Inv X pins σ H s) (q : Q (.bl k) H) (e : k = k') : EP X pins σ Q (.bool k') s := by
  subst e
  exact ⟨.bl k, H, I, rfl, q⟩
theorem op_eq : OpR X (compareOp .Eq) rEq := by
  intro pins s σ H x y v u Q I rx ry h
  obtain ⟨hs, q⟩ := h
  cases x with
  | non =>
    cases rx
    cases y with
    | non => cases ry; exact PySem.EqNone.eq_none_none (fin_bl I q (by simp))
    | bl j => cases ry; exact PySem.EqNone.eq_none_bool (fin_bl I q (by simp))
    | int j => obtain ⟨t', rfl⟩ := ry; exact PySem.EqNone.eq_none_int (fin_bl I q (by simp))
    | str j => obtain ⟨t', rfl⟩ := ry; exact PySem.EqNone.eq_none_str (fin_bl I q (by simp))
    | _ => exact absurd (show false = true from hs) Bool.false_ne_true
  | bl i =>
    cases rx
    cases y with
    | non => cases ry; exact PySem.EqNone.eq_bool_none (fin_bl I q (by simp))
    | bl j => cases ry; exact eq_bool (fin_bl I q dec_bl)
    | str j => obtain ⟨t', rfl⟩ := ry; exact PySem.EqMixed.eq_bool_str (fin_bl I q (by simp))
    | _ => exact absurd (show false = true from hs) Bool.false_ne_true
  | int i =>
    obtain ⟨t, rfl⟩ := rx
    cases y with
    | non => cases ry; exact PySem.EqNone.eq_int_none (fin_bl I q (by simp))
    | int j => obtain ⟨t', rfl⟩ := ry; exact eq_int (fin_bl I q dec_int)
    | str j => obtain ⟨t', rfl⟩ := ry; exact PySem.EqMixed.eq_int_str (fin_bl I q (by simp))
    | _ => exact absurd (show false = true from hs) Bool.false_ne_true
  | str i =>
    obtain ⟨t, rfl⟩ := rx
    cases y with
    | non => cases ry; exact PySem.EqNone.eq_str_none (fin_bl I q (by simp))
    | bl j => cases ry; exact PySem.EqMixed.eq_str_bool (fin_bl I q (by simp))
    | int j => obtain ⟨t', rfl⟩ := ry; exact PySem.EqMixed.eq_str_int (fin_bl I q (by simp))
    | str j => obtain ⟨t', rfl⟩ := ry; exact eq_str (fin_bl I q dec_str)
    | _ => exact absurd (show false = true from hs) Bool.false_ne_true
  | byt i =>
    obtain ⟨t, rfl⟩ := rx
    cases y with
    | byt j => obtain ⟨t', rfl⟩ := ry; exact PySem.W.eq_bytes (fin_bl I q dec_byt)
    | _ => exact absurd (show false = true from hs) Bool.false_ne_true
  | _ => cases y <;> exact absurd (show false = true from hs) Bool.false_ne_true
theorem op_ne : OpR X (compareOp .NotEq) rNe := by
  intro pins s σ H x y v u Q I rx ry h
  obtain ⟨hs, q⟩ := h
  cases x with
  | non =>
    cases rx
    cases y with
    | non => cases ry; exact PySem.EqNone.ne_none_none (fin_bl I q (by simp))
    | bl j => cases ry; exact PySem.EqNone.ne_none_bool (fin_bl I q (by simp))
    | int j => obtain ⟨t', rfl⟩ := ry; exact PySem.EqNone.ne_none_int (fin_bl I q (by simp))
    | str j => obtain ⟨t', rfl⟩ := ry; exact PySem.EqNone.ne_none_str (fin_bl I q (by simp))
    | _ => exact absurd (show false = true from hs) Bool.false_ne_true
  | bl i =>
    cases rx
    cases y with
    | non => cases ry; exact PySem.EqNone.ne_bool_none (fin_bl I q (by simp))
    | bl j => cases ry; exact ne_bool (fin_bl I q (congrArg not dec_bl))
    | str j => obtain ⟨t', rfl⟩ := ry; exact PySem.EqMixed.ne_bool_str (fin_bl I q (by simp))
    | _ => exact absurd (show false = true from hs) Bool.false_ne_true
  | int i =>
    obtain ⟨t, rfl⟩ := rx
    cases y with
    | non => cases ry; exact PySem.EqNone.ne_int_none (fin_bl I q (by simp))
    | int j => obtain ⟨t', rfl⟩ := ry; exact ne_int (fin_bl I q (congrArg not dec_int))
    | str j => obtain ⟨t', rfl⟩ := ry; exact PySem.EqMixed.ne_int_str (fin_bl I q (by simp))
    | _ => exact absurd (show false = true from hs) Bool.false_ne_true
  | str i =>
    obtain ⟨t, rfl⟩ := rx
    cases y with
    | non => cases ry; exact PySem.EqNone.ne_str_none (fin_bl I q (by simp))
    | bl j => cases ry; exact PySem.EqMixed.ne_str_bool (fin_bl I q (by simp))
    | int j => obtain ⟨t', rfl⟩ := ry; exact PySem.EqMixed.ne_str_int (fin_bl I q (by simp))
    | str j => obtain ⟨t', rfl⟩ := ry; exact ne_str (fin_bl I q (congrArg not dec_str))
    | _ => exact absurd (show false = true from hs) Bool.false_ne_true
  | byt i =>
    obtain ⟨t, rfl⟩ := rx
    cases y with
    | byt j => obtain ⟨t', rfl⟩ := ry; exact PySem.W.ne_bytes (fin_bl I q (congrArg not dec_byt))
    | _ => exact absurd (show false = true from hs) Bool.false_ne_true
  | _ => cases y <;> exact absurd (show false = true from hs) Bool.false_ne_true

theorem op_lt : OpR X (compareOp .Lt) (rI0 fun i j => .bl (decide (i < j))) := opB0 fun _ _ _ _ _ _ _ q => lt_int q
theorem op_le : OpR X (compareOp .LtE) (rI0 fun i j => .bl (decide (i ≤ j))) := opB0 fun _ _ _ _ _ _ _ q => le_int q
theorem op_gt : OpR X (compareOp .Gt) (rI0 fun i j => .bl (decide (j < i))) := opB0 fun _ _ _ _ _ _ _ q => gt_int q
theorem op_ge : OpR X (compareOp .GtE) (rI0 fun i j => .bl (decide (j ≤ i))) := opB0 fun _ _ _ _ _ _ _ q => ge_int q
theorem op_lt_str : OpR X (compareOp .Lt) (fun x y H Q => ∃ i j, x = .str i ∧ y = .str j ∧ Q (.bl (decide (i.cps.toList < j.cps.toList))) H) := by
  intro pins s σ H x y v u Q I rx ry h
  obtain ⟨i, j, rfl, rfl, q⟩ := h
  obtain ⟨t, rfl⟩ := rx
  obtain ⟨t', rfl⟩ := ry
  exact lt_str (fin_bl I q rfl)
theorem op_in_str : OpR X (compareOp .In) (fun x y H Q => ∃ i j, x = .str i ∧ y = .str j ∧ Q (.bl (!(Builtin.Str.occurrences j i 0 j.length 1).isEmpty)) H) := by
  intro pins s σ H x y v u Q I rx ry h
  obtain ⟨i, j, rfl, rfl, q⟩ := h
  obtain ⟨t, rfl⟩ := rx
  obtain ⟨t', rfl⟩ := ry
  exact in_str (fin_bl I q rfl)

theorem op_isN : OpR X (compareOp .Is) (fun x y H Q => y = .non ∧ Q (.bl (decide (x = .non))) H) := by
  intro pins s σ H x y v u Q I rx ry h
  obtain ⟨rfl, q⟩ := h
  cases ry
  refine is_none_gen (fin_bl I q ?_)
  cases x <;> first
    | (cases rx; rfl)
    | (obtain ⟨t, rfl⟩ := rx; rfl)
theorem op_notN : OpR X (compareOp .IsNot) (fun x y H Q => y = .non ∧ Q (.bl (!decide (x = .non))) H) := by
  intro pins s σ H x y v u Q I rx ry h
  obtain ⟨rfl, q⟩ := h
  cases ry
  refine isnot_none_gen (fin_bl I q ?_)
  cases x <;> first
    | (cases rx; rfl)
    | (obtain ⟨t, rfl⟩ := rx; rfl)

theorem op_notin_str : OpR X (compareOp .NotIn) (fun x y H Q => ∃ i j, x = .str i ∧ y = .str j ∧ Q (.bl (!(!(Builtin.Str.occurrences j i 0 j.length 1).isEmpty))) H) := by
  intro pins s σ H x y v u Q I rx ry h
  obtain ⟨i, j, rfl, rfl, q⟩ := h
  obtain ⟨t, rfl⟩ := rx
  obtain ⟨t', rfl⟩ := ry
  exact notIn_str (fin_bl I q rfl)
def isObj : HO → Bool
  | .lst _ => true
  | .ins _ _ _ => true
  | _ => false
theorem obj_there {pins : List (Addr × Obj)} {s : Shared} {σ : St} {H : Hp} {a : Addr} {o : HO} (I : Inv X pins σ H s) (h : H a = some o) (p : isObj o = true) : ∃ ob, s.heap.get? a = some ob ∧ ob.cls ≠ .type "tuple" := by
  cases o with
  | lst xs =>
    obtain ⟨_, its, n, _, e⟩ : xs.length ≤ sizeLine ∧ ∃ (its : List Value) (n : Nat), Vals xs its ∧ s.heap.get? a = some { cls := .type "list", data := .seq its.toArray n } := I.hok a _ h
    exact ⟨_, e, (by show Value.type "list" ≠ .type "tuple"; decide +kernel)⟩
  | ins C dx fs =>
    have x := I.hok a _ h
    obtain ⟨_, _, _, e, _⟩ := x
    exact ⟨_, e, (by show Value.ref C ≠ .type "tuple"; exact fun z => by cases z)⟩
  | _ => exact absurd (show false = true from p) Bool.false_ne_true
theorem op_is_ref : OpR X (compareOp .Is) (fun x y H Q => ∃ a b oa ob, x = .ref a ∧ y = .ref b ∧ H a = some oa ∧ isObj oa = true ∧ H b = some ob ∧ isObj ob = true ∧ Q (.bl (decide (a = b))) H) := by
  intro pins s σ H x y v u Q I rx ry h
  obtain ⟨a, b, oa, ob, rfl, rfl, ha, pa, hb, pb, q⟩ := h
  cases rx
  cases ry
  obtain ⟨o1, e1, n1⟩ := obj_there I ha pa
  obtain ⟨o2, e2, _⟩ := obj_there I hb pb
  by_cases z : a = b
  · subst z
    exact wpAny_is_ref_self (fin_bl I q (by simp))
  · exact wpAny_is_ref_other z e1 e2 n1 (fin_bl I q (by simp [z]))
theorem op_isnot_ref : OpR X (compareOp .IsNot) (fun x y H Q => ∃ a b oa ob, x = .ref a ∧ y = .ref b ∧ H a = some oa ∧ isObj oa = true ∧ H b = some ob ∧ isObj ob = true ∧ Q (.bl (!decide (a = b))) H) := by
  intro pins s σ H x y v u Q I rx ry h
  obtain ⟨a, b, oa, ob, rfl, rfl, ha, pa, hb, pb, q⟩ := h
  cases rx
  cases ry
  obtain ⟨o1, e1, n1⟩ := obj_there I ha pa
  obtain ⟨o2, e2, _⟩ := obj_there I hb pb
  by_cases z : a = b
  · subst z
    exact wpAny_isNot_ref_self (fin_bl I q (by simp))
  · exact wpAny_isNot_ref_other z e1 e2 n1 (fin_bl I q (by simp [z]))

theorem OpR.or {f : Value → Value → Sem Value} {r r' : R2} (h : OpR X f r) (h' : OpR X f r') : OpR X f (fun x y H Q => r x y H Q ∨ r' x y H Q) := by
  intro pins s σ H x y v u Q I rx ry q
  rcases q with q | q
  · exact h pins s σ H x y v u Q I rx ry q
  · exact h' pins s σ H x y v u Q I rx ry q

theorem nomark (b : Expr) {op : CmpOp} (h : op ≠ .In := by decide) (h2 : op ≠ .NotIn := by decide) : behindInMarks op b = false := by
  have e1 : (op == CmpOp.In) = false := by cases op <;> first | rfl | exact absurd rfl h
  have e2 : (op == CmpOp.NotIn) = false := by cases op <;> first | rfl | exact absurd rfl h2
  cases b <;> simp [behindInMarks, e1, e2]
theorem pe_cmpR {op : CmpOp} {r : R2} (ho : OpR X (compareOp op) r) (ha : PE X a ta) (hb : PE X b tb) (hm : behindInMarks op b = false) : PE X (.Compare a [op] [b] pos) (tOp r ta tb) := by
  intro pins s σ H Q I h
  exact wpAny_Compare1 (binT ha hb I h fun v u s2 x y H2 I2 rx ry q => ho pins s2 σ H2 x y v u Q I2 rx ry q) hm
def tTest (t : TE) : TT := fun σ H Q => t σ H fun x H' => ∃ k, x = .bl k ∧ Q k H'
theorem pt_cmpR {op : CmpOp} {r : R2} (ho : OpR X (compareOp op) r) (ha : PE X a ta) (hb : PE X b tb) (hm : behindInMarks op b = false) : PT X (.Compare a [op] [b] pos) (tTest (tOp r ta tb)) := by
  intro pins s σ H Q I h
  refine wpAny_isTrue_Compare1 (thn (ha pins s σ H _ I h) fun v s1 ⟨x, H1, I1, r1, q1⟩ => thn (hb pins s1 σ H1 _ I1 q1) fun u s2 ⟨y, H2, I2, r2, q2⟩ =>
    thn (ho pins s2 σ H2 x y v u _ I2 r1 r2 q2) fun c s3 ⟨z, H3, I3, r3, k, e, q3⟩ => ?_) hm
  subst e
  cases r3
  exact wpAny_truthy_bool ⟨H3, I3, q3⟩
def tChain (r r' : R2) (ta tb tc : TE) : TE := fun σ H Q => ta σ H fun x H1 => tb σ H1 fun y H2 => r x y H2 fun z H3 => ∃ k, z = .bl k ∧
  (if k = true then tc σ H3 fun w' H4 => r' y w' H4 Q else Q (.bl false) H3)
theorem pe_chain {op op' : CmpOp} {r r' : R2} (ho : OpR X (compareOp op) r) (ho' : OpR X (compareOp op') r') (ha : PE X a ta) (hb : PE X b tb) (hc : PE X c tc)
    (hm : lastMarks [op, op'] [b, c] = false := by with_unfolding_all rfl) : PE X (.Compare a [op, op'] [b, c] pos) (tChain r r' ta tb tc) := by
  intro pins s σ H Q I h
  refine Compare_chain (thn (ha pins s σ H _ I h) fun v s1 ⟨x, H1, I1, r1, q1⟩ => chain_link (thn (hb pins s1 σ H1 _ I1 q1) fun u s2 ⟨y, H2, I2, r2, q2⟩ =>
    thn (ho pins s2 σ H2 x y v u _ I2 r1 r2 q2) fun d s3 ⟨z, H3, I3, r3, k, e, q3⟩ => ?_)) hm
  subst e
  cases r3
  refine wpAny_truthy_bool ?_
  cases k with
  | false => exact ite_ff ⟨.bl false, H3, I3, rfl, q3⟩
  | true => exact ite_tt (chain_last (thn (hc pins s3 σ H3 _ I3 q3) fun w' s4 ⟨z', H4, I4, r4, q4⟩ => ho' pins s4 σ H4 y z' u w' Q I4 r2 r4 q4))
theorem pt_chain {op op' : CmpOp} {r r' : R2} (ho : OpR X (compareOp op) r) (ho' : OpR X (compareOp op') r') (ha : PE X a ta) (hb : PE X b tb) (hc : PE X c tc)
    (hm : lastMarks [op, op'] [b, c] = false := by with_unfolding_all rfl) : PT X (.Compare a [op, op'] [b, c] pos) (tTest (tChain r r' ta tb tc)) := by
  intro pins s σ H Q I h
  refine isTrue_chain (thn (ha pins s σ H _ I h) fun v s1 ⟨x, H1, I1, r1, q1⟩ => test_link (thn (hb pins s1 σ H1 _ I1 q1) fun u s2 ⟨y, H2, I2, r2, q2⟩ =>
    thn (ho pins s2 σ H2 x y v u _ I2 r1 r2 q2) fun d s3 ⟨z, H3, I3, r3, k, e, q3⟩ => ?_)) hm
  subst e
  cases r3
  refine wpAny_truthy_bool ?_
  cases k with
  | false =>
    obtain ⟨k', e', q'⟩ := q3
    cases e'
    exact ite_ff ⟨H3, I3, q'⟩
  | true =>
    refine ite_tt (test_last (thn (hc pins s3 σ H3 _ I3 q3) fun w' s4 ⟨z', H4, I4, r4, q4⟩ => thn (ho' pins s4 σ H4 y z' u w' _ I4 r2 r4 q4) fun d' s5 ⟨z2, H5, I5, r5, k2, e2, q5⟩ => ?_))
    subst e2
    cases r5
    exact wpAny_truthy_bool ⟨H5, I5, q5⟩

def TruV (K : PySem.W.Frag) (x : V) (H : Hp) (k : Bool) : Prop :=
  match x with
  | .non => k = false
  | .bl b => k = b
  | .int i => k = (i != 0)
  | .str y => y.length ≤ sizeLine ∧ k = ((y.length : Int) != 0)
  | .byt y => y.size ≤ sizeLine ∧ k = ((y.size : Int) != 0)
  | .ref p => (∃ xs, SqL K H p xs ∧ k = !xs.isEmpty) ∨ (∃ xs, SqT K H p xs ∧ k = !xs.isEmpty) ∨ ∃ kvs, H p = some (.dK kvs) ∧ k = !kvs.isEmpty
  | _ => False
theorem isEmpty_kv {κ : Type} {kvs : List (κ × V)} {vs : List (κ × Value)} (r : KV kvs vs) : (!vs.isEmpty) = !kvs.isEmpty := by
  cases r <;> rfl
theorem isEmpty_of {xs : List V} {its : List Value} (r : Vals xs its) : (!its.toArray.isEmpty) = !xs.isEmpty := by
  cases r <;> simp
theorem line63 : (sizeLine : Nat) < 2 ^ 63 := by rw [sizeLine_eq]; decide
theorem tru_ok : TruR X (fun x H Q => ∃ k, TruV X.K x H k ∧ Q k H) := by
  intro pins s σ H x v Q I rx h
  obtain ⟨k, e, q⟩ := h
  have hl := line63
  have hs : sizeLine = 16777216 := sizeLine_eq
  cases x with
  | non =>
    cases rx
    have e' : k = false := e
    subst e'
    exact truthy_none ⟨H, I, q⟩
  | bl b =>
    cases rx
    have e' : k = b := e
    subst e'
    exact wpAny_truthy_bool ⟨H, I, q⟩
  | int i =>
    obtain ⟨t, rfl⟩ := rx
    have e' : k = (i != 0) := e
    subst e'
    exact PySem.P.truthy_int ⟨H, I, q⟩
  | str y =>
    obtain ⟨t, rfl⟩ := rx
    obtain ⟨hy, e'⟩ : y.length ≤ sizeLine ∧ k = ((y.length : Int) != 0) := e
    subst e'
    exact PySem.P.truthy_str (by omega) ⟨H, I.tok _, q⟩
  | byt y =>
    obtain ⟨t, rfl⟩ := rx
    obtain ⟨hy, e'⟩ : y.size ≤ sizeLine ∧ k = ((y.size : Int) != 0) := e
    subst e'
    exact PySem.W.truthy_bytes (by omega) ⟨H, I.tok _, q⟩
  | ref p =>
    cases rx
    have e' : (∃ xs, SqL X.K H p xs ∧ k = !xs.isEmpty) ∨ (∃ xs, SqT X.K H p xs ∧ k = !xs.isEmpty) ∨ ∃ kvs, H p = some (.dK kvs) ∧ k = !kvs.isEmpty := e
    rcases e' with ⟨xs, hx, e'⟩ | ⟨xs, hx, e'⟩ | ⟨kvs, hx, e'⟩
    · subst e'
      obtain ⟨its, r, pl, hz⟩ := I.list hx
      have hlen := r.length
      exact wpAny_truthy_list pl.isList (by simp only [List.size_toArray]; omega) ⟨H, I.tok _, by rw [isEmpty_of r]; exact q⟩
    · subst e'
      obtain ⟨its, r, pl, hz⟩ := I.tuple hx
      have hlen := r.length
      exact truthy_tuple pl (by simp only [List.size_toArray]; omega) ⟨H, I.tok _, by rw [isEmpty_of r]; exact q⟩
    · subst e'
      obtain ⟨hz, hS, vs, r, m⟩ : kvs.length ≤ sizeLine ∧ (p == sysModules) = false ∧ ∃ vs, KV kvs vs ∧ s.heap.DictOf (mixKind X.prog X.w) p vs := I.hok p _ hx
      have hlen : kvs.length = vs.length := Paired.length r
      exact wpAny_truthy_dict hS m (by omega) ⟨H, I.tok _, by rw [isEmpty_kv r]; exact q⟩
  | _ => exact (show False from e).elim
theorem pt_truth (ha : PE X a ta) (he : ∀ whole, isTrue a X.env whole = (do let v ← whole; standAt a.pos; holding [v] (truthy v))) :
    PT X a (fun σ H Q => ta σ H fun x H' => ∃ k, TruV X.K x H' k ∧ Q k H') := by
  intro pins s σ H Q I h
  exact isTrue_plain (thn (ha pins s σ H _ I h) fun v s1 ⟨x, H1, I1, r1, q1⟩ => tru_ok pins s1 σ H1 x v Q I1 r1 q1) (he _)

theorem pe_byt {x : List UInt8} {k : Nat} : PE X (.Constant (.bytes x) k pos) (fun _ H Q => Q (.byt x.toArray) H) := fun _ _ _ H _ I h => PySem.W.Constant_bytes ⟨.byt x.toArray, H, I.tok _, ⟨_, rfl⟩, h⟩
theorem op_add_str : OpR X (binaryOp .Add) (fun x y H Q => ∃ i j, x = .str i ∧ y = .str j ∧ i.length + j.length ≤ sizeLine ∧ Q (.str (i ++ j)) H) := by
  intro pins s σ H x y v u Q I rx ry h
  obtain ⟨i, j, rfl, rfl, hz, q⟩ := h
  obtain ⟨t, rfl⟩ := rx
  obtain ⟨t', rfl⟩ := ry
  exact add_str (fun t' tk => ⟨.str (i ++ j), H, I.tok _, ⟨_, rfl⟩, q⟩) hz
theorem iop_add_str : OpR X (inplaceOp .Add) (fun x y H Q => ∃ i j, x = .str i ∧ y = .str j ∧ i.length + j.length ≤ sizeLine ∧ Q (.str (i ++ j)) H) := by
  intro pins s σ H x y v u Q I rx ry h
  obtain ⟨i, j, rfl, rfl, hz, q⟩ := h
  obtain ⟨t, rfl⟩ := rx
  obtain ⟨t', rfl⟩ := ry
  exact iadd_str (fun t' tk => ⟨.str (i ++ j), H, I.tok _, ⟨_, rfl⟩, q⟩) hz
theorem op_add_byt : OpR X (binaryOp .Add) (fun x y H Q => ∃ i j, x = .byt i ∧ y = .byt j ∧ i.size + j.size ≤ 16777216 ∧ Q (.byt (i ++ j)) H) := by
  intro pins s σ H x y v u Q I rx ry h
  obtain ⟨i, j, rfl, rfl, hz, q⟩ := h
  obtain ⟨t, rfl⟩ := rx
  obtain ⟨t', rfl⟩ := ry
  exact PySem.W.KBy.add_bytes hz (fun t' tk => ⟨.byt (i ++ j), H, I.tok _, ⟨_, rfl⟩, q⟩)

def PlainIxT (b : Expr) : Prop := ∀ o i, subscripted b false o i = operate [o, i] (getItem o i)
theorem pe_item_str (ha : PE X a ta) (hb : PE X b tb) (hs : PlainIxT b) :
    PE X (.Subscript a b pos) (tOp (fun x y H Q => ∃ z i c, x = .str z ∧ y = .int i ∧ 0 ≤ i ∧ i < 2 ^ 63 ∧ i < z.length ∧ z.cps[i.toNat]? = some c ∧ Q (.str ⟨#[c]⟩) H) ta tb) := by
  intro pins s σ H Q I h
  refine Subscript_ (binT ha hb I h fun v u s2 x y H2 I2 rx ry q => ?_)
  obtain ⟨z, i, c, rfl, rfl, h0, h63, h1, hc, q⟩ := q
  obtain ⟨t, rfl⟩ := rx
  obtain ⟨t', rfl⟩ := ry
  have e : seqIndex? i z.length = some i.toNat := PySem.StrLaws.seqIndex_nonneg h0 h1
  exact tail_any (typeIs_str s2 z t) slot_str_getitem.lookup (getItem_str (c := c) (by
    have e1 : decide (i < -(2 ^ 63 : Int)) = false := decide_eq_false (by omega)
    have e2 : decide (i ≥ 2 ^ 63) = false := decide_eq_false (by omega)
    rw [e1, e2] <;> rfl) (by rw [e]; exact hc) ⟨.str ⟨#[c]⟩, H2, I2.tok _, ⟨_, rfl⟩, q⟩) (hs _ _)
theorem pe_item_byt (ha : PE X a ta) (hb : PE X b tb) (hs : PlainIxT b) :
    PE X (.Subscript a b pos) (tOp (fun x y H Q => ∃ (z : List UInt8) (i : Int), x = .byt z.toArray ∧ y = .int i ∧ z.length ≤ sizeLine ∧ 0 ≤ i ∧ i < z.length ∧ Q (.int ((z.getD i.toNat 0).toNat : Nat)) H) ta tb) := by
  intro pins s σ H Q I h
  refine Subscript_ (binT ha hb I h fun v u s2 x y H2 I2 rx ry q => ?_)
  obtain ⟨z, i, rfl, rfl, hz, h0, h1, q⟩ := q
  obtain ⟨t, rfl⟩ := rx
  obtain ⟨t', rfl⟩ := ry
  have hl : sizeLine = 16777216 := sizeLine_eq
  exact tail_any (PySem.W.typeIs_bytes s2 z.toArray t) PySem.W.FB.slot_bytes_getitem.lookup (PySem.W.getItem_bytes (by omega) h0 h1 ⟨.int ((z.getD i.toNat 0).toNat : Nat), H2, I2.tok _, ⟨_, rfl⟩, q⟩) (hs _ _)

theorem vals1 {x : V} {us : List Value} (r : Vals [x] us) : ∃ u, us = [u] ∧ RelV x u := by
  cases r with
  | cons r1 r2 => cases r2; exact ⟨_, rfl, r1⟩
theorem vals2 {x y : V} {us : List Value} (r : Vals [x, y] us) : ∃ u w', us = [u, w'] ∧ RelV x u ∧ RelV y w' := by
  cases r with
  | cons r1 r2 =>
    cases r2 with
    | cons r3 r4 => cases r4; exact ⟨_, _, rfl, r1, r3⟩
theorem call_abs : CallR X (.builtin "abs") (fun xs H Q => ∃ i, xs = [.int i] ∧ Q (.int (if i < 0 then -i else i)) H) := by
  intro pins s σ H xs us Q I r h
  obtain ⟨i, rfl, q⟩ := h
  obtain ⟨u, rfl, t, rfl⟩ := vals1 r
  exact call_abs_int fun u tk => ⟨.int (if i < 0 then -i else i), H, I.tok _, ⟨_, rfl⟩, q⟩
theorem call_max2 (hc : X.calm = true) : CallR X (.builtin "max") (fun xs H Q => ∃ i j, xs = [.int i, .int j] ∧ Q (.int (if j > i then j else i)) H) := by
  intro pins s σ H xs us Q I r h
  obtain ⟨i, j, rfl, q⟩ := h
  obtain ⟨u, w', rfl, ⟨t, rfl⟩, ⟨t', rfl⟩⟩ := vals2 r
  refine max_two_ints (I.ok.hd hc) fun h' tk k => ⟨_, H, I.kept k, ?_, q⟩
  by_cases hj : j > i
  · rw [if_pos hj, if_pos hj]; exact ⟨_, rfl⟩
  · rw [if_neg hj, if_neg hj]; exact ⟨_, rfl⟩
theorem call_min2 (hc : X.calm = true) : CallR X (.builtin "min") (fun xs H Q => ∃ i j, xs = [.int i, .int j] ∧ Q (.int (if j < i then j else i)) H) := by
  intro pins s σ H xs us Q I r h
  obtain ⟨i, j, rfl, q⟩ := h
  obtain ⟨u, w', rfl, ⟨t, rfl⟩, ⟨t', rfl⟩⟩ := vals2 r
  refine min_two_ints (I.ok.hd hc) fun h' tk k => ⟨_, H, I.kept k, ?_, q⟩
  by_cases hj : j < i
  · rw [if_pos hj, if_pos hj]; exact ⟨_, rfl⟩
  · rw [if_neg hj, if_neg hj]; exact ⟨_, rfl⟩
theorem call_int1 : CallR X (.type "int") (fun xs H Q => (∃ i, xs = [.int i] ∧ Q (.int i) H) ∨ ∃ k, xs = [.bl k] ∧ Q (.int (if k then 1 else 0)) H) := by
  intro pins s σ H xs us Q I r h
  rcases h with ⟨i, rfl, q⟩ | ⟨k, rfl, q⟩
  · obtain ⟨u, rfl, t, rfl⟩ := vals1 r
    exact call_int_int ⟨.int i, H, I, ⟨_, rfl⟩, q⟩
  · obtain ⟨u, rfl, r1⟩ := vals1 r
    cases r1
    exact call_int_bool ⟨.int (if k then 1 else 0), H, I.tok _, ⟨_, rfl⟩, q⟩
theorem call_bool1 : CallR X (.type "bool") (fun xs H Q => (∃ i, xs = [.int i] ∧ Q (.bl (i != 0)) H) ∨ ∃ k, xs = [.bl k] ∧ Q (.bl k) H) := by
  intro pins s σ H xs us Q I r h
  rcases h with ⟨i, rfl, q⟩ | ⟨k, rfl, q⟩
  · obtain ⟨u, rfl, t, rfl⟩ := vals1 r
    exact call_bool_int ⟨.bl (i != 0), H, I, rfl, q⟩
  · obtain ⟨u, rfl, r1⟩ := vals1 r
    cases r1
    exact call_bool_bool ⟨.bl k, H, I, rfl, q⟩
theorem call_str_int : CallR X (.type "str") (fun xs H Q => ∃ i, xs = [.int i] ∧ i.natAbs.log2 < 1920 ∧ Q (.str (toString i)) H) := by
  intro pins s σ H xs us Q I r h
  obtain ⟨i, rfl, hz, q⟩ := h
  obtain ⟨u, rfl, t, rfl⟩ := vals1 r
  exact PySem.P.str_of_int hz ⟨.str _, H, I.tok _, ⟨_, rfl⟩, q⟩
theorem call_ord : CallR X (.builtin "ord") (fun xs H Q => ∃ x, xs = [.str x] ∧ x.length = 1 ∧ Q (.int (x.cps.getD 0 0 : Nat)) H) := by
  intro pins s σ H xs us Q I r h
  obtain ⟨x, rfl, hz, q⟩ := h
  obtain ⟨u, rfl, t, rfl⟩ := vals1 r
  exact ord_of_one hz ⟨.int _, H, I.tok _, ⟨_, rfl⟩, q⟩
theorem call_chr : CallR X (.builtin "chr") (fun xs H Q => ∃ i, xs = [.int i] ∧ 0 ≤ i ∧ i ≤ 1114111 ∧ Q (.str ⟨#[i.toNat]⟩) H) := by
  intro pins s σ H xs us Q I r h
  obtain ⟨i, rfl, h0, h1, q⟩ := h
  obtain ⟨u, rfl, t, rfl⟩ := vals1 r
  exact chr_of_range h0 h1 ⟨.str _, H, I.tok _, ⟨_, rfl⟩, q⟩
def LenV (K : PySem.W.Frag) (x : V) (H : Hp) (n : Nat) : Prop :=
  match x with
  | .str y => y.length ≤ sizeLine ∧ n = y.length
  | .byt y => y.size ≤ sizeLine ∧ n = y.size
  | .ref p => (∃ xs, SqL K H p xs ∧ n = xs.length) ∨ ∃ xs, SqT K H p xs ∧ n = xs.length
  | _ => False
theorem call_len : CallR X (.builtin "len") (fun xs H Q => ∃ x n, xs = [x] ∧ LenV X.K x H n ∧ Q (.int n) H) := by
  intro pins s σ H xs us Q I r h
  obtain ⟨x, n, rfl, e, q⟩ := h
  obtain ⟨u, rfl, rx⟩ := vals1 r
  have hl := line63
  have hs : sizeLine = 16777216 := sizeLine_eq
  cases x with
  | str y =>
    obtain ⟨t, rfl⟩ := rx
    obtain ⟨hy, e'⟩ : y.length ≤ sizeLine ∧ n = y.length := e
    subst e'
    exact len_str (by omega) ⟨.int _, H, I.tok _, ⟨_, rfl⟩, q⟩
  | byt y =>
    obtain ⟨t, rfl⟩ := rx
    obtain ⟨hy, e'⟩ : y.size ≤ sizeLine ∧ n = y.size := e
    subst e'
    exact PySem.W.len_bytes (by omega) ⟨.int _, H, I.tok _, ⟨_, rfl⟩, q⟩
  | ref p =>
    cases rx
    have e' : (∃ xs, SqL X.K H p xs ∧ n = xs.length) ∨ ∃ xs, SqT X.K H p xs ∧ n = xs.length := e
    rcases e' with ⟨xs, hx, e'⟩ | ⟨xs, hx, e'⟩
    · subst e'
      obtain ⟨its, r', pl, hz⟩ := I.list hx
      have hlen := r'.length
      exact Calls.call_len_list pl.isList (by simp only [List.size_toArray]; omega) ⟨.int xs.length, H, I.tok _, ⟨_, by simp only [List.size_toArray]; rw [hlen]⟩, q⟩
    · subst e'
      obtain ⟨its, r', pl, hz⟩ := I.tuple hx
      have hlen := r'.length
      exact len_tuple pl (by simp only [List.size_toArray]; omega) ⟨.int xs.length, H, I.tok _, ⟨_, by simp only [List.size_toArray]; rw [hlen]⟩, q⟩
  | _ => exact (show False from e).elim
theorem call_divmod : CallR X (.builtin "divmod") (fun xs H Q => ∃ i j, xs = [.int i, .int j] ∧ CDiv i j ∧ ∀ p, H p = none → Q (.ref p) (upd H p (.tup [.int (i / j), .int (i % j)]))) := by
  intro pins s σ H xs us Q I r h
  obtain ⟨i, j, rfl, ⟨h1, h2⟩, q⟩ := h
  obtain ⟨u, w', rfl, ⟨t, rfl⟩, ⟨t', rfl⟩⟩ := vals2 r
  refine divmod_int (by omega) ?_ (.inl (PyProof.noPylong_small (by omega)))
  rw [Int.fdiv_eq_ediv_of_nonneg i (by omega), Int.fmod_eq_emod_of_nonneg i (by omega)]
  have hn : H s.heap.objs.size = none := I.hok.fresh (Nat.le_refl _)
  refine ⟨.ref s.heap.objs.size, _, ?_, rfl, q _ hn⟩
  refine I.laid (fun b o e => Heap.get?_push_of_some _ e) (Nat.le_refl _) ⟨by simp only [List.length_cons, List.length_nil]; rw [sizeLine_eq]; decide, [.int (i / j) s.toks, .int (i % j) (s.toks + 1)], .cons ⟨_, rfl⟩ (.cons ⟨_, rfl⟩ .nil), ?_⟩
  exact ⟨_, Heap.get?_push_size s.heap rfl, rfl, 0, rfl⟩
end
end L2

namespace L2
open PySem PySem.Spec PyProof.Rows

structure ObjM (h : Heap) (x dx C : Addr) (mA : Str → Option Value) : Prop where
  obj : h.get? x = some (PySem.W.instObj C dx)
  ns : h.Ns1 dx mA
  ne : dx ≠ x

theorem lookIn_ns {h : Heap} {dx : Addr} {mA : Str → Option Value} (n : h.Ns1 dx mA) : ∃ od, h.get? dx = some od ∧ ∀ name, PySem.W.lookIn name od = some (mA name) := by
  obtain ⟨o, es, ep, ho, hd, hk, _, hm⟩ := n
  refine ⟨o, ho, fun name => ?_⟩
  have e := hm name
  unfold nsFind findBy at e
  rw [← Array.find?_toList] at e
  unfold PySem.W.lookIn
  rw [hd]
  dsimp only
  split
  · rename_i y q
    rw [q] at e
    exact congrArg some e
  · rename_i q
    rw [q] at e
    have a : es.toList.any (·.refKey) = false := by
      rw [List.any_eq_false]
      intro y hy
      obtain ⟨z, t, hkey⟩ := hk y (Array.mem_toList_iff.mp hy)
      simp [DictEntry.refKey, hkey]
    have a' : ¬ es.toList.any (·.refKey) = true := by rw [a]; exact Bool.false_ne_true
    rw [if_neg a']
    exact congrArg some e

theorem ObjM.look {h : Heap} {x dx C : Addr} {mA : Str → Option Value} (I : ObjM h x dx C mA) : ∃ od, PySem.W.InstAt h x (PySem.W.instObj C dx) C (some od) ∧ ∀ name, PySem.W.lookIn name od = some (mA name) :=
  let ⟨od, ho, hl⟩ := lookIn_ns I.ns
  ⟨od, ⟨I.obj, rfl, rfl, ho⟩, hl⟩

section
variable {prog : Program} {w : World} {A : Around} {E : Value → Shared → Prop} {s : Shared} {K : PySem.W.Frag} {x dx C f : Addr} {mA : Str → Option Value} {name : Str} {v : Value}

theorem get_map {expr : Bool} {Q : Value → Shared → Prop} (X : K.In s.heap) (I : ObjM s.heap x dx C mA) (hg : PySem.W.plainGet K C name = true) (hh : PySem.W.hasDictIn K C = true)
    (ha : PySem.W.findIn K (.ref C) name = some none) (hv : mA name = some v) (hv' : PySem.W.handedIn v = true) (h : Q v { s with toks := s.toks + 1 }) :
    wpAny (model prog w) A (getAttr (.ref x) name expr) Q E s := by
  obtain ⟨od, J, hl⟩ := I.look
  exact PySem.W.get_value X J (PySem.W.plainGet_of hg).1 (PySem.W.findObj_own hh ha rfl (by rw [hl, hv])) hv' h

theorem get_const {expr : Bool} {a : Value} {Q : Value → Shared → Prop} (X : K.In s.heap) (I : ObjM s.heap x dx C mA) (hg : PySem.W.plainGet K C name = true) (hh : PySem.W.hasDictIn K C = true)
    (ha : PySem.W.findIn K (.ref C) name = some (some a)) (hn : PySem.W.specialIn K a "__get__" = some none) (hc : PySem.W.copiedNames.contains name = false) (hv : mA name = none) (hv' : PySem.W.handedIn a = true)
    (h : Q a { s with toks := s.toks + 1 }) : wpAny (model prog w) A (getAttr (.ref x) name expr) Q E s := by
  obtain ⟨od, J, hl⟩ := I.look
  exact PySem.W.get_value X J (PySem.W.plainGet_of hg).1 (PySem.W.findObj_cls hh ha hn hv' hc (by rw [hl, hv])) hv' h

theorem get_meth {pl : Sem Bool} {Q : Value × List Value → Shared → Prop} (X : K.In s.heap) (I : ObjM s.heap x dx C mA) (hg : PySem.W.plainGet K C name = true)
    (hf : PySem.W.findIn K (.ref C) name = some (some (.ref f))) (ht : PySem.W.isFn K (.ref f) = true) (hv : mA name = none) (h : Q (.ref f, [.ref x]) s) :
    wpAny (model prog w) A (getMethod (.ref x) name pl) Q E s := by
  obtain ⟨od, J, hl⟩ := I.look
  exact PySem.W.method_fn X J (PySem.W.plainGet_of hg).1 (PySem.W.plainGet_of hg).2 hf (beq_iff_eq.mp ht) (by show (PySem.W.lookIn name od).map (·.isSome) = some false; rw [hl, hv]; rfl) h

theorem set_map {ns : List Str} {Q : Unit → Shared → Prop} (X : K.In s.heap) (I : ObjM s.heap x dx C mA)
    (hs : PySem.W.findIn K (.ref C) "__setattr__" = some (some (.builtin "object.__setattr__"))) (hp : PySem.W.plainOver K C = true) (ht : PySem.W.takerIn K C name = some none) (hh : PySem.W.hasDictIn K C = true)
    (hw : PySem.Within mA ns) (hsz : ns.length ≤ sizeLine)
    (h : ∀ h', ObjM h' x dx C (fun y => if y = name then some v else mA y) → Heap.SameBut dx s.heap h' → Q () { s with heap := h', toks := s.toks + 2 }) :
    wpAny (model prog w) A (setAttr (.ref x) name v) Q E s := by
  obtain ⟨od, J, hl⟩ := I.look
  refine PySem.W.set_plain X J hs (PySem.W.osa_open (s := { s with toks := s.toks + 1 }) (r := none) X J hp ht fun b => ?_)
  obtain ⟨cd, hc, hd'⟩ := PySem.W.any_some hh
  have hx : s.heap.get? x = some ⟨.ref C, some dx, .plain, #[]⟩ := I.obj
  refine wpAny_bind (wpAny_pure (wpAny_bind (wpAny_bind (wpAny_loadPart hx (wpAny_bind (PySem.W.Looks.here (s := { s with toks := s.toks + 1 }) (PySem.W.looks_clsIn X hc) ?_))))))
  rw [hd']
  refine wpAny_pure (a := some dx) (wpAny_bind (wpAny_pure (wpAny_bind ?_)))
  refine wpAny_nsSet1 (s := { s with toks := s.toks + 1 }) I.ns fun h' hn2 hs2 => ?_
  obtain ⟨oD, esD, epD, hoD, hdD, hcD⟩ := hn2.count (PySem.Within.cons name v hw)
  refine wpAny_bind (wpAny_lookBehind hoD (by rw [hdD]; exact pastItsLine_dict (Nat.le_trans hcD (by rw [List.length_cons]; omega))) ?_)
  exact wpAny_pure (h _ ⟨(hs2.2 _ (Ne.symm I.ne)).trans I.obj, hn2, I.ne⟩ hs2)

theorem make_map {R : Result → Shared → Prop} {vs : List Value} {kw : List (Str × Value)} (X : K.In s.heap) (hm : PySem.W.makesIn K C = true)
    (hi : PySem.W.findIn K (.ref C) "__init__" = some (some (.ref f))) (hf : PySem.W.typeIn K (.ref f) = some (.type "function"))
    (h : codeAny (model prog w) (A.under (.builtin "type.__call__" ⟨.ref C :: vs, kw⟩)) (.call (.ref f) ⟨.ref (s.heap.objs.size + 1) :: vs, kw⟩) (PySem.W.InitBack (s.heap.objs.size + 1) R)
      { s with heap := (s.heap.push PySem.W.emptyDict).push (PySem.W.instObj C s.heap.objs.size) }) :
    codeAny (model prog w) A (.call (.ref C) ⟨vs, kw⟩) R s := by
  obtain ⟨hh, g, d, t, os⟩ := s
  exact PySem.W.make_core (PySem.W.makes_of X hm) (PySem.W.looks_findIn X hi) (fun self => PySem.W.bind_fn X self hf) (.inl rfl) h
theorem make_map0 {R : Result → Shared → Prop} (X : K.In s.heap) (hm : PySem.W.makesIn K C = true)
    (hi : PySem.W.findIn K (.ref C) "__init__" = some (some (.builtin "object.__init__")))
    (hb : ∀ self, PySem.W.Looks (model prog w) s.heap (bindSpecial (.builtin "object.__init__") self) (.builtin "object.__init__", [self]))
    (h : codeAny (model prog w) (A.under (.builtin "type.__call__" ⟨[.ref C], []⟩)) (.call (.builtin "object.__init__") ⟨[.ref (s.heap.objs.size + 1)], []⟩) (PySem.W.InitBack (s.heap.objs.size + 1) R)
      { s with heap := (s.heap.push PySem.W.emptyDict).push (PySem.W.instObj C s.heap.objs.size) }) :
    codeAny (model prog w) A (.call (.ref C) ⟨[], []⟩) R s := by
  obtain ⟨hh, g, d, t, os⟩ := s
  exact PySem.W.make_core (PySem.W.makes_of X hm) (PySem.W.looks_findIn X hi) hb (.inr ⟨rfl, rfl⟩) h
end

def putF (f : Str) (v : V) : List (Str × V) → List (Str × V)
  | [] => [(f, v)]
  | (g, x) :: r => if g = f then (g, v) :: r else (g, x) :: putF f v r
theorem lookup_putF (f g : Str) (v : V) : ∀ fs : List (Str × V), (putF f v fs).lookup g = if g = f then some v else fs.lookup g
  | [] => by
    show List.lookup g [(f, v)] = _
    by_cases h : g = f
    · have hb : (g == f) = true := beq_iff_eq.mpr h
      simp only [List.lookup, hb, if_pos h]
    · have hb : (g == f) = false := beq_eq_false_iff_ne.mpr h
      simp only [List.lookup, hb, if_neg h]
  | (k, x) :: r => by
    have ih := lookup_putF f g v r
    rw [show putF f v ((k, x) :: r) = (if k = f then (k, v) :: r else (k, x) :: putF f v r) from rfl]
    by_cases hk : k = f
    · rw [if_pos hk]
      by_cases h : g = k
      · have hb : (g == k) = true := beq_iff_eq.mpr h
        simp only [List.lookup, hb, if_pos (h.trans hk)]
      · have hb : (g == k) = false := beq_eq_false_iff_ne.mpr h
        simp only [List.lookup, hb, if_neg (fun e : g = f => h (e.trans hk.symm))]
    · rw [if_neg hk]
      by_cases h : g = k
      · have hb : (g == k) = true := beq_iff_eq.mpr h
        simp only [List.lookup, hb, if_neg (fun e : g = f => hk (h.symm.trans e))]
      · have hb : (g == k) = false := beq_eq_false_iff_ne.mpr h
        simp only [List.lookup, hb]
        exact ih
theorem keys_putF (f : Str) (v : V) : ∀ fs : List (Str × V), f ∈ (putF f v fs).map (·.1) ∧ ∀ g, g ∈ fs.map (·.1) → g ∈ (putF f v fs).map (·.1)
  | [] => ⟨by simp [putF], fun g h => by simp at h⟩
  | (k, x) :: r => by
    obtain ⟨i1, i2⟩ := keys_putF f v r
    rw [show putF f v ((k, x) :: r) = (if k = f then (k, v) :: r else (k, x) :: putF f v r) from rfl]
    by_cases hk : k = f
    · rw [if_pos hk]
      subst hk
      exact ⟨by simp, fun g h => by simpa using h⟩
    · rw [if_neg hk]
      refine ⟨?_, fun g h => ?_⟩
      · rw [List.map_cons]
        exact List.mem_cons_of_mem _ i1
      · rw [List.map_cons] at h ⊢
        rcases List.mem_cons.mp h with e | e
        · exact List.mem_cons.mpr (.inl e)
        · exact List.mem_cons_of_mem _ (i2 g e)
theorem length_putF (f : Str) (v : V) : ∀ fs : List (Str × V), (putF f v fs).length ≤ fs.length + 1
  | [] => by simp [putF]
  | (k, x) :: r => by
    have ih := length_putF f v r
    rw [show putF f v ((k, x) :: r) = (if k = f then (k, v) :: r else (k, x) :: putF f v r) from rfl]
    by_cases hk : k = f
    · rw [if_pos hk, List.length_cons, List.length_cons]; omega
    · rw [if_neg hk, List.length_cons, List.length_cons]; omega

theorem RelO.some_of {v : V} {o : Option Value} (r : RelO (some v) o) : ∃ u, o = some u ∧ RelV v u := by
  cases o with
  | none => exact (show False from r).elim
  | some u => exact ⟨u, rfl, r⟩
theorem RelO.none_of {o : Option Value} (r : RelO none o) : o = none := by
  cases o with
  | none => rfl
  | some u => exact (show False from r).elim
theorem handed_of {v : V} {u : Value} (r : RelV v u) : PySem.W.handedIn u = true := by
  cases v with
  | non => cases (show u = Value.none from r); rfl
  | bl b => cases (show u = Value.bool b from r); rfl
  | int i => obtain ⟨t, e⟩ := (show ∃ t, u = Value.int i t from r); cases e; rfl
  | str x => obtain ⟨t, e⟩ := (show ∃ t, u = Value.str x t from r); cases e; rfl
  | byt b => obtain ⟨t, e⟩ := (show ∃ t, u = Value.bytes b t from r); cases e; rfl
  | flt b => obtain ⟨t, e⟩ := (show ∃ t, u = Value.float b t from r); cases e; rfl
  | ref a => cases (show u = Value.ref a from r); rfl
  | ty n => cases (show u = Value.type n from r); rfl

section
variable {P : Program} {w : World} {H H' : Hp} {h h' : Heap} {a C dx : Addr} {fs fs' : List (Str × V)}
theorem ins_get (hok : HOk P w H h) (e : H a = some (.ins C dx fs)) : ∃ mA, ObjM h a dx C mA ∧ (∀ f, RelO (fs.lookup f) (mA f)) ∧ PySem.Within mA (fs.map (·.1)) ∧ fs.length ≤ 1000 ∧ H dx = some (.own a) := by
  obtain ⟨d, z, ne, ob, mA, n, r, q⟩ := (show ObjOk P w H h a (.ins C dx fs) from hok a _ e)
  exact ⟨mA, ⟨ob, n, ne⟩, r, q, z, d⟩
end

structure Cls (K : PySem.W.Frag) (C : Addr) : Prop where
  pg : PySem.W.plainGet K C Str.empty = true
  hd : PySem.W.hasDictIn K C = true
  po : PySem.W.plainOver K C = true
  sa : PySem.W.findIn K (.ref C) "__setattr__" = some (some (.builtin "object.__setattr__"))
theorem Cls.get {K : PySem.W.Frag} {C : Addr} (c : Cls K C) (f : Str) : PySem.W.plainGet K C f = true := c.pg
def NoAttr (K : PySem.W.Frag) (C : Addr) (f : Str) : Prop := PySem.W.findIn K (.ref C) f = some none
theorem NoAttr.taker {K : PySem.W.Frag} {C : Addr} {f : Str} (n : NoAttr K C f) : PySem.W.takerIn K C f = some none := by
  unfold PySem.W.takerIn
  rw [show PySem.W.findIn K (.ref C) f = some none from n]
  rfl
structure Con (K : PySem.W.Frag) (C : Addr) (f : Str) (v : V) (u : Value) : Prop where
  at_ : PySem.W.findIn K (.ref C) f = some (some u)
  rel : RelV v u
  get : PySem.W.specialIn K u "__get__" = some none
  cp : PySem.W.copiedNames.contains f = false
structure Meth (K : PySem.W.Frag) (C : Addr) (m : Str) (f : Addr) : Prop where
  at_ : PySem.W.findIn K (.ref C) m = some (some (.ref f))
  fn : PySem.W.isFn K (.ref f) = true
  kp : PySem.W.keepIn K (.ref f) = true

section
variable {X : Cx} {pins : List (Addr × Obj)} {σ : St} {H : Hp} {s : Shared} {a C dx : Addr} {fs : List (Str × V)} {f : Str} {v : V} {A : Around} {E : Value → Shared → Prop}

theorem getattr_ok {b : Bool} {Q : Value → Shared → Prop} (I : Inv X pins σ H s) (e : H a = some (.ins C dx fs)) (c : Cls X.K C) (n : NoAttr X.K C f) (l : fs.lookup f = some v)
    (h : ∀ u s', Inv X pins σ H s' → RelV v u → Q u s') : wpAny (model X.prog X.w) A (getAttr (.ref a) f b) Q E s := by
  obtain ⟨mA, O, r, _, _, _⟩ := ins_get I.hok e
  obtain ⟨u, hu, ru⟩ := RelO.some_of (v := v) (o := mA f) (by rw [← l]; exact r f)
  exact get_map I.kIn O (c.get f) c.hd n hu (handed_of ru) (h u _ (I.tok _) ru)

theorem getcon_ok {b : Bool} {u : Value} {Q : Value → Shared → Prop} (I : Inv X pins σ H s) (e : H a = some (.ins C dx fs)) (c : Cls X.K C) (k : Con X.K C f v u) (l : fs.lookup f = none)
    (h : ∀ s', Inv X pins σ H s' → Q u s') : wpAny (model X.prog X.w) A (getAttr (.ref a) f b) Q E s := by
  obtain ⟨mA, O, r, _, _, _⟩ := ins_get I.hok e
  have hn : mA f = none := RelO.none_of (by rw [← l]; exact r f)
  exact get_const I.kIn O (c.get f) c.hd k.at_ k.get k.cp hn (handed_of k.rel) (h _ (I.tok _))

theorem getmeth_ok {m : Str} {g : Addr} {pl : Sem Bool} {Q : Value × List Value → Shared → Prop} (I : Inv X pins σ H s) (e : H a = some (.ins C dx fs)) (c : Cls X.K C) (k : Meth X.K C m g) (l : fs.lookup m = none)
    (h : Q (.ref g, [.ref a]) s) : wpAny (model X.prog X.w) A (getMethod (.ref a) m pl) Q E s := by
  obtain ⟨mA, O, r, _, _, _⟩ := ins_get I.hok e
  have hn : mA m = none := RelO.none_of (by rw [← l]; exact r m)
  exact get_meth I.kIn O (c.get m) k.at_ k.fn hn h

theorem setattr_ok {y : V} {u : Value} {Q : Unit → Shared → Prop} (I : Inv X pins σ H s) (e : H a = some (.ins C dx fs)) (c : Cls X.K C) (n : NoAttr X.K C f) (hl : fs.length < 1000) (ry : RelV y u)
    (h : ∀ s', Inv X pins σ (upd H a (.ins C dx (putF f y fs))) s' → Q () s') : wpAny (model X.prog X.w) A (setAttr (.ref a) f u) Q E s := by
  obtain ⟨mA, O, r, wi, _, ho⟩ := ins_get I.hok e
  have hz : (fs.map (·.1)).length ≤ sizeLine := by rw [List.length_map, sizeLine_eq]; omega
  refine set_map I.kIn O c.sa c.po n.taker c.hd wi hz fun h' O' sb => h _ ?_
  have hd : ∃ o, h'.get? dx = some o := let ⟨o, _, _, e', _⟩ := O'.ns; ⟨o, e'⟩
  refine I.write (x := a) (e := dx) (by rw [e]; exact True.intro) (.inr ho) (fun b q hb z => (sb.2 b hb).trans z) hd ?_
  refine ⟨by rw [upd_ne O.ne]; exact ho, ?_, O.ne, O'.obj, _, O'.ns, fun g => ?_, fun g hg => ?_⟩
  · have := length_putF f y fs; omega
  · show RelO ((putF f y fs).lookup g) (if g = f then some u else mA g)
    rw [lookup_putF]
    by_cases q : g = f
    · rw [if_pos q, if_pos q]; exact ry
    · rw [if_neg q, if_neg q]; exact r g
  · by_cases q : g = f
    · rw [q]; exact (keys_putF f y fs).1
    · refine (keys_putF f y fs).2 g (wi g fun z => hg ?_)
      show (if g = f then some u else mA g) = none
      rw [if_neg q]; exact z

theorem Inv.made (I : Inv X pins σ H s) : Inv X pins σ (upd (upd H s.heap.objs.size (.own (s.heap.objs.size + 1))) (s.heap.objs.size + 1) (.ins C s.heap.objs.size []))
    { s with heap := (s.heap.push PySem.W.emptyDict).push (PySem.W.instObj C s.heap.objs.size) } := by
  have e1 : (s.heap.push PySem.W.emptyDict).get? s.heap.objs.size = some PySem.W.emptyDict := Heap.get?_push_size s.heap rfl
  have e2 : ((s.heap.push PySem.W.emptyDict).push (PySem.W.instObj C s.heap.objs.size)).get? (s.heap.objs.size + 1) = some (PySem.W.instObj C s.heap.objs.size) := by
    have := Heap.get?_push_size (s.heap.push PySem.W.emptyDict) (o := PySem.W.instObj C s.heap.objs.size) rfl
    rwa [Heap.size_push] at this
  have e3 : (s.heap.push PySem.W.emptyDict).Ns s.heap.objs.size (fun _ => none) := ⟨PySem.W.emptyDict, #[], _, e1, rfl, (fun e he => absurd he (by simp)), fun _ => rfl⟩
  have I1 := I.laid (a := s.heap.objs.size) (o := .own (s.heap.objs.size + 1)) (h' := s.heap.push PySem.W.emptyDict) (t' := s.toks) (fun b u q => Heap.get?_push_of_some _ q) (Nat.le_refl _) ⟨_, e1⟩
  refine I1.laid (a := s.heap.objs.size + 1) (o := .ins C s.heap.objs.size []) (t' := s.toks) (fun b u q => Heap.get?_push_of_some _ q) (Nat.le_of_eq (Heap.size_push _ _)) ?_
  have ne : s.heap.objs.size ≠ s.heap.objs.size + 1 := Nat.ne_of_lt (Nat.lt_succ_self _)
  refine ⟨by rw [upd_ne ne, upd_same], Nat.zero_le _, ne, e2, fun _ => none, (Heap.Ns1.of_empty e3).at fun o q => Heap.get?_push_of_some _ q, fun _ => True.intro, fun y hy => absurd rfl hy⟩

theorem attr_of {prog : Program} {w : World} {env : Env} {e : Expr} {f : Str} {pos : Pos} {s : Shared} {Q : Value → Shared → Prop} (hb : attributeBase e f env (eval e env) = eval e env)
    (h : wpAny (model prog w) A (eval e env) (fun o s₁ => wpAny (model prog w) A (getAttr o f true) Q E s₁) E s) : wpAny (model prog w) A (eval (.Attribute e f pos) env) Q E s :=
  Attribute_any_ h (by rw [arm_eval_Attribute, hb])
end

def tFld (K : PySem.W.Frag) (ta : TE) (f : Str) : TE := fun σ H Q => ta σ H fun x H1 => ∃ a C dx fs v, x = .ref a ∧ H1 a = some (.ins C dx fs) ∧ Cls K C ∧ NoAttr K C f ∧ fs.lookup f = some v ∧ Q v H1
def tCon (K : PySem.W.Frag) (ta : TE) (f : Str) : TE := fun σ H Q => ta σ H fun x H1 => ∃ a C dx fs v u, x = .ref a ∧ H1 a = some (.ins C dx fs) ∧ Cls K C ∧ Con K C f v u ∧ fs.lookup f = none ∧ Q v H1
def sFld (K : PySem.W.Frag) (ta tv : TE) (f : Str) : TS := fun D σ H => tv σ H fun y H1 => ta σ H1 fun x H2 => ∃ a C dx fs, x = .ref a ∧ H2 a = some (.ins C dx fs) ∧ Cls K C ∧ NoAttr K C f ∧ fs.length < 1000 ∧
  D.nx σ (upd H2 a (.ins C dx (putF f y fs)))
def InOp (X : Cx) (op : Operator) (rd : V → V → Hp → VK → Prop) : Prop :=
  ∀ (pins : List (Addr × Obj)) (s : Shared) (σ : St) (H : Hp) (x y : V) (u v : Value) (Q : VK), Inv X pins σ H s → RelV x u → RelV y v → rd x y H Q → wpAny (model X.prog X.w) X.A (inplaceOp op u v) (EP X pins σ Q) X.xe s
def sFldAug (K : PySem.W.Frag) (ta tv : TE) (rd : V → V → Hp → VK → Prop) (f : Str) : TS := fun D σ H => ta σ H fun x H1 => ∃ a C dx fs v, x = .ref a ∧ H1 a = some (.ins C dx fs) ∧ Cls K C ∧ NoAttr K C f ∧ fs.lookup f = some v ∧
  tv σ H1 fun y H2 => rd v y H2 fun z H3 => ∃ dx' fs', H3 a = some (.ins C dx' fs') ∧ fs'.length < 1000 ∧ D.nx σ (upd H3 a (.ins C dx' (putF f z fs')))

section
variable {X : Cx} {o e value : Expr} {f : Str} {pos pos' tpos : Pos} {ta tv : TE}
theorem pe_fld (he : PE X e ta) (hb : attributeBase e f X.env (eval e X.env) = eval e X.env) : PE X (.Attribute e f pos) (tFld X.K ta f) := by
  intro pins s σ H Q I h
  refine attr_of hb (thn (he pins s σ H _ I h) fun u s1 ⟨x, H1, I1, rx, a, C, dx, fs, v, ex, ea, c, n, l, q⟩ => ?_)
  subst ex
  obtain rfl : u = Value.ref a := rx
  exact getattr_ok I1 ea c n l fun u' s2 I2 ru => ⟨v, H1, I2, ru, q⟩
theorem pe_con (he : PE X e ta) (hb : attributeBase e f X.env (eval e X.env) = eval e X.env) : PE X (.Attribute e f pos) (tCon X.K ta f) := by
  intro pins s σ H Q I h
  refine attr_of hb (thn (he pins s σ H _ I h) fun u s1 ⟨x, H1, I1, rx, a, C, dx, fs, v, u0, ex, ea, c, k, l, q⟩ => ?_)
  subst ex
  obtain rfl : u = Value.ref a := rx
  exact getcon_ok I1 ea c k l fun s2 I2 => ⟨v, H1, I2, k.rel, q⟩
theorem ps_fld (ha : PE X o ta) (hv : PE X value tv) (hs : swapsWith value (some (.Attribute o f pos')) pos.line X.env = pure false) : PS X (.Assign [.Attribute o f pos'] value pos) (sFld X.K ta tv f) := by
  intro pins s σ H D I h
  refine plainObj_wpAny_Assign_Attribute (thn (hv pins s σ H _ I h) fun u s1 ⟨y, H1, I1, ry, q⟩ => thn (ha pins s1 σ H1 _ I1 q) fun ov s2 ⟨x, H2, I2, rx, a, C, dx, fs, ex, ea, c, n, l, q2⟩ => ?_) hs
  subst ex
  obtain rfl : ov = Value.ref a := rx
  exact setattr_ok I2 ea c n l ry fun s3 I3 => ⟨σ, _, I3, q2⟩
theorem ps_fldaug {op : Operator} {rd : V → V → Hp → VK → Prop} (ha : PE X o ta) (hv : PE X value tv) (hop : InOp X op rd) : PS X (.AugAssign (.Attribute o f tpos) op value pos) (sFldAug X.K ta tv rd f) := by
  intro pins s σ H D I h
  refine wpAny_AugAssign_AttributeAny (thn (ha pins s σ H _ I h) fun ov s1 ⟨x, H1, I1, rx, a, C, dx, fs, v, ex, ea, c, n, l, q⟩ => ?_)
  subst ex
  obtain rfl : ov = Value.ref a := rx
  refine getattr_ok I1 ea c n l fun u s2 I2 ru => thn (hv pins s2 σ H1 _ I2 q) fun w3 s3 ⟨y, H2, I3, ry, q3⟩ => thn (hop pins s3 σ H2 v y u w3 _ I3 ru ry q3) fun w4 s4 ⟨z, H3, I4, rz, dx', fs', ea', l', q4⟩ => ?_
  exact setattr_ok I4 ea' c n l' rz fun s5 I5 => ⟨σ, _, I5, q4⟩
def rAdd : V → V → Hp → VK → Prop := fun x y H Q => ∃ i j, x = .int i ∧ y = .int j ∧ Q (.int (i + j)) H
def rSub : V → V → Hp → VK → Prop := fun x y H Q => ∃ i j, x = .int i ∧ y = .int j ∧ Q (.int (i - j)) H
theorem in_add : InOp X .Add rAdd := by
  rintro pins s σ H x y u v Q I rx ry ⟨i, j, rfl, rfl, q⟩
  obtain ⟨t, rfl⟩ := (show ∃ t, u = Value.int i t from rx)
  obtain ⟨t', rfl⟩ := (show ∃ t', v = Value.int j t' from ry)
  exact PyProof.Rows.iadd_int ⟨.int (i + j), H, I.tok _, ⟨_, rfl⟩, q⟩
theorem in_sub : InOp X .Sub rSub := by
  rintro pins s σ H x y u v Q I rx ry ⟨i, j, rfl, rfl, q⟩
  obtain ⟨t, rfl⟩ := (show ∃ t, u = Value.int i t from rx)
  obtain ⟨t', rfl⟩ := (show ∃ t', v = Value.int j t' from ry)
  exact PyProof.Rows.isub_int ⟨.int (i - j), H, I.tok _, ⟨_, rfl⟩, q⟩

theorem methcall_of {pl : Sem Bool} {m : Str} {apos : Pos} {args : List Expr} {pins : List (Addr × Obj)} {s : Shared} {σ : St} {H : Hp} {Q : Value → Shared → Prop} {te : TE} (he : PE X e te) (I : Inv X pins σ H s)
    (h : te σ H fun x H1 => ∃ a C dx fs g, x = .ref a ∧ H1 a = some (.ins C dx fs) ∧ Cls X.K C ∧ Meth X.K C m g ∧ fs.lookup m = none ∧
      ∀ s1, Inv X pins σ H1 s1 → wpAny (model X.prog X.w) X.A (callWith pos (.ref g) [.ref a] (backTo pos (starEach args X.env)) (backToKw pos (keywordEach [] X.env))) Q X.xe s1)
    (ht : eval (.Call (.Attribute e m apos) args [] pos) X.env = (do
      let ov ← eval e X.env
      standAt apos.atName
      let (f, first) ← holding [ov] (getMethod ov m pl)
      callWith pos f first (backTo pos (starEach args X.env)) (backToKw pos (keywordEach [] X.env)))) :
    wpAny (model X.prog X.w) X.A (eval (.Call (.Attribute e m apos) args [] pos) X.env) Q X.xe s := by
  refine PySem.W.methodCall_KW (pl := pl) (thn (he pins s σ H _ I h) fun u s1 ⟨x, H1, I1, rx, a, C, dx, fs, g, ex, ea, c, k, l, q⟩ => ?_) ht
  subst ex
  obtain rfl : u = Value.ref a := rx
  exact getmeth_ok I1 ea c k l (q s1 I1)
end

section
variable {X : Cx} {pins : List (Addr × Obj)} {σ : St} {H : Hp} {s : Shared} {A : Around} {E : Value → Shared → Prop} {Q : Value → Shared → Prop} {c : Value} {b : Bool}
inductive TyOf (K : PySem.W.Frag) (H : Hp) : V → Value → Prop where
  | non : TyOf K H .non (.type "NoneType")
  | bl (x : Bool) : TyOf K H (.bl x) (.type "bool")
  | int (i : Int) : TyOf K H (.int i) (.type "int")
  | str (x : Str) : TyOf K H (.str x) (.type "str")
  | flt (x : UInt64) : TyOf K H (.flt x) (.type "float")
  | lst {a : Addr} {xs : List V} (e : H a = some (.lst xs)) : TyOf K H (.ref a) (.type "list")
  | frz {a : Addr} {o : Obj} {xs : List V} (e : H a = some (.frz o (.lst xs))) : TyOf K H (.ref a) (.type "list")
  | tup {a : Addr} {xs : List V} (e : H a = some (.tup xs)) : TyOf K H (.ref a) (.type "tuple")
  | dK {a : Addr} {kvs : List (Key × V)} (e : H a = some (.dK kvs)) : TyOf K H (.ref a) (.type "dict")
  | dT {a : Addr} {kvs : List (List Key × V)} (e : H a = some (.dT kvs)) : TyOf K H (.ref a) (.type "dict")
  | ins {a C dx : Addr} {fs : List (Str × V)} (e : H a = some (.ins C dx fs)) (cl : Cls K C) (ha : PySem.W.findIn K (.ref C) "__class__" = some (some (.builtin "object.__class__")))
      (hn : PySem.W.specialIn K (.builtin "object.__class__") "__get__" = some (some (.builtin "getset_descriptor.__get__"))) (htk : PySem.W.takesIn K (.builtin "object.__class__") = some true)
      (hm : PySem.W.mroIn K C (.type "object") = some true) : TyOf K H (.ref a) (.ref C)
theorem isinst_ok {x : V} {u t : Value} (I : Inv X pins σ H s) (rx : RelV x u) (ty : TyOf X.K H x t) (e : PySem.W.kitOne X.K t c = some b) (h : ∀ tk, Q (.bool b) { s with toks := tk }) :
    wpAny (model X.prog X.w) A (call (.builtin "isinstance") [u, c]) Q E s := by
  cases ty with
  | non => cases (show u = Value.none from rx); exact PySem.W.kia_one PySem.W.kitx_none I.kIn True.intro e (fun z => nomatch z) h
  | bl y => cases (show u = Value.bool y from rx); exact PySem.W.kia_one PySem.W.kitx_bool I.kIn True.intro e (fun z => nomatch z) h
  | int i => obtain ⟨t, q⟩ := (show ∃ t, u = Value.int i t from rx); cases q; exact PySem.W.kia_one PySem.W.kitx_int I.kIn True.intro e (fun z => nomatch z) h
  | str y => obtain ⟨t, q⟩ := (show ∃ t, u = Value.str y t from rx); cases q; exact PySem.W.kia_one PySem.W.kitx_str I.kIn True.intro e (fun z => nomatch z) h
  | flt y => obtain ⟨t, q⟩ := (show ∃ t, u = Value.float y t from rx); cases q; exact PySem.W.kia_one PySem.W.kitx_float I.kIn True.intro e (fun z => nomatch z) h
  | @lst a xs ea =>
    cases (show u = Value.ref a from rx)
    obtain ⟨_, _, n, _, h1⟩ := (show ObjOk X.prog X.w H s.heap a (.lst xs) from I.hok a _ ea)
    exact PySem.W.kia_one PySem.W.kitx_list I.kIn ⟨_, h1, rfl⟩ e (fun z => nomatch z) h
  | @frz a ob xs ea =>
    cases (show u = Value.ref a from rx)
    obtain ⟨_, _, _, n, _, h1⟩ := (show ObjOk X.prog X.w H s.heap a (.frz ob (.lst xs)) from I.hok a _ ea)
    exact PySem.W.kia_one PySem.W.kitx_list I.kIn ⟨_, h1, rfl⟩ e (fun z => nomatch z) h
  | @tup a xs ea =>
    cases (show u = Value.ref a from rx)
    obtain ⟨_, _, _, p⟩ := (show ObjOk X.prog X.w H s.heap a (.tup xs) from I.hok a _ ea)
    obtain ⟨o, h1, h2, _⟩ := p
    exact PySem.W.kia_one PySem.W.kitx_tuple I.kIn ⟨o, h1, h2⟩ e (fun z => nomatch z) h
  | @dK a kvs ea =>
    cases (show u = Value.ref a from rx)
    obtain ⟨_, _, vs, _, p⟩ := (show ObjOk X.prog X.w H s.heap a (.dK kvs) from I.hok a _ ea)
    obtain ⟨o, es, ep, h1, h2, _⟩ := p
    exact PySem.W.kia_one PySem.W.kitx_dict I.kIn ⟨o, h1, h2.1⟩ e (fun z => nomatch z) h
  | @dT a kvs ea =>
    cases (show u = Value.ref a from rx)
    obtain ⟨_, _, xs, _, o, es, ep, h1, h2, _⟩ := (show ObjOk X.prog X.w H s.heap a (.dT kvs) from I.hok a _ ea)
    exact PySem.W.kia_one PySem.W.kitx_dict I.kIn ⟨o, h1, h2.1⟩ e (fun z => nomatch z) h
  | @ins a C dx fs ea cl ha hn htk hm =>
    cases (show u = Value.ref a from rx)
    obtain ⟨mA, O, _⟩ := ins_get I.hok ea
    obtain ⟨od, J, _⟩ := O.look
    exact PySem.W.kia_one (PySem.W.kitx_own (cl.get _) cl.hd ha hn htk hm) I.kIn J e (fun z => nomatch z) h
end
end L2

namespace L2
open PySem PySem.Spec PyProof.Rows

structure Room (k : Nat) (A : Around) : Prop where
  hd : A.handled = none
  dp : A.depth + 3 * k + 5 < recursionLimit
  un : A.units + 16 * k + 200 < cLine
theorem Room.mono {j k : Nat} {A : Around} (r : Room k A) (h : j ≤ k) : Room j A := ⟨r.hd, by have := r.dp; omega, by have := r.un; omega⟩
theorem Room.deeper {k : Nat} {A : Around} (r : Room (k + 1) A) (env : Env) : Room k (A.deeper env) :=
  ⟨r.hd, by have := r.dp; show A.depth + 1 + 3 * k + 5 < _; omega, by have := r.un; show A.units + 3 + 16 * k + 200 < _; omega⟩
theorem Room.in1 {k : Nat} {A : Around} (r : Room (k + 1) A) : Room k A.in1 :=
  ⟨r.hd, by have := r.dp; show A.depth + 3 * k + 5 < _; omega, by have := r.un; show A.units + 1 + 16 * k + 200 < _; omega⟩
theorem make_depth {A : Around} {C : Addr} {us : List Value} {kw : List (Str × Value)} : (A.under (.builtin "type.__call__" ⟨.ref C :: us, kw⟩)).depth = A.depth + 1 := by
  first | rfl | simp [Around.under, Code.weight, Code.isCreation, Code.isGuard, Code.isCaller, Code.frames, Code.isFrame, guardIds]
theorem make_units {A : Around} {C : Addr} {us : List Value} {kw : List (Str × Value)} : (A.under (.builtin "type.__call__" ⟨.ref C :: us, kw⟩)).units = A.units + 1 := by
  first | rfl | simp [Around.under, Code.cUnits, Code.frames, Code.isFrame]
theorem Room.make {k : Nat} {A : Around} (r : Room (k + 1) A) (C : Addr) (us : List Value) (kw : List (Str × Value)) : Room k (A.under (.builtin "type.__call__" ⟨.ref C :: us, kw⟩)) :=
  ⟨r.hd, by have := r.dp; rw [make_depth]; omega, by have := r.un; rw [make_units]; omega⟩
theorem Room.depth {k : Nat} {A : Around} (r : Room k A) : A.depth < recursionLimit := by have := r.dp; omega
theorem Room.units {k : Nat} {A : Around} (r : Room k A) : A.units + 64 < cLine := by have := r.un; omega
theorem Room.units0 {k : Nat} {A : Around} (r : Room k A) : A.units < cLine := by have := r.un; omega

def tNil : TA := fun _ H Q => Q [] H
def tCons (ta : TE) (tr : TA) : TA := fun σ H Q => ta σ H fun x H1 => tr σ H1 fun xs H2 => Q (x :: xs) H2
section
variable {X : Cx} {e : Expr} {es : List Expr} {te : TE} {t : TA} {pos : Pos}
theorem pa_nil : PA X [] tNil := fun _ _ _ _ H Q I h => Calls.spliced_nil ⟨[], H, I, .nil, h⟩
theorem pa_cons (ha : PE X e te) (hr : PA X es t) (hs : starEach (e :: es) X.env = (false, eval e X.env) :: starEach es X.env := by rfl) : PA X (e :: es) (tCons te t) := by
  intro pos pins s σ H Q I h
  rw [hs]
  show wpAny _ _ (spliced ((false, eval e X.env) :: backTo pos (starEach es X.env))) _ _ s
  refine Calls.spliced_cons (thn (ha pins s σ H _ I h) fun u s1 ⟨x, H1, I1, r1, q1⟩ => ?_)
  exact thn (hr pos pins s1 σ H1 _ I1 q1) fun us s2 ⟨xs, H2, I2, r2, q2⟩ => ⟨x :: xs, H2, I2, .cons r1 r2, q2⟩

def tTup (t : TA) : TE := fun σ H Q => t σ H fun xs H1 => xs.length ≤ sizeLine ∧ ∀ p, H1 p = none → Q (.ref p) (upd H1 p (.tup xs))
def tLst (t : TA) : TE := fun σ H Q => t σ H fun xs H1 => xs.length ≤ sizeLine ∧ ∀ p, H1 p = none → Q (.ref p) (upd H1 p (.lst xs))
theorem pe_tup {x1} (h : PA X es t) : PE X (.Tuple es x1 pos) (tTup t) := by
  intro pins s σ H Q I hq
  refine wpAny_Tuple_spliced (thn (h pos pins s σ H _ I hq) fun us s1 ⟨xs, H1, I1, r, z, q⟩ => ⟨by rw [← r.length]; exact z, ?_⟩)
  have hf : H1 s1.heap.objs.size = none := I1.hok.fresh (Nat.le_refl _)
  refine ⟨.ref s1.heap.objs.size, upd H1 s1.heap.objs.size (.tup xs), I1.laid (t' := s1.toks) (fun b u e => Heap.get?_push_of_some _ e) (Nat.le_refl _) ?_, rfl, q _ hf⟩
  exact ⟨z, us, r, ⟨_, Heap.get?_push_size _ rfl, rfl, _, rfl⟩⟩
theorem pe_lst (h : PA X es t) : PE X (.List es pos) (tLst t) := by
  intro pins s σ H Q I hq
  refine wpAny_List_spliced (thn (h pos pins s σ H _ I hq) fun us s1 ⟨xs, H1, I1, r, z, q⟩ => ⟨by rw [← r.length]; exact z, ?_⟩)
  have hf : H1 s1.heap.objs.size = none := I1.hok.fresh (Nat.le_refl _)
  refine ⟨.ref s1.heap.objs.size, upd H1 s1.heap.objs.size (.lst xs), I1.laid (t' := s1.toks) (fun b u e => Heap.get?_push_of_some _ e) (Nat.le_refl _) ?_, rfl, q _ hf⟩
  exact ⟨z, us, 0, r, Heap.get?_push_size _ rfl⟩
end

abbrev Sp := List V → Hp → VK → XK → Prop
abbrev CXT := List Env → Hp → Shared → XK → Value → Shared → Prop

structure Env0 (P : Program) (w : World) (K : PySem.W.Frag) (mg : Str → Option Value) (base : Heap) (A : Around) (outer : List Env) (s : Shared) (H : Hp) : Prop where
  frames : A.frames = some outer
  mod : Mod K mg base
  bs : ∀ b o, base.get? b = some o → s.heap.get? b = some o ∧ H b = none
  bsz : base.objs.size ≤ s.heap.objs.size
  funs : s.heap.FunFrames base outer
  frf : ∀ b ∈ frs outer, H b = none
  hok : HOk P w H s.heap
  bare : AllBare s.gens
def CE (outer : List Env) (P : Program) (w : World) (H : Hp) (s : Shared) (Q : VK) (u : Value) (s' : Shared) : Prop :=
  ∃ v H', s'.os = s.os ∧ AllBare s'.gens ∧ Un (frs outer) [] H H' s.heap s'.heap ∧ HOk P w H' s'.heap ∧ RelV v u ∧ Q v H'
def CR (CX : CXT) (outer : List Env) (P : Program) (w : World) (H : Hp) (s : Shared) (Q : VK) (E : XK) (r : Result) (s' : Shared) : Prop :=
  match r with
  | .ok (.ret u) => CE outer P w H s Q u s'
  | .ok _ => False
  | .error e => CX outer H s E e s'
structure FnOk (P : Program) (w : World) (K : PySem.W.Frag) (mg : Str → Option Value) (base : Heap) (CX : CXT) (k : Nat) (f : Addr) (fd : FuncData) (ps : List Str) (sp : Sp) : Prop where
  len : ∀ vs H Q E, sp vs H Q E → vs.length = ps.length
  run : ∀ (A : Around) (outer : List Env) (s : Shared) (H : Hp) (args : Args) (us : List Value) (vs : List V) (Q : VK) (E : XK), Room k A → Env0 P w K mg base A outer s H → BindsTo s fd args (ps.zip us) → Vals vs us → sp vs H Q E →
    codeAny (model P w) A (.call (.ref f) args) (CR CX outer P w H s Q E) s
theorem FnOk.mono {P : Program} {w : World} {K : PySem.W.Frag} {mg : Str → Option Value} {base : Heap} {CX : CXT} {j k : Nat} {f : Addr} {fd : FuncData} {ps : List Str} {sp : Sp} (F : FnOk P w K mg base CX j f fd ps sp) (h : j ≤ k) :
    FnOk P w K mg base CX k f fd ps sp := ⟨F.len, fun A outer s H args us vs Q E hr => F.run A outer s H args us vs Q E (hr.mono h)⟩
theorem FnOk.imp {P : Program} {w : World} {K : PySem.W.Frag} {mg : Str → Option Value} {base : Heap} {CX : CXT} {k : Nat} {f : Addr} {fd : FuncData} {ps : List Str} {sp sp' : Sp} (F : FnOk P w K mg base CX k f fd ps sp)
    (h : ∀ vs H Q E, sp' vs H Q E → sp vs H Q E) : FnOk P w K mg base CX k f fd ps sp' :=
  ⟨fun vs H Q E q => F.len vs H Q E (h _ _ _ _ q), fun A outer s H args us vs Q E hr he hb hv hs => F.run A outer s H args us vs Q E hr he hb hv (h _ _ _ _ hs)⟩

theorem Env0.make {P : Program} {w : World} {K : PySem.W.Frag} {mg : Str → Option Value} {base : Heap} {A : Around} {outer : List Env} {s : Shared} {H : Hp} (e : Env0 P w K mg base A outer s H) (C : Addr) (us : List Value) (kw : List (Str × Value)) :
    Env0 P w K mg base (A.under (.builtin "type.__call__" ⟨.ref C :: us, kw⟩)) outer s H := ⟨by first | exact e.frames | (simpa [Around.under, Code.envs, Code.isFrame, pushEnvs] using e.frames), e.mod, e.bs, e.bsz, e.funs, e.frf, e.hok, e.bare⟩
theorem Env0.in1 {P : Program} {w : World} {K : PySem.W.Frag} {mg : Str → Option Value} {base : Heap} {A : Around} {outer : List Env} {s : Shared} {H : Hp} (e : Env0 P w K mg base A outer s H) :
    Env0 P w K mg base A.in1 outer s H := ⟨e.frames, e.mod, e.bs, e.bsz, e.funs, e.frf, e.hok, e.bare⟩

section
variable {X : Cx} {pins : List (Addr × Obj)} {σ : St} {H : Hp} {s s' : Shared}
theorem Inv.env0 (I : Inv X pins σ H s) : Env0 X.prog X.w X.K X.mg X.base X.A X.stack s H :=
  ⟨I.ok.frames, I.ok.mod, I.bs, Nat.le_trans I.ok.bsz I.sz, I.stack, I.stkFree, I.hok, I.bare⟩
theorem Inv.after {Q : VK} {u : Value} (I : Inv X pins σ H s) (h : CE X.stack X.prog X.w H s Q u s') : EP X pins σ Q u s' := by
  obtain ⟨v, H', os, bare, un, hok, r, q⟩ := h
  obtain ⟨hh, g, d, t, os'⟩ := s'
  obtain rfl : os' = s.os := os
  exact ⟨v, H', I.call (h' := hh) (g' := g) (d' := d) (t' := t) (ch := []) un hok bare (fun b z => absurd z (by simp)), r, q⟩
end

def tCall (sp : Sp) (dvs : List V) (E : XK) (t : TA) : TE := fun σ H Q => t σ H fun vs H1 => sp (vs ++ dvs) H1 Q E
def tMeth (C : Addr) (m : Str) (sp : Sp) (dvs : List V) (E : XK) (ta : TE) (t : TA) : TE := fun σ H Q => ta σ H fun x H1 => ∃ a dx fs, x = .ref a ∧ H1 a = some (.ins C dx fs) ∧ fs.lookup m = none ∧
  t σ H1 fun vs H2 => sp (x :: (vs ++ dvs)) H2 Q E
def tMake (C : Addr) (sp : Sp) (dvs : List V) (E : XK) (t : TA) : TE := fun σ H Q => t σ H fun vs H1 => ∀ x dx, H1 x = none → H1 dx = none → dx ≠ x →
  sp (.ref x :: (vs ++ dvs)) (upd (upd H1 dx (.own x)) x (.ins C dx [])) (fun v H2 => v = .non ∧ Q (.ref x) H2) E

def Binds (K : PySem.W.Frag) (fd : FuncData) (ps : List Str) (ds : List Value) : Prop :=
  ∀ (s : Shared) (us : List Value), K.In s.heap → (us ++ ds).length = ps.length → BindsTo s fd ⟨us, []⟩ (ps.zip (us ++ ds))
theorem Binds.all {K : PySem.W.Frag} {fd : FuncData} {ps : List Str} (h : ∀ us : List Value, us.length = ps.length → bindArgs fd ⟨us, []⟩ = pure (ps.zip us)) : Binds K fd ps [] := fun s us _ hl => by
  rw [List.append_nil] at hl ⊢
  exact .of_eq (h us hl)

def Passes (CX : CXT) (X : Cx) (E : XK) : Prop := ∀ (pins : List (Addr × Obj)) (σ : St) (H : Hp) (s : Shared) (e : Value) (s' : Shared), Inv X pins σ H s → CX X.stack H s E e s' → X.xe e s'

section
variable {X : Cx} {CX : CXT} {k : Nat} {f C : Addr} {fd : FuncData} {ps : List Str} {sp : Sp} {dvs : List V} {ds : List Value} {E : XK} {x m : Str} {p pos apos : Pos} {e o : Expr} {es : List Expr} {ta : TE} {t : TA}

theorem run_fn {pins : List (Addr × Obj)} {σ : St} {H : Hp} {s : Shared} {Q : VK} {us : List Value} {vs : List V} (F : FnOk X.prog X.w X.K X.mg X.base CX k f fd ps sp) (hr : Room k X.A) (hb : Binds X.K fd ps ds) (hd : Vals dvs ds) (hx : Passes CX X E)
    (I : Inv X pins σ H s) (r : Vals vs us) (h : sp (vs ++ dvs) H Q E) : wpAny (model X.prog X.w) X.A (call (.ref f) us) (EP X pins σ Q) X.xe s := by
  have r2 : Vals (vs ++ dvs) (us ++ ds) := r.append hd
  have hl : (us ++ ds).length = ps.length := by rw [← r2.length]; exact F.len _ _ _ _ h
  refine wpAny_call (codeAny_mono (F.run X.A X.stack s H ⟨us, []⟩ (us ++ ds) (vs ++ dvs) Q E hr I.env0 (hb s us I.kIn hl) r2 h) fun r s' hq => ?_)
  cases r with
  | error e => exact hx pins σ H s e s' I hq
  | ok fl =>
    cases fl with
    | ret u => exact I.after hq
    | next => exact False.elim hq
    | brk => exact False.elim hq
    | cont => exact False.elim hq

theorem pe_call (F : FnOk X.prog X.w X.K X.mg X.base CX k f fd ps sp) (hr : Room k X.A) (hg : Gl X x) (hm : X.mg x = some (.ref f)) (hk : PySem.W.keepIn X.K (.ref f) = true) (hb : Binds X.K fd ps ds) (hd : Vals dvs ds) (hx : Passes CX X E)
    (ha : PA X (e :: es) t) (hdb : (x == ("__debug__" : Str)) = false := by decide) (he : starEach (e :: es) X.env = (false, eval e X.env) :: starEach es X.env := by rfl) (hpl : (backTo pos (starEach es X.env)).any (·.1) = false := by rfl) :
    PE X (.Call (.Name x p) (e :: es) [] pos) (tCall sp dvs E t) := by
  intro pins s σ H Q I h
  refine wpAny_Call_Name_kw (ld_glob I hg hm ?_ hdb)
  refine PySem.W.callWith_K (h₀ := X.base) I.ok.mod.kin hk (thn (ha pos pins s σ H _ I h) fun us s1 ⟨vs, H1, I1, r, q⟩ => ⟨I1.kIn, ?_⟩) he hpl
  exact run_fn F hr hb hd hx I1 r q
theorem pe_call0 (F : FnOk X.prog X.w X.K X.mg X.base CX k f fd ps sp) (hr : Room k X.A) (hg : Gl X x) (hm : X.mg x = some (.ref f)) (hk : PySem.W.keepIn X.K (.ref f) = true) (hb : Binds X.K fd ps ds) (hd : Vals dvs ds) (hx : Passes CX X E)
    (hdb : (x == ("__debug__" : Str)) = false := by decide) : PE X (.Call (.Name x p) [] [] pos) (tCall sp dvs E tNil) := by
  intro pins s σ H Q I h
  refine wpAny_Call_Name_kw (ld_glob I hg hm ?_ hdb)
  exact PySem.W.callWith_K0 I.kIn hk (run_fn (us := []) F hr hb hd hx I .nil h)

theorem pe_meth {pl : Sem Bool} (he : PE X o ta) (c : Cls X.K C) (hm : Meth X.K C m f) (F : FnOk X.prog X.w X.K X.mg X.base CX k f fd ps sp) (hr : Room k X.A) (hb : Binds X.K fd ps ds) (hd : Vals dvs ds) (hx : Passes CX X E) (ha : PA X (e :: es) t)
    (hst : starEach (e :: es) X.env = (false, eval e X.env) :: starEach es X.env := by rfl) (hpl : (backTo pos (starEach es X.env)).any (·.1) = false := by rfl)
    (ht : eval (.Call (.Attribute o m apos) (e :: es) [] pos) X.env = (do
      let ov ← eval o X.env
      standAt apos.atName
      let (f, first) ← holding [ov] (getMethod ov m pl)
      callWith pos f first (backTo pos (starEach (e :: es) X.env)) (backToKw pos (keywordEach [] X.env))) := by rfl) :
    PE X (.Call (.Attribute o m apos) (e :: es) [] pos) (tMeth C m sp dvs E ta t) := by
  intro pins s σ H Q I h
  refine PySem.W.methodCall_KW (pl := pl) (thn (he pins s σ H _ I h) fun u s1 ⟨x, H1, I1, rx, a, dx, fs, ex, ea, l, q⟩ => ?_) ht
  subst ex
  obtain rfl : u = Value.ref a := rx
  refine getmeth_ok I1 ea c hm l ?_
  refine PySem.W.callWith_K (first := [.ref a]) (h₀ := X.base) I.ok.mod.kin hm.kp (thn (ha pos pins s1 σ H1 _ I1 q) fun us s2 ⟨vs, H2, I2, r, q2⟩ => ⟨I2.kIn, ?_⟩) hst hpl
  exact run_fn (us := .ref a :: us) (vs := .ref a :: vs) F hr hb hd hx I2 (.cons rfl r) q2
theorem pe_meth0 {pl : Sem Bool} (he : PE X o ta) (c : Cls X.K C) (hm : Meth X.K C m f) (F : FnOk X.prog X.w X.K X.mg X.base CX k f fd ps sp) (hr : Room k X.A) (hb : Binds X.K fd ps ds) (hd : Vals dvs ds) (hx : Passes CX X E)
    (ht : eval (.Call (.Attribute o m apos) [] [] pos) X.env = (do
      let ov ← eval o X.env
      standAt apos.atName
      let (f, first) ← holding [ov] (getMethod ov m pl)
      callWith pos f first (backTo pos (starEach [] X.env)) (backToKw pos (keywordEach [] X.env))) := by rfl) :
    PE X (.Call (.Attribute o m apos) [] [] pos) (tMeth C m sp dvs E ta tNil) := by
  intro pins s σ H Q I h
  refine PySem.W.methodCall_KW (pl := pl) (thn (he pins s σ H _ I h) fun u s1 ⟨x, H1, I1, rx, a, dx, fs, ex, ea, l, q⟩ => ?_) ht
  subst ex
  obtain rfl : u = Value.ref a := rx
  refine getmeth_ok I1 ea c hm l ?_
  exact PySem.W.callWith_K0 (first := [.ref a]) I1.kIn hm.kp (run_fn (us := [.ref a]) (vs := [.ref a]) F hr hb hd hx I1 (.cons rfl .nil) q)

structure Mk (K : PySem.W.Frag) (C f : Addr) : Prop where
  makes : PySem.W.makesIn K C = true
  init : PySem.W.findIn K (.ref C) "__init__" = some (some (.ref f))
  fn : PySem.W.isFn K (.ref f) = true
  kp : PySem.W.keepIn K (.ref C) = true

theorem run_make {pins : List (Addr × Obj)} {σ : St} {H : Hp} {s : Shared} {Q : VK} {us : List Value} {vs : List V} (M : Mk X.K C f) (F : FnOk X.prog X.w X.K X.mg X.base CX k f fd ps sp) (hr : Room (k + 1) X.A) (hb : Binds X.K fd ps ds) (hd : Vals dvs ds)
    (hx : Passes CX X E) (I : Inv X pins σ H s) (r : Vals vs us)
    (h : ∀ x dx, H x = none → H dx = none → dx ≠ x → sp (.ref x :: (vs ++ dvs)) (upd (upd H dx (.own x)) x (.ins C dx [])) (fun v H2 => v = .non ∧ Q (.ref x) H2) E) :
    wpAny (model X.prog X.w) X.A (call (.ref C) us) (EP X pins σ Q) X.xe s := by
  have hq := h (s.heap.objs.size + 1) s.heap.objs.size (I.hok.fresh (Nat.le_succ _)) (I.hok.fresh (Nat.le_refl _)) (Nat.ne_of_lt (Nat.lt_succ_self _))
  have I2 := Inv.made (C := C) I
  have r2 : Vals (V.ref (s.heap.objs.size + 1) :: (vs ++ dvs)) (Value.ref (s.heap.objs.size + 1) :: (us ++ ds)) := .cons rfl (r.append hd)
  have hl : (Value.ref (s.heap.objs.size + 1) :: us ++ ds).length = ps.length := by
    have e := r2.length
    rw [F.len _ _ _ _ hq] at e
    exact e.symm
  refine wpAny_call (make_map (f := f) I.kIn M.makes M.init (beq_iff_eq.mp M.fn) (codeAny_mono (F.run _ X.stack _ _ ⟨Value.ref (s.heap.objs.size + 1) :: us, []⟩ (Value.ref (s.heap.objs.size + 1) :: (us ++ ds)) _ _ E (hr.make C us [])
    (I2.env0.make C us []) (hb _ (Value.ref (s.heap.objs.size + 1) :: us) I2.kIn hl) r2 hq) fun r s' hq' => ?_))
  cases r with
  | error e => exact hx pins σ _ _ e s' I2 hq'
  | ok fl =>
    cases fl with
    | ret u =>
      obtain ⟨v, H', I3, rv, ev, q3⟩ := I2.after hq'
      subst ev
      exact ⟨rv, ⟨V.ref (s.heap.objs.size + 1), H', I3, rfl, q3⟩⟩
    | next => exact False.elim hq'
    | brk => exact False.elim hq'
    | cont => exact False.elim hq'
theorem pe_make (M : Mk X.K C f) (F : FnOk X.prog X.w X.K X.mg X.base CX k f fd ps sp) (hr : Room (k + 1) X.A) (hg : Gl X x) (hm : X.mg x = some (.ref C)) (hb : Binds X.K fd ps ds) (hd : Vals dvs ds) (hx : Passes CX X E)
    (ha : PA X (e :: es) t) (hdb : (x == ("__debug__" : Str)) = false := by decide) (he : starEach (e :: es) X.env = (false, eval e X.env) :: starEach es X.env := by rfl) (hpl : (backTo pos (starEach es X.env)).any (·.1) = false := by rfl) :
    PE X (.Call (.Name x p) (e :: es) [] pos) (tMake C sp dvs E t) := by
  intro pins s σ H Q I h
  refine wpAny_Call_Name_kw (ld_glob I hg hm ?_ hdb)
  refine PySem.W.callWith_K (h₀ := X.base) I.ok.mod.kin M.kp (thn (ha pos pins s σ H _ I h) fun us s1 ⟨vs, H1, I1, r, q⟩ => ⟨I1.kIn, ?_⟩) he hpl
  exact run_make M F hr hb hd hx I1 r q
theorem pe_make0 (M : Mk X.K C f) (F : FnOk X.prog X.w X.K X.mg X.base CX k f fd ps sp) (hr : Room (k + 1) X.A) (hg : Gl X x) (hm : X.mg x = some (.ref C)) (hb : Binds X.K fd ps ds) (hd : Vals dvs ds) (hx : Passes CX X E)
    (hdb : (x == ("__debug__" : Str)) = false := by decide) : PE X (.Call (.Name x p) [] [] pos) (tMake C sp dvs E tNil) := by
  intro pins s σ H Q I h
  refine wpAny_Call_Name_kw (ld_glob I hg hm ?_ hdb)
  exact PySem.W.callWith_K0 I.kIn M.kp (run_make (us := []) M F hr hb hd hx I .nil h)
end

def PK (X : Cx) (kws : List Keyword) (t : TA) : Prop :=
  ∀ (pos : Pos) (pins : List (Addr × Obj)) (s : Shared) (σ : St) (H : Hp) (Q : List V → Hp → Prop), Inv X pins σ H s → t σ H Q → wpAny (model X.prog X.w) X.A (evalAll ((backToKw pos (keywordEach kws X.env)).map (·.2))) (AP X pins σ Q) X.xe s
section
variable {X : Cx} {CX : CXT} {k : Nat} {f C : Addr} {fd : FuncData} {ps ks : List Str} {sp : Sp} {E : XK} {x m : Str} {p pos apos kpos : Pos} {e o : Expr} {es : List Expr} {kws : List Keyword} {te ta : TE} {t tk : TA} {nm : Option Str}
theorem pk_nil : PK X [] tNil := fun _ _ _ _ H Q I h => wpAny_evalAll_nil ⟨[], H, I, .nil, h⟩
theorem pk_cons (ha : PE X e te) (hr : PK X kws t) : PK X (⟨nm, e, kpos⟩ :: kws) (tCons te t) := by
  intro pos pins s σ H Q I h
  show wpAny _ _ (evalAll ((do let v ← eval e X.env; standAt pos; pure v) :: (backToKw pos (keywordEach kws X.env)).map (·.2))) _ _ s
  refine wpAny_evalAll_cons (wpAny_bind (thn (ha pins s σ H _ I h) fun u s1 ⟨x, H1, I1, r1, q1⟩ => wpAny_bind (wpAny_standAt (wpAny_pure ?_))))
  exact thn (hr pos pins s1 σ H1 _ I1 q1) fun us s2 ⟨xs, H2, I2, r2, q2⟩ => ⟨x :: xs, H2, I2, .cons r1 r2, q2⟩

structure KBinds (K : PySem.W.Frag) (fd : FuncData) (ps ks : List Str) (g : List Value → List Value → List Value) (gV : List V → List V → List V) : Prop where
  to : ∀ (s : Shared) (us ws : List Value), K.In s.heap → (g us ws).length = ps.length → BindsTo s fd ⟨us, ks.zip ws⟩ (ps.zip (g us ws))
  rel : ∀ {vs : List V} {us : List Value} {zs : List V} {ws : List Value}, Vals vs us → Vals zs ws → Vals (gV vs zs) (g us ws)
def tCallK (sp : Sp) (gV : List V → List V → List V) (E : XK) (t tk : TA) : TE := fun σ H Q => t σ H fun vs H1 => tk σ H1 fun zs H2 => sp (gV vs zs) H2 Q E
variable {g : List Value → List Value → List Value} {gV : List V → List V → List V}
theorem run_fnk {pins : List (Addr × Obj)} {σ : St} {H : Hp} {s : Shared} {Q : VK} {us ws : List Value} {vs zs : List V} (F : FnOk X.prog X.w X.K X.mg X.base CX k f fd ps sp) (hr : Room k X.A) (hb : KBinds X.K fd ps ks g gV) (hx : Passes CX X E)
    (I : Inv X pins σ H s) (r : Vals vs us) (rz : Vals zs ws) (h : sp (gV vs zs) H Q E) : wpAny (model X.prog X.w) X.A (call (.ref f) us (ks.zip ws)) (EP X pins σ Q) X.xe s := by
  have r2 := hb.rel r rz
  have hl : (g us ws).length = ps.length := by rw [← r2.length]; exact F.len _ _ _ _ h
  refine wpAny_call (codeAny_mono (F.run X.A X.stack s H ⟨us, ks.zip ws⟩ (g us ws) (gV vs zs) Q E hr I.env0 (hb.to s us ws I.kIn hl) r2 h) fun r s' hq => ?_)
  cases r with
  | error e => exact hx pins σ H s e s' I hq
  | ok fl =>
    cases fl with
    | ret u => exact I.after hq
    | next => exact False.elim hq
    | brk => exact False.elim hq
    | cont => exact False.elim hq
theorem pe_callK (F : FnOk X.prog X.w X.K X.mg X.base CX k f fd ps sp) (hr : Room k X.A) (hg : Gl X x) (hm : X.mg x = some (.ref f)) (hk : PySem.W.keepIn X.K (.ref f) = true) (hb : KBinds X.K fd ps ks g gV) (hx : Passes CX X E)
    (ha : PA X (e :: es) t) (hkw : PK X kws tk) (hall : (backToKw pos (keywordEach kws X.env)).all (·.1.isSome) = true := by rfl) (hks : (backToKw pos (keywordEach kws X.env)).filterMap (·.1) = ks := by rfl)
    (hdb : (x == ("__debug__" : Str)) = false := by decide) (he : starEach (e :: es) X.env = (false, eval e X.env) :: starEach es X.env := by rfl)
    (hpl : ((backTo pos (starEach (e :: es) X.env)).any (·.1) || (backToKw pos (keywordEach kws X.env)).any (·.1.isNone)) = false := by rfl) :
    PE X (.Call (.Name x p) (e :: es) kws pos) (tCallK sp gV E t tk) := by
  intro pins s σ H Q I h
  refine wpAny_Call_Name_kw (ld_glob I hg hm ?_ hdb)
  refine PySem.W.callWith_KW (h₀ := X.base) I.ok.mod.kin hk hall (thn (ha pos pins s σ H _ I h) fun us s1 ⟨vs, H1, I1, r, q⟩ => ?_) hpl he
  refine thn (hkw pos pins s1 σ H1 _ I1 q) fun ws s2 ⟨zs, H2, I2, rz, q2⟩ => ⟨I2.kIn, ?_⟩
  rw [hks]
  exact run_fnk F hr hb hx I2 r rz q2
end

structure FnScope (N P : List Str) (sc : Scope) : Prop where
  kind : sc.kind = .function
  co : sc.isCoroutine = false
  gen : sc.isGenerator = false
  nd : N.Nodup
  pre : N.take P.length = P
  par : ∀ x ∈ P, sc.names.lookup x = some .local ∨ sc.names.lookup x = some .cell
  nofree : ∀ y ∈ sc.names, y.2 ≠ .free

theorem bindL_out {kindOf : Str → Option NameKind} {x : Str} : ∀ {binds : List (Str × Value)} {m : Str → Option Value}, (∀ v, (x, v) ∉ binds) → bindL kindOf binds m x = m x
  | [], _, _ => rfl
  | (n, v) :: r, m, h => by
    unfold bindL
    rw [bindL_out fun w hw => h w (List.mem_cons_of_mem _ hw)]
    split
    · have : x ≠ n := by rintro rfl; exact h v List.mem_cons_self
      simp [this]
    · rfl
theorem bindC_out {kindOf : Str → Option NameKind} {x : Str} : ∀ {binds : List (Str × Value)} {m : Str → Option Value}, (∀ v, (x, v) ∉ binds) → bindC kindOf binds m x = m x
  | [], _, _ => rfl
  | (n, v) :: r, m, h => by
    unfold bindC
    rw [bindC_out fun w hw => h w (List.mem_cons_of_mem _ hw)]
    split
    · rfl
    · have : x ≠ n := by rintro rfl; exact h v List.mem_cons_self
      simp [this]
theorem bindL_get {kindOf : Str → Option NameKind} {x : Str} {v : Value} : ∀ {P : List Str} {vs : List Value} {i : Nat} {m : Str → Option Value}, P.Nodup → P[i]? = some x → vs[i]? = some v → kindOf x = some .local →
    bindL kindOf (P.zip vs) m x = some v
  | [], _, _, _, _, h, _, _ => by simp at h
  | _ :: _, [], _, _, _, _, h, _ => by simp at h
  | p :: P, w :: vs, 0, m, nd, h1, h2, hk => by
    simp at h1 h2; subst h1; subst h2
    show bindL kindOf ((p, w) :: P.zip vs) m p = _
    unfold bindL
    rw [bindL_out fun v hv => (List.nodup_cons.mp nd).1 (List.of_mem_zip hv).1, if_pos hk]
    simp
  | p :: P, w :: vs, i + 1, m, nd, h1, h2, hk => by
    show bindL kindOf ((p, w) :: P.zip vs) m x = _
    unfold bindL
    exact bindL_get (i := i) (List.nodup_cons.mp nd).2 (by simpa using h1) (by simpa using h2) hk
theorem bindC_get {kindOf : Str → Option NameKind} {x : Str} {v : Value} : ∀ {P : List Str} {vs : List Value} {i : Nat} {m : Str → Option Value}, P.Nodup → P[i]? = some x → vs[i]? = some v → kindOf x ≠ some .local →
    bindC kindOf (P.zip vs) m x = some v
  | [], _, _, _, _, h, _, _ => by simp at h
  | _ :: _, [], _, _, _, _, h, _ => by simp at h
  | p :: P, w :: vs, 0, m, nd, h1, h2, hk => by
    simp at h1 h2; subst h1; subst h2
    show bindC kindOf ((p, w) :: P.zip vs) m p = _
    unfold bindC
    rw [bindC_out fun v hv => (List.nodup_cons.mp nd).1 (List.of_mem_zip hv).1, if_neg hk]
    simp
  | p :: P, w :: vs, i + 1, m, nd, h1, h2, hk => by
    show bindC kindOf ((p, w) :: P.zip vs) m x = _
    unfold bindC
    exact bindC_get (i := i) (List.nodup_cons.mp nd).2 (by simpa using h1) (by simpa using h2) hk

def start (N : List Str) (vs : List V) : St := vs.map some ++ List.replicate (N.length - vs.length) none

def cxOf (CX : CXT) (P : Program) (w : World) (K : PySem.W.Frag) (mg : Str → Option Value) (base : Heap) (N : List Str) (qual : Str) (scope : Scope) (f : Addr) (cd : Value) (A : Around) (outer : List Env) (s : Shared) (H : Hp) (E : XK) : Cx where
  prog := P
  w := w
  K := K
  mg := mg
  base := base
  A := A.deeper (envOfC qual scope s.heap.objs.size f cd)
  N := N
  s₀ := s
  H₀ := H
  env := envOfC qual scope s.heap.objs.size f cd
  outer := outer
  stack := envOfC qual scope s.heap.objs.size f cd :: outer
  ex := []
  calm := true
  fn := fun _ => true
  pn := []
  xe := fun e s' => wpAny (model P w) (A.deeper (envOfC qual scope s.heap.objs.size f cd)) (leaving (envOfC qual scope s.heap.objs.size f cd) e) (fun _ s'' => CX outer H s E e s'') (fun e' s'' => CX outer H s E e' s'') s'

theorem cell_has {sc : Scope} {n : Nat} {x : Str} (h : sc.names.lookup x = some .cell) : ∃ c, (cellsFrom n sc.names []).lookup x = some c := by
  have q := PySem.W.cellsFrom_some sc.names n [] (.inl h)
  exact Option.isSome_iff_exists.mp q

theorem inv_start {CX : CXT} {P : Program} {w : World} {K : PySem.W.Frag} {mg : Str → Option Value} {base : Heap} {N ps : List Str} {qual : Str} {scope : Scope} {f : Addr} {cd : Value} {A : Around} {outer : List Env} {s s1 : Shared} {H : Hp} {E : XK} {us : List Value} {vs : List V}
    (S : FnScope N ps scope) (hd : A.handled = none) (e0 : Env0 P w K mg base A outer s H) (hl : vs.length = ps.length) (r : Vals vs us)
    (x : InCallC s s.heap.objs.size (bindL (envOfC qual scope s.heap.objs.size f cd).kindOf (ps.zip us) fun _ => none) (cellsFrom (s.heap.objs.size + 1) scope.names []) (bindC (envOfC qual scope s.heap.objs.size f cd).kindOf (ps.zip us) fun _ => none) s1) :
    Inv (cxOf CX P w K mg base N qual scope f cd A outer s H E) [] (start N vs) H s1 := by
  have hpl : ps.length ≤ N.length := by have := congrArg List.length S.pre; rw [List.length_take] at this; omega
  obtain ⟨h1, tk, rfl, hk⟩ := x.done
  have noA : ∀ b : Addr, b ∉ (cxOf CX P w K mg base N qual scope f cd A outer s H E).ex := fun b z => absurd (show b ∈ ([] : List Addr) from z) (by simp)
  refine ⟨⟨e0.mod, S.kind, rfl, rfl, Nat.le_refl _, fun y z c h1 h2 => ?_, fun y hy => ?_, fun y c _ h => ?_, fun _ => hd, Around.frames_deeper e0.frames, .inr ⟨rfl, rfl⟩, fun b z => absurd z (noA b), e0.bs, e0.bsz, fun b _ _ => noA b, fun b z => absurd z (noA b), e0.funs, e0.frf⟩,
    rfl, e0.bare, Un.kept hk, ⟨_, x.toInCall.ns, fun i y v h1 h2 h3 => ?_⟩, fun y c h => ⟨_, x.cell y c h⟩, e0.hok.fresh (Nat.le_refl _), fun y c h => ?_, fun p hp => absurd (show p ∈ ([] : List (Addr × Obj)) from hp) (by simp), e0.hok.kept hk, ?_⟩
  · exact name_of_addr x.apart (PySem.mem_of_lookup h1) (PySem.mem_of_lookup h2)
  · have hy : scope.names.lookup y = some .cell ∨ scope.names.lookup y = some .free := hy
    rcases hy with hy | hy
    · exact cell_has hy
    · exact absurd rfl (S.nofree _ (PySem.mem_of_lookup hy))
  · exact Nat.le_of_lt (x.above y c (PySem.mem_of_lookup h))
  · have hi : i < vs.length := by
      unfold start at h2
      by_cases hi : i < vs.length
      · exact hi
      · rw [List.getElem?_append_right (by simpa using hi)] at h2
        rw [List.getElem?_replicate] at h2
        split at h2 <;> cases h2
    have ha : vs[i]? = some v := by
      unfold start at h2
      rw [List.getElem?_append_left (by simpa using hi), List.getElem?_map] at h2
      cases e : vs[i]? with
      | none => rw [e] at h2; cases h2
      | some a => rw [e] at h2; cases h2; rfl
    obtain ⟨u, hu, rv⟩ := r.get ha
    have hp : ps[i]? = some y := by
      rw [← S.pre, List.getElem?_take_of_lt (by omega)]; exact h1
    have ndP : ps.Nodup := by rw [← S.pre]; exact S.nd.sublist (List.take_sublist _ _)
    refine ⟨u, rv, ?_⟩
    rcases S.par y (List.mem_of_getElem? hp) with k | k
    · exact .inl ⟨k, bindL_get ndP hp hu k⟩
    · obtain ⟨c, e⟩ := cell_has (n := s.heap.objs.size + 1) k
      refine .inr ⟨.inl k, c, e, ?_⟩
      have q := x.cell y c e
      rw [bindC_get ndP hp hu (by show scope.names.lookup y ≠ _; rw [k]; decide)] at q
      exact q
  · exact e0.hok.fresh (Nat.le_of_lt (x.above y c (PySem.mem_of_lookup h)))
  · unfold start
    show _ = N.length
    rw [List.length_append, List.length_map, List.length_replicate]
    omega

theorem fn_of {CX : CXT} {P : Program} {w : World} {K : PySem.W.Frag} {mg : Str → Option Value} {base : Heap} {k : Nat} {f : Addr} {name qual : Str} {params : Arguments} {body : List Stmt} {scope : Scope} {dV kV doc pm cdv ct oc : Value} {an od : Option Addr}
    {osl : Array (Option Value)} {N ps : List Str} {sp : Sp} (lk : K.lookup f = some ⟨oc, od, .func (PySem.W.fnOf name qual params body scope dV kV doc pm an cdv ct), osl⟩) (hcd : PySem.W.codeIn K cdv qual = true) (S : FnScope N ps scope)
    (len : ∀ vs H Q E, sp vs H Q E → vs.length = ps.length)
    (hbody : ∀ (A : Around) (outer : List Env) (s : Shared) (H : Hp) (vs : List V) (Q : VK) (E : XK), Room k (A.deeper (envOfC qual scope s.heap.objs.size f cdv)) → sp vs H Q E →
      ∃ t, PSs (cxOf CX P w K mg base N qual scope f cdv A outer s H E) body t ∧ t { nx := fun _ H' => Q .non H', rt := Q } (start N vs) H) :
    FnOk P w K mg base CX (k + 1) f (PySem.W.fnOf name qual params body scope dV kV doc pm an cdv ct) ps sp := by
  refine ⟨len, fun A outer s H args us vs Q E hr e0 hb r hsp => ?_⟩
  have hl := len _ _ _ _ hsp
  have KX : K.In s.heap := e0.mod.kin.keeps fun b o e => (e0.bs b o e).1
  have lim : s.heap.NoLimit := e0.mod.nolimit.keeps fun b o e => (e0.bs b o e).1
  have hkind : ∀ y ∈ ps.zip us, scope.names.lookup y.1 = some .local ∨ (scope.names.lookup y.1 = some .cell ∧ ((cellsFrom (s.heap.objs.size + 1) scope.names []).lookup y.1).isSome = true) := fun ⟨n, v⟩ hy => by
    rcases S.par n (List.of_mem_zip hy).1 with q | q
    · exact .inl q
    · exact .inr ⟨q, PySem.W.cellsFrom_some _ _ _ (.inl q)⟩
  refine codeAny_call_function hr.depth (KX _ _ lk) rfl S.co S.gen rfl (PySem.W.codeRec_of KX hcd) (hb _ _ _ _ ?_)
  refine wpAny_newFunctionEnv_cells S.kind hkind fun env he s1 x => ?_
  subst he
  refine ⟨lim.keeps x.toInCall.keep, codeAny_func ?_⟩
  obtain ⟨t, ht, hq⟩ := hbody A outer s H vs Q E (hr.deeper _) hsp
  have I : Inv (cxOf CX P w K mg base N qual scope f cdv A outer s H E) [] (start N vs) H s1 := inv_start S hr.hd e0 hl r x
  refine wpAny_mono (ht [] s1 (start N vs) H _ I hq) (fun fl s' hs => ?_) fun e s' hs => hs
  have fin : ∀ {σ' : St} {H' : Hp} {v : V} {u : Value}, Inv (cxOf CX P w K mg base N qual scope f cdv A outer s H E) [] σ' H' s' → RelV v u → Q v H' → CE outer P w H s Q u s' :=
    fun {σ' H' v u} J rv q => ⟨v, H', J.os, J.bare, J.base, J.hok, rv, q⟩
  cases fl with
  | ret u =>
    obtain ⟨v, σ', H', J, rv, q⟩ := hs
    exact fin J rv q
  | next =>
    obtain ⟨σ', H', J, q⟩ := hs
    exact fin (v := V.non) (u := Value.none) J rfl q
  | brk =>
    obtain ⟨_, _, _, q⟩ := hs
    exact False.elim q
  | cont =>
    obtain ⟨_, _, _, q⟩ := hs
    exact False.elim q
end L2

namespace L2
open PySem PySem.Spec PyProof.Rows
section
variable {X : Cx} {x : Str} {p pos : Pos} {e : Expr} {es : List Expr} {t : TA} {id T : String} {r : List V → Hp → VK → Prop}

def tCB (r : List V → Hp → VK → Prop) (t : TA) : TE := fun σ H Q => t σ H fun vs H1 => r vs H1 Q
theorem pe_callB (hc : CallR X (.builtin id) r) (hg : Gl X x) (hm : X.mg x = none) (hv : bootBuiltins x = some (.builtin id)) (ha : PA X (e :: es) t) (hn : x ≠ "__name__" := by decide) (hdb : (x == ("__debug__" : Str)) = false := by decide)
    (he : starEach (e :: es) X.env = (false, eval e X.env) :: starEach es X.env := by rfl) (hpl : (backTo pos (starEach es X.env)).any (·.1) = false := by rfl) : PE X (.Call (.Name x p) (e :: es) [] pos) (tCB r t) := by
  intro pins s σ H Q I h
  refine wpAny_Call_Name_kw (ld_blt I hg hm hv ?_ hn hdb)
  exact PyProof.Rows.callWith_builtin1 (thn (ha pos pins s σ H _ I h) fun us s1 ⟨vs, H1, I1, r1, q1⟩ => hc pins s1 σ H1 vs us Q I1 r1 q1) he hpl
theorem pe_callTy (hc : CallR X (.type T) r) (hg : Gl X x) (hm : X.mg x = none) (hv : bootBuiltins x = some (.type T)) (ha : PA X (e :: es) t) (hn : x ≠ "__name__" := by decide) (hdb : (x == ("__debug__" : Str)) = false := by decide)
    (he : starEach (e :: es) X.env = (false, eval e X.env) :: starEach es X.env := by rfl) (hpl : (backTo pos (starEach es X.env)).any (·.1) = false := by rfl) : PE X (.Call (.Name x p) (e :: es) [] pos) (tCB r t) := by
  intro pins s σ H Q I h
  refine wpAny_Call_Name_kw (ld_blt I hg hm hv ?_ hn hdb)
  exact PyProof.Rows.callWith_type1 (thn (ha pos pins s σ H _ I h) fun us s1 ⟨vs, H1, I1, r1, q1⟩ => hc pins s1 σ H1 vs us Q I1 r1 q1) he hpl
theorem pe_callTy0 (hc : CallR X (.type T) r) (hg : Gl X x) (hm : X.mg x = none) (hv : bootBuiltins x = some (.type T)) (hn : x ≠ "__name__" := by decide) (hdb : (x == ("__debug__" : Str)) = false := by decide) :
    PE X (.Call (.Name x p) [] [] pos) (tCB r tNil) := by
  intro pins s σ H Q I h
  refine wpAny_Call_Name_kw (ld_blt I hg hm hv ?_ hn hdb)
  exact PyProof.Rows.callWith_type0 (hc pins s σ H [] [] Q I .nil h)
end
end L2

namespace HT
open PySem PyProof.Rows

def lexLt : List Int → List Int → Bool
  | [], [] => false
  | [], _ :: _ => true
  | _ :: _, [] => false
  | x :: xs, y :: ys => if x = y then lexLt xs ys else decide (x < y)
theorem lexLt_cons (x y : Int) (xs ys : List Int) : lexLt (x :: xs) (y :: ys) = if x = y then lexLt xs ys else decide (x < y) := rfl
theorem lexLt_nil_nil : lexLt [] [] = false := rfl
theorem lexLt_nil_cons (y : Int) (ys : List Int) : lexLt [] (y :: ys) = true := rfl
theorem lexLt_cons_nil (x : Int) (xs : List Int) : lexLt (x :: xs) [] = false := rfl

theorem eqAt_int (A : Around) (s : Shared) (a : Int) (t : Tok) (c : Int) (u : Tok) : ∃ e, SeqAt.EqAt A s (.int a t) (.int c u) e ∧ (e = true ↔ a = c) :=
  ⟨(a == c), SeqAt.EqAt.int_int a t c u, by simp⟩
theorem rcLt_int (A : Around) (s : Shared) (a : Int) (t : Tok) (c : Int) (u : Tok) (prog : Program) (w : World) (E : Value → Shared → Prop) (Q : Value → Shared → Prop) (h : Q (.bool (decide (a < c))) s) :
    wpAny (model prog w) A (richCompare .Lt (.int a t) (.int c u)) Q E s :=
  (PyProof.Rows.lt_int h : wpAny (model prog w) A (compareOp .Lt (.int a t) (.int c u)) Q E s)

section
open PySem.SeqAt
open PySem.AutoSeq1 (wpAny_loadPart')
open PySem.MeetsSeq PySem.MeetsSeq2 PySem.MeetsSeq3

theorem tuple_lt_ints (l b : Addr) (items items2 : Array Value) (n n2 : Nat) (dd dd2 : Option Addr) (sl sl2 : Array (Option Value)) (ns ms : List Int) (hi : IntsAre items.toList ns) (hj : IntsAre items2.toList ms) :
    Meets (Builtin.«tuple.__lt__» ⟨[.ref l, .ref b], []⟩)
      (fun _ R s => s.heap.get? l = some { cls := .type "tuple", dict := dd, data := .seq items n, slots := sl } ∧ s.heap.get? b = some { cls := .type "tuple", dict := dd2, data := .seq items2 n2, slots := sl2 } ∧
        R (.ok (.ret (.bool (lexLt ns ms)))) s) :=
  .of_wp fun prog w A R s h => by
    obtain ⟨hp, g, d, tk, os⟩ := s; obtain ⟨hl, hb, h⟩ := h
    have f2 := AutoSeq1.sub_tuple_tuple
    have z1 : items.size = ns.length := by rw [← hi.length]; simp
    have z2 : items2.size = ms.length := by rw [← hj.length]; simp
    wp_walk using wpAny_loadPart' hl, wpAny_loadPart' hb, wpAny_forIn_list _ (fun rest b s' => b.1 = none ∧ s' = ⟨hp, g, d, tk, os⟩ ∧ ∃ (vs ws : List Value) (ns' ms' : List Int), rest = vs.zip ws ∧
      IntsAre vs ns' ∧ IntsAre ws ms' ∧ ns'.length + items2.size = ms'.length + items.size ∧ R (.ok (.ret (.bool (lexLt ns' ms')))) ⟨hp, g, d, tk, os⟩) _
    case turn =>
      rintro ⟨y, x⟩ rest b s' ⟨hb', rfl, vs, ws, ns', ms', hz, hvi, hwi, hlen, hR⟩
      cases hvi with
      | nil => rw [List.zip_nil_left] at hz; cases hz
      | cons a t hvi' =>
        cases hwi with
        | nil => rw [List.zip_nil_right] at hz; cases hz
        | cons c u hwi' =>
          rw [List.zip_cons_cons] at hz
          injection hz with hyx hrest
          injection hyx with hy hx
          subst hy hx
          rw [lexLt_cons] at hR
          simp only [List.length_cons] at hlen
          obtain ⟨e, he, hiff⟩ := eqAt_int A.in1 ⟨hp, g, d, tk, os⟩ a t c u
          refine wpAny_bind (he prog w _ _ ?_)
          cases e with
          | true =>
            rw [if_pos (hiff.mp rfl)] at hR
            wp_walk
            exact ⟨rfl, rfl, _, _, _, _, hrest, hvi', hwi', by omega, hR⟩
          | false =>
            rw [if_neg (fun q => absurd (hiff.mpr q) Bool.false_ne_true)] at hR
            have hri := rcLt_int A.in1 ⟨hp, g, d, tk, os⟩ a t c u prog w
            wp_walk using hri
            exact ⟨_, rfl, by simpa using hR⟩
    case fin =>
      rintro ⟨b1, b2⟩ s' ⟨hb', rfl, vs, ws, ns', ms', hz, hvi, hwi, hlen, hR⟩
      simp only at hb'
      subst hb'
      have hv : lexLt ns' ms' = decide (items.size < items2.size) := by
        cases hvi with
        | nil =>
          cases hwi with
          | nil =>
            simp only [List.length_nil] at hlen
            rw [lexLt_nil_nil]
            exact (decide_eq_false (by omega)).symm
          | cons c u hw =>
            simp only [List.length_nil, List.length_cons] at hlen
            rw [lexLt_nil_cons]
            exact (decide_eq_true (by omega)).symm
        | cons a t hv =>
          cases hwi with
          | nil =>
            simp only [List.length_nil, List.length_cons] at hlen
            rw [lexLt_cons_nil]
            exact (decide_eq_false (by omega)).symm
          | cons c u hw =>
            rw [List.zip_cons_cons] at hz
            cases hz
      rw [hv] at hR
      wp_walk
      exact ⟨_, rfl, by simpa [Builtin.Tuple.tupleCompareSizes] using hR⟩
    case h =>
      exact ⟨rfl, rfl, items.toList, items2.toList, ns, ms, rfl, hi, hj, by omega, h⟩
end

section
variable {prog : Program} {w : World} {A : Around} {E : Value → Shared → Prop} {s : Shared}

theorem lt_tupInts {l b : Addr} {items items2 : Array Value} {ns ms : List Int} {Q : Value → Shared → Prop} (hl : IsTup s.heap l items) (hb : IsTup s.heap b items2) (hi : IntsAre items.toList ns) (hj : IntsAre items2.toList ms)
    (hu : A.units < cLine) (h : Q (.bool (lexLt ns ms)) s) : wpAny (model prog w) A (compareOp .Lt (.ref l) (.ref b)) Q E s := by
  obtain ⟨⟨cls, dd, data, sl⟩, ho, hc, n, hd⟩ := id hl
  obtain ⟨⟨cls2, dd2, data2, sl2⟩, ho2, hc2, n2, hd2⟩ := id hb
  simp only at hc hd hc2 hd2
  subst hc hd hc2 hd2
  exact richCompare_meets_room (op := .Lt) ⟨_, ho, rfl⟩ ⟨_, ho2, rfl⟩ PySem.F.slot_tuple_lt PySem.F.entry_tuple_lt (PySem.F.args_tuple_lt_2 _ _) (tuple_lt_ints l b items items2 n n2 dd dd2 sl sl2 ns ms hi hj)
    ⟨ho, ho2, show Value.bool (lexLt ns ms) ≠ Value.notImplemented ∧ Q (.bool (lexLt ns ms)) s from ⟨(fun x => nomatch x), h⟩⟩ hu

theorem cat_tup {t b : Addr} {vs ws : List Value} {Q : Value → Shared → Prop} (ht : IsTup s.heap t vs.toArray) (hb : IsTup s.heap b ws.toArray) (hv : vs ≠ [])
    (h1 : ws = [] → Q (.ref t) s) (h2 : ws ≠ [] → Q (.ref s.heap.objs.size) { s with heap := s.heap.push { cls := .type "tuple", data := .seq (vs ++ ws).toArray } })
    (hsz : vs.length + ws.length ≤ sizeLine) : wpAny (model prog w) A (binaryOp .Add (.ref t) (.ref b)) Q E s := by
  obtain ⟨⟨cls, dd, data, sl⟩, ho, hc, n, hd⟩ := id ht
  obtain ⟨⟨cls2, dd2, data2, sl2⟩, ho2, hc2, n2, hd2⟩ := id hb
  simp only at hc hd hc2 hd2
  subst hc hd hc2 hd2
  have e : vs.toArray ++ ws.toArray = (vs ++ ws).toArray := by simp
  by_cases hw : ws = []
  · exact concat_meets ⟨_, ho, rfl⟩ ⟨_, ho2, rfl⟩ noFill_tuple_add seq_tuple_add PySem.F.slot_tuple_add PySem.F.entry_tuple_add (PySem.F.args_tuple_add_2 _ _)
      (tuple_addW1 t b vs.toArray ws.toArray n n2 dd dd2 sl sl2 (by simpa using hv) (by simp [hw])) ⟨ho, ho2, h1 hw⟩
  · refine concat_meets ⟨_, ho, rfl⟩ ⟨_, ho2, rfl⟩ noFill_tuple_add seq_tuple_add PySem.F.slot_tuple_add PySem.F.entry_tuple_add (PySem.F.args_tuple_add_2 _ _)
      (tuple_addW2 t b vs.toArray ws.toArray n n2 dd dd2 sl sl2 (by simpa using hv) (by simpa using hw) (by rw [List.size_toArray, List.size_toArray]; exact hsz)) ⟨ho, ho2, ?_⟩
    rw [e]
    exact h2 hw

def sIx (n d : Nat) : Option Int → Nat
  | none => d
  | some v => if v < 0 then (v + (n : Int)).toNat else min v.toNat n
theorem sIx_none (n d : Nat) : sIx n d none = d := rfl
theorem sIx_nat (n d k : Nat) : sIx n d (some (k : Int)) = min k n := by
  show (if (k : Int) < 0 then ((k : Int) + (n : Int)).toNat else min (k : Int).toNat n) = min k n
  rw [if_neg (by omega), Int.toNat_natCast]
theorem sIx_le (n d : Nat) (hd : d ≤ n) (o : Option Int) : sIx n d o ≤ n := by
  cases o with
  | none => exact hd
  | some v =>
    show (if v < 0 then (v + (n : Int)).toNat else min v.toNat n) ≤ n
    by_cases hv : v < 0
    · rw [if_pos hv]; omega
    · rw [if_neg hv]; exact Nat.min_le_right _ _
theorem clip_eq (v : Int) (n d : Nat) : (if v < 0 then max (v + (n : Int)) 0 else min v (n : Int)) = ((sIx n d (some v) : Nat) : Int) := by
  show (if v < 0 then max (v + (n : Int)) 0 else min v (n : Int)) = (((if v < 0 then (v + (n : Int)).toNat else min v.toNat n) : Nat) : Int)
  by_cases hv : v < 0
  · simp only [if_pos hv]; omega
  · simp only [if_neg hv]; omega
theorem adjust_gen (lo hi : Option Int) (n : Nat) : Builtin.Slice.sliceAdjust lo hi 1 (n : Int) = (((sIx n 0 lo : Nat) : Int), ((sIx n n hi : Nat) : Int)) := by
  have h1 : ¬ ((1 : Int) < 0) := by omega
  unfold Builtin.Slice.sliceAdjust
  simp only [h1, if_false]
  refine Prod.ext ?_ ?_
  · cases lo with
    | none => rfl
    | some v => exact clip_eq v n 0
  · cases hi with
    | none => rfl
    | some v => exact clip_eq v n n
theorem places_gen (i j : Nat) : Builtin.Slice.slicePlaces (i : Int) (j : Int) 1 = j - i := by
  unfold Builtin.Slice.slicePlaces
  have h1 : (1 : Int) > 0 := by omega
  simp only [h1, if_true, Int.ediv_one]
  split <;> omega
theorem slicePart_ {v : Value} {o : Option Int} {Q : Option Int → Shared → Prop} (p : IsPart v o) (h : Q o s) : wpAny (model prog w) A (Builtin.Slice.slicePartIndex v) Q E s := by
  cases p with
  | none => exact slicePart_none h
  | int i t => exact slicePart_int h
theorem sliceApplied_gen {sl : Addr} {vl vu : Value} {lo hi : Option Int} {n : Nat} {Q : Int × Int × Nat → Shared → Prop} (hs : s.heap.IsSliceOf sl vl vu .none) (pl : IsPart vl lo) (pu : IsPart vu hi)
    (h : Q (((sIx n 0 lo : Nat) : Int), 1, sIx n n hi - sIx n 0 lo) s) : wpAny (model prog w) A (Builtin.Slice.sliceApplied (.ref sl) (pure (n : Int))) Q E s := by
  obtain ⟨os, hos, hcs, hds⟩ := id hs
  unfold Builtin.Slice.sliceApplied Builtin.Slice.sliceFields
  refine wpAny_bind (wpAny_bind (wpAny_field hos hds (x := vl) rfl (wpAny_bind (wpAny_field hos hds (x := vu) rfl (wpAny_bind (wpAny_field hos hds (x := .none) rfl (wpAny_pure ?_)))))))
  refine wpAny_bind (slicePart_none ?_)
  show wpAny _ _ (if ((1 : Int) == 0) = true then _ else _) _ _ s
  rw [if_neg (by decide)]
  refine wpAny_bind (slicePart_ pl (wpAny_bind (slicePart_ pu (wpAny_bind (wpAny_pure ?_)))))
  show wpAny _ _ (match Builtin.Slice.sliceAdjust lo hi 1 (n : Int) with | (lo, hi) => pure (lo, (1 : Int), Builtin.Slice.slicePlaces lo hi 1)) _ _ s
  rw [adjust_gen lo hi n]
  show wpAny _ _ (pure (((sIx n 0 lo : Nat) : Int), (1 : Int), Builtin.Slice.slicePlaces ((sIx n 0 lo : Nat) : Int) ((sIx n n hi : Nat) : Int) 1)) _ _ s
  rw [places_gen]
  exact wpAny_pure h
theorem pick_gen (xs : Array Value) (i k : Nat) : ((List.range k).filterMap fun (m : Nat) => xs[((i : Int) + (m : Int) * 1).toNat]?).toArray = ((xs.toList.drop i).take k).toArray := by
  have e : (fun (m : Nat) => xs[((i : Int) + (m : Int) * 1).toNat]?) = fun m => xs[i + m]? := by
    funext m
    have : ((i : Int) + (m : Int) * 1).toNat = i + m := by omega
    rw [this]
  rw [e]
  have := pick_run xs i k
  rw [List.filterMap_map] at this
  have e2 : ((fun x => xs[x]?) ∘ fun x => i + x) = fun m => xs[i + m]? := rfl
  rw [e2] at this
  rw [this]

theorem getItem_tuple_cut {t sl : Addr} {items : Array Value} {vl vu : Value} {lo hi : Option Int} {Q : Value → Shared → Prop} (ht : IsTup s.heap t items) (hs : s.heap.IsSliceOf sl vl vu .none) (pl : IsPart vl lo) (pu : IsPart vu hi)
    (hw : ¬ (sIx items.size 0 lo = 0 ∧ sIx items.size items.size hi = items.size))
    (h : Q (.ref s.heap.objs.size) { s with heap := s.heap.push { cls := .type "tuple", data := .seq ((items.toList.drop (sIx items.size 0 lo)).take (sIx items.size items.size hi - sIx items.size 0 lo)).toArray } })
    (hsz : items.size ≤ sizeLine) : wpAny (model prog w) A (getItem (.ref t) (.ref sl)) Q E s := by
  have htake : sizeOk (.seq ((items.toList.drop (sIx items.size 0 lo)).take (sIx items.size items.size hi - sIx items.size 0 lo)).toArray) := by
    show ((items.toList.drop (sIx items.size 0 lo)).take (sIx items.size items.size hi - sIx items.size 0 lo)).toArray.size ≤ sizeLine
    rw [List.size_toArray, List.length_take, List.length_drop, Array.length_toList]
    omega
  have hj : sIx items.size items.size hi ≤ items.size := sIx_le _ _ (Nat.le_refl _) hi
  obtain ⟨os, hos, hcs, hds⟩ := id hs
  have hTs : s.TypeIs (.ref sl) "slice" := ⟨os, hos, hcs⟩
  unfold getItem
  try with_reducible refine wpAny_holding ?_
  first | refine wpAny_bind (wpAny_pure ?_) | skip
  refine wpAny_bind (wpAny_sequenceKey ht.typeIs (by decide) ?_)
  refine wpAny_bind (wpAny_callSpecial?_slot (name := Str.ofString "__getitem__") ht.typeIs PyProof.Rows.slot_tuple_getitem
    (wpAny_call_entry PyProof.Rows.slot_tuple_getitem ht.typeIs entry_tuple_getitem ?_ (args_tuple_getitem _ _)))
  show wpAny _ _ (Builtin.Tuple.tupleItemsOf (.ref t) >>= _) _ _ s
  refine wpAny_bind (tupleItemsOf_ ht ?_)
  refine wpAny_bind (wpAny_typeOf hTs ?_)
  rw [if_pos (by decide)]
  refine wpAny_bind (sliceApplied_gen hs pl pu ?_)
  have hno : ¬ ((((sIx items.size 0 lo : Nat) : Int) == 0 && (1 : Int) == 1 && (sIx items.size items.size hi - sIx items.size 0 lo) == items.size) = true) := by
    intro q
    rw [Bool.and_eq_true, Bool.and_eq_true] at q
    have q1 : ((sIx items.size 0 lo : Nat) : Int) = 0 := eq_of_beq q.1.1
    have q2 : sIx items.size items.size hi - sIx items.size 0 lo = items.size := eq_of_beq q.2
    exact hw ⟨by omega, by omega⟩
  show wpAny _ _ (if (((sIx items.size 0 lo : Nat) : Int) == 0 && (1 : Int) == 1 && (sIx items.size items.size hi - sIx items.size 0 lo) == items.size) = true then _ else _) _ _ s
  rw [if_neg hno, pick_gen]
  first
    | exact wpAny_bind (m := Builtin.Tuple.tupleExact _) (wpAny_newObj_type (wpAny_pure ⟨_, rfl, wpAny_pure h⟩) htake)
    | exact wpAny_bind (m := Builtin.Tuple.tupleExact _) (wpAny_newObj_type (wpAny_bind (wpAny_pure (wpAny_pure ⟨_, rfl, wpAny_pure h⟩))) htake)
    | exact wpAny_bind (wpAny_bind (m := Builtin.Tuple.tupleExact _) (wpAny_newObj_type (wpAny_pure (wpAny_pure ⟨_, rfl, wpAny_pure h⟩)) htake))
    | exact wpAny_bind (wpAny_bind (m := Builtin.Tuple.tupleExact _) (wpAny_newObj_type (wpAny_pure ⟨_, rfl, wpAny_pure h⟩) htake))
end
end HT

namespace L2
open PySem PySem.Spec PyProof.Rows

abbrev TO := St → Hp → (Option Int → Hp → Prop) → Prop
def PO (X : Cx) (e : Option Expr) (t : TO) : Prop :=
  ∀ (pins : List (Addr × Obj)) (s : Shared) (σ : St) (H : Hp) (Q : Option Int → Hp → Prop), Inv X pins σ H s → t σ H Q →
    wpAny (model X.prog X.w) X.A (evalPart e X.env) (fun u s' => ∃ o H', Inv X pins σ H' s' ∧ IsPart u o ∧ Q o H') X.xe s
def tNoPart : TO := fun _ H Q => Q none H
def tPart (t : TE) : TO := fun σ H Q => t σ H fun x H1 => ∃ i, x = .int i ∧ Q (some i) H1

theorem intsAre_of {ns : List Int} : ∀ {us : List Value}, Vals (ns.map V.int) us → IntsAre us ns := by
  induction ns with
  | nil => intro us r; rw [List.map_nil] at r; cases r; exact .nil
  | cons n ns ih =>
    intro us r
    rw [List.map_cons] at r
    cases r with
    | cons r1 r2 =>
      obtain ⟨t, e⟩ := r1
      subst e
      exact .cons n t (ih r2)

section
variable {X : Cx} {e : Expr} {te : TE} {lo hi : Option Expr} {tl th : TO} {pos p2 : Pos}

theorem po_none : PO X none tNoPart := by
  intro pins s σ H Q I h
  rw [evalPart_none]
  exact wpAny_pure ⟨none, H, I, .none, h⟩
theorem po_some (h : PE X e te) : PO X (some e) (tPart te) := by
  intro pins s σ H Q I hw
  rw [evalPart_some]
  refine thn (h pins s σ H _ I hw) fun u s1 ⟨x, H1, I1, r1, q1⟩ => ?_
  obtain ⟨i, rfl, q⟩ := q1
  obtain ⟨t, rfl⟩ := r1
  exact ⟨some i, H1, I1, .int i t, q⟩

def SlR (X : Cx) (r : V → Option Int → Option Int → Hp → VK → Prop) : Prop :=
  ∀ (pins : List (Addr × Obj)) (s : Shared) (σ : St) (H : Hp) (x : V) (v vl vu : Value) (lo hi : Option Int) (sl : Addr) (Q : VK), Inv X pins σ H s → RelV x v → s.heap.IsSliceOf sl vl vu .none → IsPart vl lo → IsPart vu hi → r x lo hi H Q →
    ∃ T id, typeLookup (.type T) "__getitem__" = pure (some (.builtin id)) ∧ s.TypeIs v T ∧ wpAny (model X.prog X.w) X.A (getItem v (.ref sl)) (EP X pins σ Q) X.xe s
theorem SlR.or {r r' : V → Option Int → Option Int → Hp → VK → Prop} (h : SlR X r) (h' : SlR X r') : SlR X (fun x lo hi H Q => r x lo hi H Q ∨ r' x lo hi H Q) := by
  intro pins s σ H x v vl vu lo hi sl Q I rx hs pl pu q
  rcases q with q | q
  · exact h pins s σ H x v vl vu lo hi sl Q I rx hs pl pu q
  · exact h' pins s σ H x v vl vu lo hi sl Q I rx hs pl pu q
def tSl (r : V → Option Int → Option Int → Hp → VK → Prop) (te : TE) (tl th : TO) : TE := fun σ H Q => te σ H fun x H1 => tl σ H1 fun l H2 => th σ H2 fun u H3 => r x l u H3 Q
theorem pe_slice {r : V → Option Int → Option Int → Hp → VK → Prop} (hr : SlR X r) (he : PE X e te) (hl : PO X lo tl) (hu : PO X hi th) : PE X (.Subscript e (.Slice lo hi none p2) pos) (tSl r te tl th) := by
  intro pins s σ H Q I h
  refine Subscript_ (thn (he pins s σ H _ I h) fun v s1 ⟨x, H1, I1, r1, q1⟩ => ?_)
  refine wpAny_Slice (thn (hl pins s1 σ H1 _ I1 q1) fun vl s2 ⟨l, H2, I2, pl, q2⟩ => thn (hu pins s2 σ H2 _ I2 q2) fun vu s3 ⟨u, H3, I3, pu, q3⟩ => ?_)
  rw [evalPart_none]
  refine wpAny_pure ?_
  have I4 : Inv X pins σ H3 { s3 with heap := s3.heap.push { cls := .type "slice", data := .fields #[vl, vu, .none] } } := I3.kept (t' := s3.toks) fun b ob q => Heap.get?_push_of_some _ q
  obtain ⟨T, id, hT, ht, hg⟩ := hr pins { s3 with heap := s3.heap.push { cls := .type "slice", data := .fields #[vl, vu, .none] } } σ H3 x v vl vu l u s3.heap.objs.size Q I4 r1 (Heap.IsSliceOf.new ..) pl pu q3
  show wpAny (model X.prog X.w) X.A (subscriptTail e (.Slice lo hi none p2) v (.ref s3.heap.objs.size)) (EP X pins σ Q) X.xe { s3 with heap := s3.heap.push { cls := .type "slice", data := .fields #[vl, vu, .none] } }
  exact tail_any (ops := [.ref s3.heap.objs.size, v]) ht hT hg (by with_unfolding_all rfl)

def cutV (xs : List V) (lo hi : Option Int) : List V := (xs.drop (HT.sIx xs.length 0 lo)).take (HT.sIx xs.length xs.length hi - HT.sIx xs.length 0 lo)
theorem cutV_length (xs : List V) (lo hi : Option Int) : (cutV xs lo hi).length ≤ xs.length := by
  unfold cutV
  rw [List.length_take, List.length_drop]
  omega
def rSlT (K : PySem.W.Frag) : V → Option Int → Option Int → Hp → VK → Prop := fun x lo hi H Q => ∃ a xs, x = .ref a ∧ SqT K H a xs ∧
  ¬ (HT.sIx xs.length 0 lo = 0 ∧ HT.sIx xs.length xs.length hi = xs.length) ∧ ∀ p, H p = none → Q (.ref p) (upd H p (.tup (cutV xs lo hi)))
theorem sl_tup : SlR X (rSlT X.K) := by
  intro pins s σ H x v vl vu lo hi sl Q I rx hs pl pu h
  obtain ⟨a, xs, rfl, hx, hw, q⟩ := h
  cases rx
  obtain ⟨its, r, ht, hz⟩ := I.tuple hx
  have hlen : its.toArray.size = xs.length := by rw [List.size_toArray]; exact r.length.symm
  refine ⟨"tuple", _, PyProof.Rows.slot_tuple_getitem.lookup, ht.typeIs, ?_⟩
  refine HT.getItem_tuple_cut ht hs pl pu (by rw [hlen]; exact hw) ?_ (by rw [hlen]; exact hz)
  rw [hlen]
  refine ⟨.ref s.heap.objs.size, _, I.laid (t' := s.toks) (o := .tup (cutV xs lo hi)) (fun b ob q => Heap.get?_push_of_some _ q) (Nat.le_refl _) ?_, rfl, q _ (I.hok.fresh (Nat.le_refl _))⟩
  exact ⟨Nat.le_trans (cutV_length xs lo hi) hz, _, (r.drop (HT.sIx xs.length 0 lo)).take (HT.sIx xs.length xs.length hi - HT.sIx xs.length 0 lo), IsTup.new _ _⟩

def rLtT (K : PySem.W.Frag) : R2 := fun x y H Q => ∃ a b ns ms, x = .ref a ∧ y = .ref b ∧ SqT K H a (ns.map V.int) ∧ SqT K H b (ms.map V.int) ∧ Q (.bl (HT.lexLt ns ms)) H
theorem op_ltT (hu : X.A.units < cLine) : OpR X (compareOp .Lt) (rLtT X.K) := by
  intro pins s σ H x y v u Q I rx ry h
  obtain ⟨a, b, ns, ms, rfl, rfl, ha, hb, q⟩ := h
  cases rx
  cases ry
  obtain ⟨its, r1, p1, _⟩ := I.tuple ha
  obtain ⟨its2, r2, p2, _⟩ := I.tuple hb
  have i1 : IntsAre its.toArray.toList ns := intsAre_of r1
  have i2 : IntsAre its2.toArray.toList ms := intsAre_of r2
  exact HT.lt_tupInts p1 p2 i1 i2 hu ⟨.bl (HT.lexLt ns ms), H, I, rfl, q⟩
def rCatT (K : PySem.W.Frag) : R2 := fun x y H Q => ∃ a b xs ys, x = .ref a ∧ y = .ref b ∧ SqT K H a xs ∧ SqT K H b ys ∧ xs ≠ [] ∧ xs.length + ys.length ≤ sizeLine ∧
  (ys = [] → Q (.ref a) H) ∧ (ys ≠ [] → ∀ p, H p = none → Q (.ref p) (upd H p (.tup (xs ++ ys))))
theorem Vals.nil_iff {xs : List V} {us : List Value} (r : Vals xs us) : us = [] ↔ xs = [] := by
  cases r with
  | nil => simp
  | cons _ _ => simp
theorem op_catT : OpR X (binaryOp .Add) (rCatT X.K) := by
  intro pins s σ H x y v u Q I rx ry h
  obtain ⟨a, b, xs, ys, rfl, rfl, ha, hb, hx, hz, q1, q2⟩ := h
  cases rx
  cases ry
  obtain ⟨its, r1, p1, _⟩ := I.tuple ha
  obtain ⟨its2, r2, p2, _⟩ := I.tuple hb
  refine HT.cat_tup p1 p2 (fun z => hx (r1.nil_iff.mp z)) (fun z => ⟨.ref a, H, I, rfl, q1 (r2.nil_iff.mp z)⟩) (fun z => ?_) (by rw [← r1.length, ← r2.length]; exact hz)
  refine ⟨.ref s.heap.objs.size, _, I.laid (t' := s.toks) (o := .tup (xs ++ ys)) (fun b ob q => Heap.get?_push_of_some _ q) (Nat.le_refl _) ?_, rfl, q2 (fun w => z (r2.nil_iff.mpr w)) _ (I.hok.fresh (Nat.le_refl _))⟩
  exact ⟨by rw [List.length_append]; exact hz, _, r1.append r2, IsTup.new _ _⟩
theorem call_tupleT : CallR X (.type "tuple") (fun xs H Q => ∃ a ys, xs = [.ref a] ∧ SqT X.K H a ys ∧ Q (.ref a) H) := by
  intro pins s σ H xs us Q I r h
  obtain ⟨a, ys, rfl, ha, q⟩ := h
  obtain ⟨u, rfl, ru⟩ := vals1 r
  cases ru
  obtain ⟨its, _, p1, _⟩ := I.tuple ha
  exact call_tuple_same (items := its.toArray) p1 ⟨.ref a, H, I, rfl, q⟩
end
end L2

namespace L2
open PySem PySem.Spec PyProof.Rows

def ixN (n : Nat) (i : Int) : Option Nat := if 0 ≤ i then (if i < n then some i.toNat else none) else if -(n : Int) ≤ i then some (i + n).toNat else none
def atI {α : Type} (xs : List α) (i : Int) : Option α := (ixN xs.length i).bind fun j => xs[j]?
theorem ixN_seq {n : Nat} {i : Int} {j : Nat} (h : ixN n i = some j) : seqIndex? i n = some j ∧ j < n ∧ -(n : Int) ≤ i ∧ i < n := by
  unfold ixN at h
  by_cases h0 : 0 ≤ i
  · rw [if_pos h0] at h
    by_cases h1 : i < n
    · rw [if_pos h1] at h
      have e : i.toNat = j := Option.some.inj h
      exact ⟨by rw [seqIndex_of h0 h1, e], by omega, by omega, h1⟩
    · rw [if_neg h1] at h; cases h
  · rw [if_neg h0] at h
    by_cases h1 : -(n : Int) ≤ i
    · rw [if_pos h1] at h
      have e : (i + n).toNat = j := Option.some.inj h
      exact ⟨by rw [seqIndex_neg (by omega) h1, e], by omega, h1, by omega⟩
    · rw [if_neg h1] at h; cases h
theorem atI_get {α : Type} {xs : List α} {i : Int} {v : α} (h : atI xs i = some v) : ∃ j, seqIndex? i xs.length = some j ∧ xs[j]? = some v ∧ j < xs.length ∧ -(xs.length : Int) ≤ i ∧ i < xs.length := by
  unfold atI at h
  cases e : ixN xs.length i with
  | none => rw [e] at h; cases h
  | some j =>
    rw [e] at h
    obtain ⟨h1, h2, h3, h4⟩ := ixN_seq e
    exact ⟨j, h1, h, h2, h3, h4⟩
theorem atI_nat {α : Type} {xs : List α} {j : Nat} {v : α} (h : xs[j]? = some v) : atI xs (j : Int) = some v := by
  have hj : j < xs.length := (List.getElem?_eq_some_iff.mp h).1
  have e : ixN xs.length (j : Int) = some j := by
    unfold ixN
    rw [if_pos (by omega), if_pos (by omega)]; simp
  unfold atI; rw [e]; exact h
theorem atI_last {α : Type} (xs : List α) (v : α) : atI (xs ++ [v]) (-1) = some v := by
  have hl : (xs ++ [v]).length = xs.length + 1 := by simp
  have e : ixN (xs ++ [v]).length (-1) = some xs.length := by
    unfold ixN
    rw [hl, if_neg (by decide), if_pos (by omega)]
    congr 1
    omega
  unfold atI
  rw [e]
  show (xs ++ [v])[xs.length]? = some v
  simp

def PlainIx (b : Expr) : Prop := ∀ o i, subscripted b false o i = operate [o, i] (getItem o i)
def IxR (X : Cx) (r : R2) : Prop :=
  ∀ (value slice : Expr) (pins : List (Addr × Obj)) (s : Shared) (σ : St) (H : Hp) (x y : V) (v u : Value) (Q : VK), Inv X pins σ H s → RelV x v → RelV y u → r x y H Q →
    subscripted slice false v u = operate [v, u] (getItem v u) → wpAny (model X.prog X.w) X.A (subscriptTail value slice v u) (EP X pins σ Q) X.xe s
def MtR (X : Cx) (id : String) (r : V → List V → Hp → VK → Prop) : Prop :=
  ∀ (pins : List (Addr × Obj)) (s : Shared) (σ : St) (H : Hp) (x : V) (xs : List V) (v : Value) (us : List Value) (Q : VK), Inv X pins σ H s → RelV x v → Vals xs us → r x xs H Q →
    wpAny (model X.prog X.w) X.A (call (.builtin id) (v :: us)) (EP X pins σ Q) X.xe s
section
variable {X : Cx} {a b : Expr} {ta tb : TE} {pos : Pos}
theorem IxR.or {r r' : R2} (h : IxR X r) (h' : IxR X r') : IxR X (fun x y H Q => r x y H Q ∨ r' x y H Q) := by
  intro value slice pins s σ H x y v u Q I rx ry q hs
  rcases q with q | q
  · exact h value slice pins s σ H x y v u Q I rx ry q hs
  · exact h' value slice pins s σ H x y v u Q I rx ry q hs
theorem MtR.or {id : String} {r r' : V → List V → Hp → VK → Prop} (h : MtR X id r) (h' : MtR X id r') : MtR X id (fun x xs H Q => r x xs H Q ∨ r' x xs H Q) := by
  intro pins s σ H x xs v us Q I rx rs q
  rcases q with q | q
  · exact h pins s σ H x xs v us Q I rx rs q
  · exact h' pins s σ H x xs v us Q I rx rs q
theorem pe_ix {r : R2} (hr : IxR X r) (ha : PE X a ta) (hb : PE X b tb) (hs : PlainIx b) : PE X (.Subscript a b pos) (tOp r ta tb) := by
  intro pins s σ H Q I h
  exact Subscript_ (binT ha hb I h fun v u s2 x y H2 I2 rx ry q => hr a b pins s2 σ H2 x y v u Q I2 rx ry q (hs _ _))

def rIxL (K : PySem.W.Frag) : R2 := fun x y H Q => ∃ p xs i v, x = .ref p ∧ y = .int i ∧ SqL K H p xs ∧ atI xs i = some v ∧ Q v H
def rIxT (K : PySem.W.Frag) : R2 := fun x y H Q => ∃ p xs i v, x = .ref p ∧ y = .int i ∧ SqT K H p xs ∧ atI xs i = some v ∧ Q v H
def rIxS : R2 := fun x y H Q => ∃ z i c, x = .str z ∧ y = .int i ∧ z.length ≤ sizeLine ∧ atI z.cps.toList i = some c ∧ Q (.str ⟨#[c]⟩) H
theorem ix_list : IxR X (rIxL X.K) := by
  intro value slice pins s σ H x y v u Q I rx ry h hs
  obtain ⟨p, xs, i, z, rfl, rfl, hq, he, q⟩ := h
  cases rx
  obtain ⟨t, rfl⟩ := ry
  obtain ⟨its, r, pl, hz⟩ := I.list hq
  obtain ⟨j, h1, h2, h3, h4, h5⟩ := atI_get he
  obtain ⟨w, ew, rw'⟩ := r.get h2
  have hl := r.length
  have hn := line63
  have fin : EP X pins σ Q w s := ⟨z, H, I, rw', q⟩
  by_cases h0 : 0 ≤ i
  · have hj : i.toNat = j := by
      rw [seqIndex_of h0 h5] at h1
      exact Option.some.inj h1
    exact item_listR pl.isList h0 (by omega) (by rw [hj]; simpa using ew) fin hs
  · have hj : (i + (its.toArray.size : Int)).toNat = j := by
      rw [seqIndex_neg (by omega) h4] at h1
      rw [List.size_toArray, ← hl]
      exact Option.some.inj h1
    exact subscriptTail_builtinR (x := w) pl.isList.typeIs slot_list_getitem.lookup
      (wpAny_getItem_list_neg (Q := fun r s' => r = w ∧ EP X pins σ Q r s') pl.isList (by omega) (by rw [List.size_toArray] <;> omega) (by omega) (by rw [hj]; simpa using ew) ⟨rfl, fin⟩) hs
theorem ix_tup : IxR X (rIxT X.K) := by
  intro value slice pins s σ H x y v u Q I rx ry h hs
  obtain ⟨p, xs, i, z, rfl, rfl, hq, he, q⟩ := h
  cases rx
  obtain ⟨t, rfl⟩ := ry
  obtain ⟨its, r, pl, hz⟩ := I.tuple hq
  obtain ⟨j, h1, h2, h3, h4, h5⟩ := atI_get he
  obtain ⟨w, ew, rw'⟩ := r.get h2
  have hl := r.length
  have hn := line63
  have fin : EP X pins σ Q w s := ⟨z, H, I, rw', q⟩
  exact subscriptTail_builtinR (x := w) pl.typeIs slot_tuple_getitem.lookup
    (getItem_tuple (j := j) (Q := fun r s' => r = w ∧ EP X pins σ Q r s') pl (by omega) (by omega) (by rw [List.size_toArray, ← hl]; exact h1) (by simpa using ew) ⟨rfl, fin⟩) hs
theorem ix_str : IxR X rIxS := by
  intro value slice pins s σ H x y v u Q I rx ry h hs
  obtain ⟨z, i, c, rfl, rfl, hz, he, q⟩ := h
  obtain ⟨t, rfl⟩ := rx
  obtain ⟨t', rfl⟩ := ry
  obtain ⟨j, h1, h2, h3, h4, h5⟩ := atI_get he
  have hl : z.cps.toList.length = z.length := by simp [Str.length]
  rw [hl] at h1 h4 h5
  have hn := line63
  exact tail_any (typeIs_str s z t) slot_str_getitem.lookup (getItem_str (c := c) (by
    have e1 : decide (i < -(2 ^ 63 : Int)) = false := decide_eq_false (by omega)
    have e2 : decide (i ≥ 2 ^ 63) = false := decide_eq_false (by omega)
    rw [e1, e2, Bool.or_false]) (by rw [h1]; simpa using h2) ⟨.str ⟨#[c]⟩, H, I.tok _, ⟨_, rfl⟩, q⟩) hs
def rIx (K : PySem.W.Frag) : R2 := fun x y H Q => rIxL K x y H Q ∨ rIxT K x y H Q ∨ rIxS x y H Q
theorem ix_seq : IxR X (rIx X.K) := ix_list.or (ix_tup.or ix_str)

theorem mapSeq_set (its : List Value) (n j : Nat) (u : Value) : Obj.mapSeq (·.setIfInBounds j u) { cls := .type "list", data := .seq its.toArray n } = { cls := .type "list", data := .seq (its.set j u).toArray n } := by
  simp [Obj.mapSeq]
theorem Inv.lst {pins : List (Addr × Obj)} {σ : St} {H : Hp} {s : Shared} {p : Addr} {xs : List V} (I : Inv X pins σ H s) (h : H p = some (.lst xs)) :
    ∃ (its : List Value) (n : Nat), Vals xs its ∧ s.heap.get? p = some { cls := .type "list", data := .seq its.toArray n } ∧ xs.length ≤ sizeLine := by
  obtain ⟨z, its, n, r, e⟩ := I.hok p _ h
  exact ⟨its, n, r, e, z⟩
theorem Inv.lstUpd {pins : List (Addr × Obj)} {σ : St} {H : Hp} {s : Shared} {p : Addr} {xs ys : List V} {its its' : List Value} {n n' : Nat} {f : Obj → Obj} (I : Inv X pins σ H s) (h : H p = some (.lst xs))
    (ho : s.heap.get? p = some { cls := .type "list", data := .seq its.toArray n }) (hf : f { cls := .type "list", data := .seq its.toArray n } = { cls := .type "list", data := .seq its'.toArray n' }) (r : Vals ys its') (hz : ys.length ≤ sizeLine) (t : Nat) :
    Inv X pins σ (upd H p (.lst ys)) { s with heap := s.heap.update p f, toks := t } := by
  have e : (s.heap.update p f).get? p = some { cls := .type "list", data := .seq its'.toArray n' } := by
    rw [Heap.get?_update_self f ho (by rw [hf] <;> rfl), hf]
  refine I.write (x := p) (e := p) (by rw [h]; trivial) (.inl rfl) (fun b u hb q => (Heap.get?_update_other _ _ (Ne.symm hb)).trans q) ⟨_, e⟩ ?_
  exact ⟨hz, its', n', r, e⟩
def rSetL : V → V → V → Hp → (Hp → Prop) → Prop := fun o i v H Q => ∃ p xs k j, o = .ref p ∧ i = .int k ∧ H p = some (.lst xs) ∧ ixN xs.length k = some j ∧ Q (upd H p (.lst (xs.set j v)))
theorem set_list : PSet X rSetL := by
  intro pins s σ H o i v ov iv u Q I ro ri rv h
  obtain ⟨p, xs, k, j, rfl, rfl, hp, hj, q⟩ := h
  cases ro
  obtain ⟨t, rfl⟩ := ri
  obtain ⟨its, n, r, ho, hz⟩ := I.lst hp
  obtain ⟨h1, h2, h3, h4⟩ := ixN_seq hj
  have hl := r.length
  have hn := line63
  have I' : Inv X pins σ (upd H p (.lst (xs.set j v))) { s with heap := s.heap.update p (Obj.mapSeq (·.setIfInBounds j u)) } :=
    I.lstUpd hp ho (mapSeq_set its n j u) (r.set rv j) (by rw [List.length_set]; exact hz) s.toks
  by_cases h0 : 0 ≤ k
  · have hk : k.toNat = j := by
      rw [seqIndex_of h0 h4] at h1
      exact Option.some.inj h1
    exact PySem.W.ki_setAt ho h0 (by omega) (by rw [List.size_toArray, ← hl]; exact h4) (by rw [hk]; exact ⟨_, I', q⟩)
  · have hk : (k + (its.toArray.size : Int)).toNat = j := by
      rw [seqIndex_neg (by omega) h3] at h1
      rw [List.size_toArray, ← hl]
      exact Option.some.inj h1
    exact PySem.W.ki_setBack ho (by omega) (by rw [List.size_toArray, ← hl]; exact h3) (by omega) (by rw [hk]; exact ⟨_, I', q⟩)

theorem slice_bounds (lo hi : Option Int) (n : Nat) : (sliceBounds lo hi none n).1 = ((HT.sIx n 0 lo : Nat) : Int) ∧ (sliceBounds lo hi none n).2.1 = ((HT.sIx n n hi : Nat) : Int) ∧ (sliceBounds lo hi none n).2.2 = 1 := by
  refine ⟨?_, ?_, rfl⟩
  · cases lo with
    | none => simp [sliceBounds, HT.sIx]
    | some i =>
      simp only [sliceBounds, HT.sIx, Option.getD_none, show (1 : Int) > 0 by decide, if_true]
      by_cases h : i < 0
      · simp only [h, if_true] <;> omega
      · simp only [h, if_false] <;> omega
  · cases hi with
    | none => simp [sliceBounds, HT.sIx]
    | some i =>
      simp only [sliceBounds, HT.sIx, Option.getD_none, show (1 : Int) > 0 by decide, if_true]
      by_cases h : i < 0
      · simp only [h, if_true] <;> omega
      · simp only [h, if_false] <;> omega
theorem slicePick_cut (its : List Value) (lo hi : Option Int) : slicePick its.toArray lo hi none = ((its.drop (HT.sIx its.length 0 lo)).take (HT.sIx its.length its.length hi - HT.sIx its.length 0 lo)).toArray := by
  obtain ⟨h1, h2, h3⟩ := slice_bounds lo hi its.toArray.size
  unfold slicePick
  rw [h1, h2, h3]
  simp only [sliceRange_one, pick_run, List.size_toArray] <;> rfl
def rSlL (K : PySem.W.Frag) : V → Option Int → Option Int → Hp → VK → Prop := fun x lo hi H Q => ∃ a xs, x = .ref a ∧ SqL K H a xs ∧ ∀ p, H p = none → Q (.ref p) (upd H p (.lst (cutV xs lo hi)))
theorem sl_list : SlR X (rSlL X.K) := by
  intro pins s σ H x v vl vu lo hi sl Q I rx hs pl pu h
  obtain ⟨a, xs, rfl, hx, q⟩ := h
  cases rx
  obtain ⟨its, r, ht, hz⟩ := I.list hx
  have hlen := r.length
  refine ⟨"list", _, slot_list_getitem.lookup, ht.isList.typeIs, ?_⟩
  refine wpAny_getItem_list_slice ht.isList hs pl pu .none (by simp) ?_ (by rw [List.size_toArray] <;> omega)
  rw [slicePick_cut, ← hlen]
  refine ⟨.ref s.heap.objs.size, _, I.laid (t' := s.toks) (o := .lst (cutV xs lo hi)) (fun b ob q => Heap.get?_push_of_some _ q) (Nat.le_refl _) ?_, rfl, q _ (I.hok.fresh (Nat.le_refl _))⟩
  exact ⟨Nat.le_trans (cutV_length xs lo hi) hz, _, 0, (r.drop (HT.sIx xs.length 0 lo)).take (HT.sIx xs.length xs.length hi - HT.sIx xs.length 0 lo), Heap.get?_push_size _ rfl⟩

def flatV : V → Bool
  | .non => true
  | .bl _ => true
  | .int _ => true
  | .str _ => true
  | _ => false
def eqV : V → V → Bool
  | .non, .non => true
  | .bl a, .bl b => a == b
  | .bl a, .int b => (if a then 1 else 0) == b
  | .int a, .bl b => a == (if b then 1 else 0)
  | .int a, .int b => a == b
  | .str a, .str b => a == b
  | _, _ => false
theorem eqAt_V {A : Around} {s : Shared} {y x : V} {u v : Value} (ry : RelV y u) (rx : RelV x v) (fy : flatV y = true) (fx : flatV x = true) : SeqAt.EqAt A s u v (eqV y x) := by
  cases y with
  | non =>
    cases ry
    cases x with
    | non => cases rx; exact SeqAt.EqAt.same _
    | bl b => cases rx; exact SeqAt.EqAt.none_bool b
    | int b => obtain ⟨t, rfl⟩ := rx; exact SeqAt.EqAt.none_int b t
    | str b => obtain ⟨t, rfl⟩ := rx; exact SeqAt.EqAt.none_str b t
    | _ => exact absurd (show false = true from fx) Bool.false_ne_true
  | bl a =>
    cases ry
    cases x with
    | non => cases rx; exact SeqAt.EqAt.bool_none a
    | bl b => cases rx; exact SeqAt.EqAt.bool_bool a b
    | int b => obtain ⟨t, rfl⟩ := rx; exact SeqAt.EqAt.bool_int a b t
    | str b => obtain ⟨t, rfl⟩ := rx; exact SeqAt.EqAt.bool_str a b t
    | _ => exact absurd (show false = true from fx) Bool.false_ne_true
  | int a =>
    obtain ⟨t', rfl⟩ := ry
    cases x with
    | non => cases rx; exact SeqAt.EqAt.int_none a t'
    | bl b => cases rx; exact SeqAt.EqAt.int_bool a t' b
    | int b => obtain ⟨t, rfl⟩ := rx; exact SeqAt.EqAt.int_int a t' b t
    | str b => obtain ⟨t, rfl⟩ := rx; exact SeqAt.EqAt.int_str a t' b t
    | _ => exact absurd (show false = true from fx) Bool.false_ne_true
  | str a =>
    obtain ⟨t', rfl⟩ := ry
    cases x with
    | non => cases rx; exact SeqAt.EqAt.str_none a t'
    | bl b => cases rx; exact SeqAt.EqAt.str_bool a t' b
    | int b => obtain ⟨t, rfl⟩ := rx; exact SeqAt.EqAt.str_int a t' b t
    | str b => obtain ⟨t, rfl⟩ := rx; exact SeqAt.EqAt.str_str a t' b t
    | _ => exact absurd (show false = true from fx) Bool.false_ne_true
  | _ => exact absurd (show false = true from fy) Bool.false_ne_true
def eqU (x : V) (u : Value) : Bool := match u with
  | .none => eqV .non x
  | .bool b => eqV (.bl b) x
  | .int i _ => eqV (.int i) x
  | .str z _ => eqV (.str z) x
  | _ => false
theorem eqU_of {x y : V} {u : Value} (r : RelV y u) (f : flatV y = true) : eqU x u = eqV y x := by
  cases y with
  | non => cases r; rfl
  | bl b => cases r; rfl
  | int i => obtain ⟨t, rfl⟩ := r; rfl
  | str z => obtain ⟨t, rfl⟩ := r; rfl
  | _ => exact absurd (show false = true from f) Bool.false_ne_true
theorem any_eqU {x : V} : ∀ {xs : List V} {us : List Value}, Vals xs us → xs.all flatV = true → us.any (eqU x) = xs.any fun y => eqV y x
  | _, _, .nil, _ => rfl
  | y :: xs, u :: us, .cons r t, f => by
    rw [List.all_cons, Bool.and_eq_true] at f
    rw [List.any_cons, List.any_cons, eqU_of r f.1, any_eqU t f.2]
theorem mem_eqAt {A : Around} {s : Shared} {x : V} {v : Value} (rx : RelV x v) (fx : flatV x = true) : ∀ {xs : List V} {us : List Value}, Vals xs us → xs.all flatV = true → ∀ u ∈ us, SeqAt.EqAt A s u v (eqU x u)
  | _, _, .nil, _ => fun u hu => by cases hu
  | y :: xs, u :: us, .cons r t, f => fun u' hu => by
    rw [List.all_cons, Bool.and_eq_true] at f
    rcases List.mem_cons.mp hu with rfl | hu
    · rw [eqU_of r f.1]; exact eqAt_V r rx f.1 fx
    · exact mem_eqAt rx fx t f.2 u' hu
def inV (x : V) (xs : List V) : Bool := xs.any fun y => eqV y x
def rIn (K : PySem.W.Frag) (neg : Bool) : R2 := fun x y H Q => ∃ p xs, y = .ref p ∧ (SqL K H p xs ∨ SqT K H p xs) ∧ flatV x = true ∧ xs.all flatV = true ∧ Q (.bl (if neg then !inV x xs else inV x xs)) H
theorem op_in_seq : OpR X (compareOp .In) (rIn X.K false) := by
  intro pins s σ H x y v u Q I rx ry h
  obtain ⟨p, xs, rfl, hq, fx, fs, q⟩ := h
  cases ry
  rcases hq with hq | hq
  · obtain ⟨its, r, pl, hz⟩ := I.list hq
    refine SeqAt.in_listAt (eqU x) pl.isList (fun w hw => mem_eqAt rx fx r fs w (by simpa using hw)) ⟨.bl _, H, I, rfl, ?_⟩
    rw [show its.toArray.any (eqU x) = its.any (eqU x) by simp, any_eqU r fs]
    exact q
  · obtain ⟨its, r, pl, hz⟩ := I.tuple hq
    refine SeqAt.in_tupleAt (eqU x) pl (fun w hw => mem_eqAt rx fx r fs w (by simpa using hw)) ⟨.bl _, H, I, rfl, ?_⟩
    rw [show its.toArray.any (eqU x) = its.any (eqU x) by simp, any_eqU r fs]
    exact q
theorem op_notIn_seq : OpR X (compareOp .NotIn) (rIn X.K true) := by
  intro pins s σ H x y v u Q I rx ry h
  obtain ⟨p, xs, rfl, hq, fx, fs, q⟩ := h
  cases ry
  rcases hq with hq | hq
  · obtain ⟨its, r, pl, hz⟩ := I.list hq
    refine SeqAt.notIn_listAt (eqU x) pl.isList (fun w hw => mem_eqAt rx fx r fs w (by simpa using hw)) ⟨.bl _, H, I, rfl, ?_⟩
    rw [show its.toArray.any (eqU x) = its.any (eqU x) by simp, any_eqU r fs]
    exact q
  · obtain ⟨its, r, pl, hz⟩ := I.tuple hq
    refine SeqAt.notIn_tupleAt (eqU x) pl (fun w hw => mem_eqAt rx fx r fs w (by simpa using hw)) ⟨.bl _, H, I, rfl, ?_⟩
    rw [show its.toArray.any (eqU x) = its.any (eqU x) by simp, any_eqU r fs]
    exact q
theorem op_notIn_str : OpR X (compareOp .NotIn) (fun x y H Q => ∃ i j, x = .str i ∧ y = .str j ∧ Q (.bl (!(!(Builtin.Str.occurrences j i 0 j.length 1).isEmpty))) H) := by
  intro pins s σ H x y v u Q I rx ry h
  obtain ⟨i, j, rfl, rfl, q⟩ := h
  obtain ⟨t, rfl⟩ := rx
  obtain ⟨t', rfl⟩ := ry
  exact notIn_str ⟨.bl _, H, I, rfl, q⟩

theorem call_len_seq : CallR X (.builtin "len") (fun xs H Q => ∃ p ys, xs = [.ref p] ∧ (SqL X.K H p ys ∨ SqT X.K H p ys) ∧ Q (.int ys.length) H) := by
  intro pins s σ H xs us Q I r h
  obtain ⟨p, ys, rfl, hq, q⟩ := h
  obtain ⟨u, rfl, rx⟩ := vals1 r
  cases rx
  have hn := line63
  rcases hq with hq | hq
  · obtain ⟨its, r', pl, hz⟩ := I.list hq
    have hlen := r'.length
    exact Calls.call_len_list pl.isList (by simp only [List.size_toArray] <;> omega) ⟨.int ys.length, H, I.tok _, ⟨s.toks + 1, by rw [List.size_toArray, hlen]⟩, q⟩
  · obtain ⟨its, r', pl, hz⟩ := I.tuple hq
    have hlen := r'.length
    exact len_tuple pl (by simp only [List.size_toArray] <;> omega) ⟨.int ys.length, H, I.tok _, ⟨s.toks + 1, by rw [List.size_toArray, hlen]⟩, q⟩
theorem call_len_str : CallR X (.builtin "len") (fun xs H Q => ∃ z, xs = [.str z] ∧ z.length ≤ sizeLine ∧ Q (.int z.length) H) := by
  intro pins s σ H xs us Q I r h
  obtain ⟨z, rfl, hz, q⟩ := h
  obtain ⟨u, rfl, t, rfl⟩ := vals1 r
  have hn := line63
  exact len_str (by omega) ⟨.int z.length, H, I.tok _, ⟨_, rfl⟩, q⟩
theorem CallR.or {f : Value} {r r' : List V → Hp → VK → Prop} (h : CallR X f r) (h' : CallR X f r') : CallR X f (fun xs H Q => r xs H Q ∨ r' xs H Q) := by
  intro pins s σ H xs us Q I rs q
  rcases q with q | q
  · exact h pins s σ H xs us Q I rs q
  · exact h' pins s σ H xs us Q I rs q
theorem call_list_of : CallR X (.type "list") (fun xs H Q => ∃ p ys, xs = [.ref p] ∧ (SqL X.K H p ys ∨ SqT X.K H p ys) ∧ ∀ l, H l = none → Q (.ref l) (upd H l (.lst ys))) := by
  intro pins s σ H xs us Q I r h
  obtain ⟨p, ys, rfl, hq, q⟩ := h
  obtain ⟨u, rfl, rx⟩ := vals1 r
  cases rx
  have fin : ∀ (its : List Value), Vals ys its → ys.length ≤ sizeLine → ∀ (h' : Heap) (c' : Nat), (∀ b o', s.heap.get? b = some o' → h'.get? b = some o') →
      h'.get? s.heap.objs.size = some { cls := .type "list", dict := none, data := .seq its.toArray c', slots := #[] } → EP X pins σ Q (.ref s.heap.objs.size) { s with heap := h' } := fun its r' hz h' c' kp e =>
    ⟨.ref s.heap.objs.size, _, I.laid (t' := s.toks) kp (Nat.le_refl _) (show ObjOk X.prog X.w _ h' _ (.lst ys) from ⟨hz, its, c', r', e⟩), rfl, q _ (I.hok.fresh (Nat.le_refl _))⟩
  rcases hq with hq | hq
  · obtain ⟨its, r', pl, hz⟩ := I.list hq
    have hlen := r'.length
    obtain ⟨o, ho, hc, n, hd⟩ := pl.isList
    exact call_list_seq p (.inl rfl) ho hc hd (fun h' c' kp e => fin its r' hz h' c' kp e) (by simp only [List.size_toArray] <;> omega)
  · obtain ⟨its, r', pl, hz⟩ := I.tuple hq
    have hlen := r'.length
    obtain ⟨o, ho, hc, n, hd⟩ := pl
    exact call_list_seq p (.inr rfl) ho hc hd (fun h' c' kp e => fin its r' hz h' c' kp e) (by simp only [List.size_toArray] <;> omega)
theorem call_tuple_of : CallR X (.type "tuple") (fun xs H Q => ∃ p ys, xs = [.ref p] ∧ ((SqL X.K H p ys ∧ ∀ l, H l = none → Q (.ref l) (upd H l (.tup ys))) ∨ (SqT X.K H p ys ∧ Q (.ref p) H))) := by
  intro pins s σ H xs us Q I r h
  obtain ⟨p, ys, rfl, h⟩ := h
  obtain ⟨u, rfl, rx⟩ := vals1 r
  cases rx
  rcases h with ⟨hq, q⟩ | ⟨hq, q⟩
  · obtain ⟨its, r', pl, hz⟩ := I.list hq
    have hlen := r'.length
    refine call_tuple_list pl.isList (fun h' kp => ?_) (by simp only [List.size_toArray] <;> omega)
    have I1 : Inv X pins σ H { s with heap := h' } := I.kept (t' := s.toks) kp
    have I2 : Inv X pins σ (upd H h'.objs.size (.tup ys)) { s with heap := h'.push { cls := .type "tuple", data := .seq its.toArray } } :=
      I1.laid (t' := s.toks) (fun b o e => Heap.get?_push_of_some _ e) (Nat.le_refl _) (show ObjOk X.prog X.w _ _ _ (.tup ys) from ⟨hz, its, r', IsTup.new _ _⟩)
    exact ⟨.ref h'.objs.size, _, I2, rfl, q _ (I1.hok.fresh (Nat.le_refl _))⟩
  · obtain ⟨its, r', pl, hz⟩ := I.tuple hq
    exact call_tuple_same pl ⟨.ref p, H, I, rfl, q⟩

def tyV (K : PySem.W.Frag) (T : String) (x : V) (H : Hp) : Prop := match x with
  | .str _ => T = "str"
  | .int _ => T = "int"
  | .ref p => (T = "list" ∧ ∃ xs, SqL K H p xs) ∨ (T = "tuple" ∧ ∃ o, K.lookup p = some o ∧ o.cls = .type "tuple" ∧ o.dict = none) ∨
      (T = "dict" ∧ ((∃ kvs, H p = some (.dK kvs)) ∨ ∃ kvs, H p = some (.dT kvs))) ∨ (T = "set" ∧ ∃ S n, H p = some (.set S n))
  | _ => False
theorem tyV_is {pins : List (Addr × Obj)} {σ : St} {H : Hp} {s : Shared} {T : String} {x : V} {v : Value} (I : Inv X pins σ H s) (r : RelV x v) (ty : tyV X.K T x H) :
    s.TypeIs v T ∧ ∀ a, v = .ref a → ∃ ob, s.heap.get? a = some ob ∧ ob.dict = none := by
  cases x with
  | str z =>
    obtain ⟨t, rfl⟩ := r
    cases (show T = "str" from ty)
    exact ⟨typeIs_str s z t, fun _ e => nomatch e⟩
  | int i =>
    obtain ⟨t, rfl⟩ := r
    cases (show T = "int" from ty)
    exact ⟨typeIs_int s i t, fun _ e => nomatch e⟩
  | ref p =>
    cases r
    rcases ty with ⟨rfl, xs, hq⟩ | ⟨rfl, o, hk, hc, hd⟩ | ⟨rfl, hk⟩ | ⟨rfl, S, n, hk⟩
    · obtain ⟨its, _, pl, _⟩ := I.list hq
      refine ⟨pl.isList.typeIs, fun a e => ?_⟩
      cases e
      obtain ⟨o, n, e, c, hd, _⟩ := pl
      exact ⟨o, e, hd⟩
    · refine ⟨⟨o, I.kIn p o hk, hc⟩, fun a e => ?_⟩
      cases e
      exact ⟨o, I.kIn _ o hk, hd⟩
    · have z : ∃ o, s.heap.get? p = some o ∧ o.ExactDict := by
        rcases hk with ⟨kvs, hk⟩ | ⟨kvs, hk⟩
        · obtain ⟨_, _, _, _, o, _, _, e, ex, _⟩ := I.hok p _ hk
          exact ⟨o, e, ex⟩
        · obtain ⟨_, _, _, _, o, _, _, e, ex, _⟩ := I.hok p _ hk
          exact ⟨o, e, ex⟩
      obtain ⟨o, e, ex⟩ := z
      refine ⟨⟨o, e, ex.1⟩, fun a e2 => ?_⟩
      cases e2
      exact ⟨o, e, ex.2.1⟩
    · obtain ⟨o, _, _, _, e, ex, _⟩ := I.hok p _ hk
      refine ⟨⟨o, e, ex.1⟩, fun a e2 => ?_⟩
      cases e2
      exact ⟨o, e, ex.2.1⟩
  | _ => exact False.elim ty
def tBM0 (K : PySem.W.Frag) (T : String) (r : V → List V → Hp → VK → Prop) (to : TE) : TE := fun σ H Q => to σ H fun x H1 => tyV K T x H1 ∧ r x [] H1 Q
def tBM (K : PySem.W.Frag) (T : String) (r : V → List V → Hp → VK → Prop) (to : TE) (t : TA) : TE := fun σ H Q => to σ H fun x H1 => tyV K T x H1 ∧ t σ H1 fun xs H2 => r x xs H2 Q
variable {o e : Expr} {es : List Expr} {to : TE} {t : TA} {name : Str} {apos cpos : Pos} {T id : String} {r : V → List V → Hp → VK → Prop}
theorem pe_bm0 (pa : PlainAttrs T) (slot : Slot T name id) (hty : typeOf (.builtin id) = pure (.type "method_descriptor")) (hm : MtR X id r) (ho : PE X o to)
    (hbase : attributeBase o name X.env (eval o X.env) = eval o X.env := by rfl) (hline : (apos.endLine == cpos.line) = true := by rfl) : PE X (.Call (.Attribute o name apos) [] [] cpos) (tBM0 X.K T r to) := by
  intro pins s σ H Q I h
  refine wpAny_Call_method0_late hbase hline (thn (ho pins s σ H _ I h) fun v s1 ⟨x, H1, I1, r1, ty, q1⟩ => ?_)
  obtain ⟨h1, h2⟩ := tyV_is I1 r1 ty
  exact ⟨T, id, pa, slot, hty, h1, h2, Calls.callWith_builtin rfl (PySem.evalArgs_none (hm pins s1 σ H1 x [] v [] Q I1 r1 .nil q1))⟩
theorem pe_bm (pa : PlainAttrs T) (slot : Slot T name id) (hty : typeOf (.builtin id) = pure (.type "method_descriptor")) (hm : MtR X id r) (ho : PE X o to) (ha : PA X (e :: es) t)
    (hbase : attributeBase o name X.env (eval o X.env) = eval o X.env := by rfl)
    (hfew : ((backTo cpos (starEach (e :: es) X.env)).all (fun x => !x.1) && (backToKw cpos (keywordEach [] X.env)).all (fun x => x.1.isSome)
      && decide ((e :: es).length + ([] : List Keyword).length + (if ([] : List Keyword).isEmpty then 0 else 1) < 30)) = true := by rfl)
    (hline : (apos.endLine == cpos.line) = true := by rfl) (hs : starEach (e :: es) X.env = (false, eval e X.env) :: starEach es X.env := by rfl) (hplain : (backTo cpos (starEach es X.env)).any (·.1) = false := by rfl) :
    PE X (.Call (.Attribute o name apos) (e :: es) [] cpos) (tBM X.K T r to t) := by
  intro pins s σ H Q I h
  refine wpAny_Call_method_late hbase hfew hline rfl (thn (ho pins s σ H _ I h) fun v s1 ⟨x, H1, I1, r1, ty, q1⟩ => ?_)
  obtain ⟨h1, h2⟩ := tyV_is I1 r1 ty
  refine ⟨T, id, pa, slot, hty, h1, h2, ?_⟩
  have hA := ha cpos pins s1 σ H1 _ I1 q1
  rw [hs] at hA ⊢
  refine Calls.callWith_builtin (by show (false || (backTo cpos (starEach es X.env)).any (·.1)) = false; rw [hplain] <;> rfl) (Calls.evalArgs_plain ?_)
  exact thn hA fun us s2 ⟨vs, H2, I2, r2, q2⟩ => hm pins s2 σ H2 x vs v us Q I2 r1 r2 q2
/- xs.append(e), list.index on a module's tuple .. are MtR facts of 06m -/
end
end L2

namespace L2
open PySem PySem.Spec PyProof.Rows

def MtM (X : Cx) (id : String) (r : V → List V → Hp → VK → Prop) : Prop :=
  ∀ (pins : List (Addr × Obj)) (s : Shared) (σ : St) (H : Hp) (x : V) (xs : List V) (v : Value) (us : List Value) (Q : VK), Inv X pins σ H s → RelV x v → Vals xs us → r x xs H Q →
    wpAny (model X.prog X.w) X.A (call (.builtin id) (v :: us)) (EP X pins σ Q) X.xe s

theorem Vals.one : ∀ {x : V} {us : List Value}, Vals [x] us → ∃ u, us = [u] ∧ RelV x u
  | _, _, .cons r .nil => ⟨_, rfl, r⟩
theorem Vals.two : ∀ {x y : V} {us : List Value}, Vals [x, y] us → ∃ u v, us = [u, v] ∧ RelV x u ∧ RelV y v
  | _, _, _, .cons r (.cons q .nil) => ⟨_, _, rfl, r, q⟩
theorem Vals.zero : ∀ {us : List Value}, Vals [] us → us = []
  | _, .nil => rfl
theorem Vals.dropLast {xs : List V} {us : List Value} (h : Vals xs us) : Vals xs.dropLast us.dropLast := by
  induction h with
  | nil => exact .nil
  | cons r t ih =>
    cases t with
    | nil => exact .nil
    | cons q t' => exact .cons r ih
theorem Vals.eraseIdx : ∀ {xs : List V} {us : List Value} (i : Nat), Vals xs us → Vals (xs.eraseIdx i) (us.eraseIdx i)
  | _, _, _, .nil => .nil
  | _, _, 0, .cons _ t => t
  | _, _, i + 1, .cons r t => .cons r (Vals.eraseIdx i t)
theorem Vals.reverse {xs : List V} {us : List Value} (h : Vals xs us) : Vals xs.reverse us.reverse := by
  induction h with
  | nil => exact .nil
  | cons r t ih => rw [List.reverse_cons, List.reverse_cons]; exact Vals.append ih (.cons r .nil)
theorem Vals.rep {xs : List V} {us : List Value} (h : Vals xs us) : ∀ k : Nat, Vals (List.replicate k xs).flatten (List.replicate k us).flatten
  | 0 => .nil
  | k + 1 => by
    rw [List.replicate_succ, List.replicate_succ, List.flatten_cons, List.flatten_cons]
    exact Vals.append h (Vals.rep h k)
theorem erase_last {α : Type} (l : List α) : l.eraseIdx (l.length - 1) = l.dropLast := by
  induction l with
  | nil => rfl
  | cons a r ih =>
    cases r with
    | nil => rfl
    | cons b r =>
      have e : (a :: b :: r).length - 1 = ((b :: r).length - 1) + 1 := by
        have h1 : (a :: b :: r).length = r.length + 2 := rfl
        have h2 : (b :: r).length = r.length + 1 := rfl
        omega
      rw [e, List.eraseIdx_cons_succ, ih]
      all_goals rfl
theorem len_erase {α : Type} : ∀ (l : List α) (i : Nat), (l.eraseIdx i).length ≤ l.length
  | [], _ => Nat.le_refl _
  | _ :: _, 0 => Nat.le_succ _
  | _ :: r, i + 1 => Nat.succ_le_succ (len_erase r i)
theorem foldl_rep (its : List Value) : ∀ (k : Nat) (acc : List Value),
    List.foldl (fun x1 x2 => x1 ++ x2) acc.toArray (List.replicate k its.toArray) = (acc ++ (List.replicate k its).flatten).toArray
  | 0, acc => by simp
  | k + 1, acc => by
    have e : acc.toArray ++ its.toArray = (acc ++ its).toArray := by simp
    have e2 : (acc ++ its) ++ (List.replicate k its).flatten = acc ++ (List.replicate (k + 1) its).flatten := by
      rw [List.replicate_succ, List.flatten_cons, List.append_assoc]
    rw [← e2, ← foldl_rep its k (acc ++ its), ← e, List.replicate_succ, List.foldl_cons]

section
variable {X : Cx} {pins : List (Addr × Obj)} {σ : St} {H : Hp} {s : Shared} {l b : Addr} {xs ys zs : List V}

theorem Inv.lset {its its' : List Value} {n : Nat} {f : Array Value → Array Value} {t' : Nat} (I : Inv X pins σ H s) (hH : H l = some (.lst xs))
    (e : s.heap.get? l = some { cls := .type "list", data := .seq its.toArray n }) (hf : f its.toArray = its'.toArray) (hv : Vals ys its') (hz : ys.length ≤ sizeLine) :
    Inv X pins σ (upd H l (.lst ys)) { s with heap := s.heap.update l (Obj.mapSeq f), toks := t' } := by
  have q := PySem.IsL.update e f
  rw [hf] at q
  refine I.write (x := l) (e := l) (by rw [hH]; exact trivial) (.inl rfl) (fun b' u hb hu => (Heap.get?_update_other s.heap (Obj.mapSeq f) (Ne.symm hb)).trans hu) ⟨_, q⟩ ?_
  exact ⟨hz, its', _, hv, q⟩
theorem Inv.lnew {its : List Value} {t' : Nat} (I : Inv X pins σ H s) (hv : Vals ys its) (hz : ys.length ≤ sizeLine) :
    Inv X pins σ (upd H s.heap.objs.size (.lst ys)) { s with heap := s.heap.push { cls := .type "list", data := .seq its.toArray }, toks := t' } :=
  I.laid (fun _ _ q => Heap.get?_push_of_some _ q) (Nat.le_refl _) ⟨hz, its, 0, hv, Heap.get?_push_size _ rfl⟩
theorem Inv.fresh (I : Inv X pins σ H s) : H s.heap.objs.size = none := I.hok.fresh (Nat.le_refl _)
theorem Inv.lstM (I : Inv X pins σ H s) (hH : H l = some (.lst xs)) : xs.length ≤ sizeLine ∧ ∃ (its : List Value) (n : Nat), Vals xs its ∧ xs.length = its.length ∧ s.heap.get? l = some { cls := .type "list", data := .seq its.toArray n } := by
  obtain ⟨z, its, n, r, e⟩ := I.hok l _ hH
  exact ⟨z, its, n, r, r.length, e⟩

theorem notLongL {n : Nat} (h : n ≤ sizeLine) : Builtin.List.listTooLong n = false := by
  unfold Builtin.List.listTooLong
  exact decide_eq_false (by omega)
end

section
variable {X : Cx}

def rAppend : V → List V → Hp → VK → Prop := fun x vs H Q => ∃ l xs y, x = .ref l ∧ vs = [y] ∧ H l = some (.lst xs) ∧ xs.length < sizeLine ∧ Q .non (upd H l (.lst (xs ++ [y])))
theorem mt_append : MtM X "list.append" rAppend := by
  intro pins s σ H x vs v us Q I rx rv h
  obtain ⟨l, xs, y, rfl, rfl, hH, hz, q⟩ := h
  cases rx
  obtain ⟨u, rfl, ru⟩ := rv.one
  obtain ⟨z, its, n, r, hl, e⟩ := I.lstM hH
  refine call_meets F.slot_list_append ⟨_, e, rfl⟩ F.entry_list_append (F.args_list_append_2 _ _) (PySem.list_append l its.toArray n u (by rw [List.size_toArray]; omega)) ⟨e, ?_⟩
  refine ⟨.non, _, I.lset (its' := its ++ [u]) hH e (by simp) (r.append (.cons ru .nil)) ?_, rfl, q⟩
  rw [List.length_append, List.length_singleton]
  omega

def rExtend : V → List V → Hp → VK → Prop := fun x vs H Q => ∃ l b xs zs, x = .ref l ∧ vs = [.ref b] ∧ H l = some (.lst xs) ∧ H b = some (.lst zs) ∧ xs.length + zs.length ≤ sizeLine ∧ Q .non (upd H l (.lst (xs ++ zs)))
theorem mt_extend : MtM X "list.extend" rExtend := by
  intro pins s σ H x vs v us Q I rx rv h
  obtain ⟨l, b, xs, zs, rfl, rfl, hH, hB, hz, q⟩ := h
  cases rx
  obtain ⟨u, rfl, ru⟩ := rv.one
  cases ru
  obtain ⟨z, its, n, r, hl, e⟩ := I.lstM hH
  obtain ⟨z2, its2, n2, r2, hl2, e2⟩ := I.lstM hB
  have hsz : its.toArray.size + its2.toArray.size ≤ sizeLine := by rw [List.size_toArray, List.size_toArray]; omega
  have hlong : ¬ (!its.toArray.isEmpty && Builtin.List.listTooLong (its.toArray.size + its2.toArray.size)) = true := by
    rw [notLongL hsz, Bool.and_false]
    exact Bool.false_ne_true
  refine call_meets F.slot_list_extend ⟨_, e, rfl⟩ F.entry_list_extend (F.args_list_extend_2 _ _)
    (AutoSeq1.list_extend_list_list_0 l its.toArray n b its2.toArray n2 hlong (by rw [List.size_toArray]; omega) (by omega)) ⟨e, e2, ?_⟩
  refine ⟨.non, _, I.lset (its' := its ++ its2) hH e (by simp) (r.append r2) ?_, rfl, q⟩
  rw [List.length_append]
  omega

def rPop : V → List V → Hp → VK → Prop := fun x vs H Q => ∃ l xs y, x = .ref l ∧ vs = [] ∧ H l = some (.lst xs) ∧ xs[xs.length - 1]? = some y ∧ Q y (upd H l (.lst xs.dropLast))
theorem mt_pop : MtM X "list.pop" rPop := by
  intro pins s σ H x vs v us Q I rx rv h
  obtain ⟨l, xs, y, rfl, rfl, hH, hy, q⟩ := h
  cases rx
  have hus := rv.zero
  subst hus
  obtain ⟨z, its, n, r, hl, e⟩ := I.lstM hH
  obtain ⟨u, hu, ru⟩ := r.get hy
  have hy' : its.toArray[its.toArray.size - 1]? = some u := by
    show its.toArray[its.length - 1]? = some u
    rw [← Array.getElem?_toList, ← hl]
    exact hu
  refine call_meets F.slot_list_pop ⟨_, e, rfl⟩ F.entry_list_pop (F.args_list_pop_1 _) (MeetsSeq.list_pop_last l its.toArray n u hy' (by rw [List.size_toArray]; omega)) ⟨e, ?_⟩
  refine ⟨y, _, I.lset (its' := its.dropLast) hH e ?_ r.dropLast ?_, ru, q⟩
  · show its.toArray.eraseIdxIfInBounds (its.toArray.size - 1) = its.dropLast.toArray
    rw [List.size_toArray, List.eraseIdxIfInBounds_toArray, erase_last]
  · rw [List.length_dropLast]
    omega

def rPopAt : V → List V → Hp → VK → Prop := fun x vs H Q => ∃ l xs i k y, x = .ref l ∧ vs = [.int i] ∧ H l = some (.lst xs) ∧ -(2 ^ 63) ≤ i ∧ i < 2 ^ 63 ∧ seqIndex? i xs.length = some k ∧ xs[k]? = some y ∧ Q y (upd H l (.lst (xs.eraseIdx k)))
theorem mt_popAt : MtM X "list.pop" rPopAt := by
  intro pins s σ H x vs v us Q I rx rv h
  obtain ⟨l, xs, i, k, y, rfl, rfl, hH, h1, h2, hk, hy, q⟩ := h
  cases rx
  obtain ⟨u, rfl, ru⟩ := rv.one
  obtain ⟨t, rfl⟩ := ru
  obtain ⟨z, its, n, r, hl, e⟩ := I.lstM hH
  obtain ⟨w, hw, rw'⟩ := r.get hy
  refine call_meets F.slot_list_pop ⟨_, e, rfl⟩ F.entry_list_pop (F.args_list_pop_2 _ _)
    (MeetsSeq.list_pop_at l its.toArray n i t k w (fitsIndex_both h1 h2) (by rw [List.size_toArray, ← hl]; exact hk) (by rw [← Array.getElem?_toList]; exact hw) (by rw [List.size_toArray]; omega)) ⟨e, ?_⟩
  refine ⟨y, _, I.lset (its' := its.eraseIdx k) hH e ?_ (r.eraseIdx k) ?_, rw', q⟩
  · show its.toArray.eraseIdxIfInBounds k = (its.eraseIdx k).toArray
    rw [List.eraseIdxIfInBounds_toArray]
  · have := len_erase xs k
    omega

def rReverse : V → List V → Hp → VK → Prop := fun x vs H Q => ∃ l xs, x = .ref l ∧ vs = [] ∧ H l = some (.lst xs) ∧ Q .non (upd H l (.lst xs.reverse))
theorem mt_reverse : MtM X "list.reverse" rReverse := by
  intro pins s σ H x vs v us Q I rx rv h
  obtain ⟨l, xs, rfl, rfl, hH, q⟩ := h
  cases rx
  have hus := rv.zero
  subst hus
  obtain ⟨z, its, n, r, hl, e⟩ := I.lstM hH
  refine call_meets F.slot_list_reverse ⟨_, e, rfl⟩ F.entry_list_reverse (F.args_list_reverse_1 _) (AutoSeq1.list_reverse_list_0 l its.toArray n (by rw [List.size_toArray]; omega)) ⟨e, ?_⟩
  refine ⟨.non, _, I.lset (its' := its.reverse) hH e (by simp) r.reverse ?_, rfl, q⟩
  rw [List.length_reverse]
  omega

def rClear : V → List V → Hp → VK → Prop := fun x vs H Q => ∃ l xs, x = .ref l ∧ vs = [] ∧ H l = some (.lst xs) ∧ Q .non (upd H l (.lst []))
theorem mt_clear : MtM X "list.clear" rClear := by
  intro pins s σ H x vs v us Q I rx rv h
  obtain ⟨l, xs, rfl, rfl, hH, q⟩ := h
  cases rx
  have hus := rv.zero
  subst hus
  obtain ⟨z, its, n, r, hl, e⟩ := I.lstM hH
  refine call_meets F.slot_list_clear ⟨_, e, rfl⟩ F.entry_list_clear (F.args_list_clear_1 _) (AutoSeq1.list_clear_list_0 l its.toArray n (by rw [List.size_toArray]; omega)) ⟨e, ?_⟩
  exact ⟨.non, _, I.lset (its' := []) (ys := []) hH e rfl .nil (Nat.zero_le _), rfl, q⟩

def rCat : R2 := fun x y H Q => ∃ l b xs zs, x = .ref l ∧ y = .ref b ∧ H l = some (.lst xs) ∧ H b = some (.lst zs) ∧ xs.length + zs.length ≤ sizeLine ∧ ∀ p, H p = none → Q (.ref p) (upd H p (.lst (xs ++ zs)))
theorem op_cat : OpR X (binaryOp .Add) rCat := by
  intro pins s σ H x y v u Q I rx ry h
  obtain ⟨l, b, xs, zs, rfl, rfl, hH, hB, hz, q⟩ := h
  cases rx
  cases ry
  obtain ⟨z, its, n, r, hl, e⟩ := I.lstM hH
  obtain ⟨z2, its2, n2, r2, hl2, e2⟩ := I.lstM hB
  refine PySem.P.add_list e e2 ?_ (by rw [List.size_toArray, List.size_toArray]; omega)
  have ea : its.toArray ++ its2.toArray = (its ++ its2).toArray := by simp
  rw [ea]
  exact ⟨.ref _, _, I.lnew (t' := s.toks) (r.append r2) (by rw [List.length_append]; omega), rfl, q _ I.fresh⟩
def rRep : R2 := fun x y H Q => ∃ l k xs, x = .ref l ∧ y = .int k ∧ H l = some (.lst xs) ∧ -(2 ^ 63) ≤ k ∧ k < 2 ^ 63 ∧ xs.length * k.toNat ≤ sizeLine ∧
  ∀ p, H p = none → Q (.ref p) (upd H p (.lst (List.replicate k.toNat xs).flatten))
theorem len_rep {α : Type} (xs : List α) (k : Nat) : (List.replicate k xs).flatten.length = k * xs.length := by
  induction k with
  | zero => simp
  | succ k ih => rw [List.replicate_succ, List.flatten_cons, List.length_append, ih, Nat.succ_mul, Nat.add_comm]
theorem op_rep : OpR X (binaryOp .Mult) rRep := by
  intro pins s σ H x y v u Q I rx ry h
  obtain ⟨l, k, xs, rfl, rfl, hH, h1, h2, hz, q⟩ := h
  cases rx
  obtain ⟨t, rfl⟩ := ry
  obtain ⟨z, its, n, r, hl, e⟩ := I.lstM hH
  have hlen : its.toArray.size * k.toNat ≤ sizeLine := by rw [List.size_toArray, ← hl]; exact hz
  have hcap : ¬ its.toArray.size * k.toNat > (2 ^ 63 - 1) / 8 := by
    have : (sizeLine : Nat) ≤ (2 ^ 63 - 1) / 8 := by decide
    omega
  have hfit : ¬ (!Builtin.List.listFitsIndex k) = true := by
    rw [fitsIndex_both h1 h2]
    exact Bool.false_ne_true
  have hlong : ¬ Builtin.List.listTooLong (its.toArray.size * k.toNat) = true := by
    rw [notLongL hlen]
    exact Bool.false_ne_true
  have hnew : List.foldl (fun x1 x2 => x1 ++ x2) #[] (List.replicate (if its.toArray.isEmpty = true then 0 else k.toNat) its.toArray) = (List.replicate k.toNat its).flatten.toArray := by
    have f0 : ∀ m : Nat, List.foldl (fun x1 x2 => x1 ++ x2) #[] (List.replicate m its.toArray) = (List.replicate m its).flatten.toArray := fun m => by
      have := foldl_rep its m []
      rw [List.nil_append] at this
      exact this
    rw [f0]
    cases its with
    | nil => simp
    | cons a r' => rw [if_neg (by simp)]
  refine wpAny_binaryOp_repeat_ref (T := "list") (U := "int") (by decide) ⟨_, e, rfl⟩ (fun s' => typeIs_int s' k t) noFill_list_mul F.fills_int_mul F.slot_int_rmul repeat_list F.slot_int_index.lookup
    (call_meets F.slot_int_rmul (typeIs_int s k t) F.entry_int_rmul (F.args_int_rmul_2 _ _) (int___rmul___int_list k t l its.toArray n)
      ⟨e, rfl, ⟨_, e, rfl⟩, call_meets F.slot_list_mul ⟨_, e, rfl⟩ F.entry_list_mul (F.args_list_mul_2 _ _) (AutoListH.list___mul___list_int_3 l its.toArray n k t hfit hcap hlong) ⟨e, ?_⟩⟩)
  rw [hnew]
  exact ⟨.ref _, _, I.lnew (t' := s.toks) (r.rep k.toNat) (by rw [len_rep, Nat.mul_comm]; exact hz), rfl, q _ I.fresh⟩

theorem del_list {pins : List (Addr × Obj)} {s : Shared} {σ : St} {H : Hp} {l : Addr} {xs : List V} {i : Int} {t : Tok} {k : Nat} {Q : Unit → Shared → Prop} (I : Inv X pins σ H s) (hH : H l = some (.lst xs))
    (h1 : -(2 ^ 63) ≤ i) (h2 : i < 2 ^ 63) (hk : seqIndex? i xs.length = some k) (h : ∀ s', Inv X pins σ (upd H l (.lst (xs.eraseIdx k))) s' → Q () s') :
    wpAny (model X.prog X.w) X.A (delItem (.ref l) (.int i t)) Q X.xe s := by
  obtain ⟨z, its, n, r, hl, e⟩ := I.lstM hH
  refine PySem.P.delItem_list (k := k) e (fitsIndex_both h1 h2) (by rw [List.size_toArray, ← hl]; exact hk) (h _ ?_) (by rw [List.size_toArray]; omega)
  refine I.lset (its' := its.eraseIdx k) (t' := s.toks) hH e ?_ (r.eraseIdx k) ?_
  · show its.toArray.eraseIdxIfInBounds k = (its.eraseIdx k).toArray
    rw [List.eraseIdxIfInBounds_toArray]
  · have := len_erase xs k
    omega
end

section
variable {prog : Program} {w : World} {A : Around} {E : Value → Shared → Prop} {s : Shared}
theorem splice_eq (its its2 : List Value) (a c : Nat) : its.toArray.extract 0 a ++ its2.toArray ++ its.toArray.extract c its.toArray.size = (its.take a ++ its2 ++ its.drop c).toArray := by
  apply Array.toList_inj.mp
  first
    | (simp
       exact List.take_of_length_le (by simp))
    | simp [List.take_of_length_le]
    | simp
theorem bounds_run {a c n : Nat} (hac : a ≤ c) (hc : c ≤ n) : sliceBounds (some (a : Int)) (some (c : Int)) none n = ((a : Int), (c : Int), 1) := by
  simp only [sliceBounds, Option.getD_none]
  have h1 : ¬ ((a : Int) < 0) := by omega
  have h2 : ¬ ((c : Int) < 0) := by omega
  simp only [h1, h2, if_false, show (1 : Int) > 0 by decide, if_true]
  congr 1
  · omega
  · congr 1; omega
set_option maxRecDepth 100000 in
theorem setItem_slice {l b sl : Addr} {items new : Array Value} {n n2 : Nat} {vl vu : Value} {a c : Nat} {Q : Unit → Shared → Prop}
    (e : s.heap.get? l = some { cls := .type "list", data := .seq items n }) (e2 : s.heap.get? b = some { cls := .type "list", data := .seq new n2 }) (hne : l ≠ b)
    (hs : s.heap.IsSliceOf sl vl vu .none) (pl : IsPart vl (some (a : Int))) (pu : IsPart vu (some (c : Int))) (hac : a ≤ c) (hc : c ≤ items.size)
    (hsz : items.size + new.size ≤ sizeLine) (h : Q () { s with heap := s.heap.update l (Obj.mapSeq fun xs => xs.extract 0 a ++ new ++ xs.extract c xs.size) }) :
    wpAny (model prog w) A (setItem (.ref l) (.ref sl) (.ref b)) Q E s := by
  have hl : s.heap.IsList l items := PySem.IsL.isList e
  have hb : s.heap.IsList b new := PySem.IsL.isList e2
  obtain ⟨os, hos, hcs, hds⟩ := id hs
  have hTs : s.TypeIs (.ref sl) "slice" := ⟨os, hos, hcs⟩
  have hstep : ¬ ((rawPart none == rawInt 0) = true) := Bool.false_ne_true
  have hsame : Builtin.List.listSameRef (.ref l) (.ref b) = false := by
    unfold Builtin.List.listSameRef
    exact beq_eq_false_iff_ne.mpr hne
  have hmax : (max (a : Int) (c : Int)).toNat = c := by omega
  have hz' : ((fun xs : Array Value => xs.extract 0 a ++ new ++ xs.extract c xs.size) items).size ≤ sizeLine + 1 := by
    simp only [Array.size_append, Array.size_extract]
    omega
  unfold setItem
  try with_reducible refine wpAny_holding ?_
  first | refine wpAny_bind (wpAny_pure ?_) | skip
  refine wpAny_bind (wpAny_sequenceKey hl.typeIs (by decide) ?_)
  refine wpAny_bind (wpAny_callSpecial?_slot (name := Str.ofString "__setitem__") hl.typeIs slot_list_setitem
    (wpAny_call_entry slot_list_setitem hl.typeIs entry_list_setitem ?_ (args_list_setitem _ _ _)))
  show wpAny _ _ (Builtin.List.listSubscript? (.ref sl) >>= _) _ _ s
  refine wpAny_bind ?_
  unfold Builtin.List.listSubscript?
  refine wpAny_bind (wpAny_specialOf hTs slice_no_index ?_)
  simp only [Option.isNone_none, if_true]
  refine wpAny_pure ?_
  show wpAny _ _ (typeOf (.ref sl) >>= _) _ _ s
  refine wpAny_bind (wpAny_typeOf hTs ?_)
  first
    | rw [if_neg (by decide)]
    | refine PySem.W.KFB.if_not (by decide) ?_
  rw [listSliceParts_eq]
  refine wpAny_bind (wpAny_bind (wpAny_field hos hds (x := .none) rfl (wpAny_bind (wpAny_listPart .none ?_))))
  rw [if_neg hstep]
  refine wpAny_bind (wpAny_field hos hds (x := vl) rfl (wpAny_bind (wpAny_listPart pl ?_)))
  refine wpAny_bind (wpAny_field hos hds (x := vu) rfl (wpAny_bind (wpAny_listPart pu (wpAny_pure ?_))))
  first
    | simp only [hsame, Bool.false_eq_true, if_false]
    | refine PySem.W.KFB.if_not hsame ?_
    | (dsimp only
       rw [if_neg (by rw [hsame]; exact Bool.false_ne_true)])
  refine wpAny_bind (m := Builtin.List.listAllItems (.ref b) "must assign iterable to extended slice") ?_
  unfold Builtin.List.listAllItems
  refine wpAny_bind (wpAny_typeOf hb.typeIs ?_)
  first
    | refine PySem.W.KFB.if_so (by decide) ?_
    | rw [if_pos (by decide)]
    | simp only [beq_self_eq_true, Bool.true_or, if_true]
  unfold Builtin.List.listItems
  refine wpAny_bind (wpAny_seqItems e2 rfl (wpAny_pure ?_))
  refine wpAny_bind (wpAny_bind (wpAny_seqItems e rfl (wpAny_pure ?_)))
  refine wpAny_bind (wpAny_of_eq ((sliceIndices_raw (some (a : Int)) (some (c : Int)) none items.size (by simp)).trans (congrArg (pure : Int × Int × Int → Sem (Int × Int × Int)) (bounds_run hac hc))) ?_)
  show wpAny _ _ (if ((1 : Int) == 1) = true then _ else _) _ _ s
  rw [if_pos (by decide)]
  refine wpAny_bind (wpAny_rule ?_)
  first
    | simp only [notLongL hsz, Bool.false_eq_true, if_false]
    | refine PySem.W.KFB.if_not (notLongL hsz) ?_
  first | refine wpAny_bind (wpAny_pure ?_) | skip
  show wpAny _ _ (updateSeq l (fun xs => xs.extract 0 ((a : Int)).toNat ++ new ++ xs.extract (max (a : Int) (c : Int)).toNat xs.size) >>= _) _ _ s
  rw [hmax, Int.toNat_natCast]
  refine wpAny_bind (wpAny_updateSeq (hz := Nat.le_trans (Nat.le_add_right _ _) hsz) (_hz' := hz') e rfl ?_)
  refine wpAny_bind (wpAny_letGo ?_)
  first
    | exact wpAny_bind (wpAny_pure (wpAny_pure ⟨.none, rfl, wpAny_pure h⟩))
    | exact wpAny_pure ⟨.none, rfl, wpAny_pure h⟩
end

section
variable {X : Cx}
theorem set_slice {pins : List (Addr × Obj)} {s : Shared} {σ : St} {H : Hp} {l b sl : Addr} {xs ys : List V} {a c : Int} {vl vu : Value} {Q : Unit → Shared → Prop} (I : Inv X pins σ H s)
    (hH : H l = some (.lst xs)) (hB : H b = some (.lst ys)) (hne : l ≠ b) (hs : s.heap.IsSliceOf sl vl vu .none) (ra : RelV (.int a) vl) (rc : RelV (.int c) vu) (h0 : 0 ≤ a) (hac : a ≤ c) (hc : c ≤ xs.length)
    (hz : xs.length + ys.length ≤ sizeLine) (h : ∀ s', Inv X pins σ (upd H l (.lst (xs.take a.toNat ++ ys ++ xs.drop c.toNat))) s' → Q () s') :
    wpAny (model X.prog X.w) X.A (setItem (.ref l) (.ref sl) (.ref b)) Q X.xe s := by
  obtain ⟨ta, rfl⟩ := ra
  obtain ⟨tc, rfl⟩ := rc
  obtain ⟨z, its, n, r, hl, e⟩ := I.lstM hH
  obtain ⟨z2, its2, n2, r2, hl2, e2⟩ := I.lstM hB
  obtain ⟨a', rfl⟩ := Int.eq_ofNat_of_zero_le h0
  obtain ⟨c', rfl⟩ := Int.eq_ofNat_of_zero_le (Int.le_trans h0 hac)
  simp only [Int.toNat_natCast] at h
  refine setItem_slice (a := a') (c := c') e e2 hne hs (.int _ _) (.int _ _) (by omega) (by rw [List.size_toArray]; omega) (by rw [List.size_toArray, List.size_toArray]; omega) (h _ ?_)
  refine I.lset (its' := its.take a' ++ its2 ++ its.drop c') (t' := s.toks) hH e ?_ (Vals.append (Vals.append (r.take _) r2) (r.drop _)) ?_
  · exact splice_eq its its2 a' c'
  · rw [List.length_append, List.length_append, List.length_take, List.length_drop]
    omega
end
end L2

namespace L2
open PySem PySem.Spec PyProof.Rows

section
variable {κ : Type} [DecidableEq κ]
def valV (kvs : List (κ × V)) (k : κ) : Option V := (kvs.find? fun kv => decide (kv.1 = k)).map (·.2)
def putK (kvs : List (κ × V)) (k : κ) (v : V) : List (κ × V) :=
  if (kvs.any fun kv => decide (kv.1 = k)) = true then kvs.map (fun kv => if kv.1 = k then (kv.1, v) else kv) else kvs ++ [(k, v)]
def dropK (kvs : List (κ × V)) (k : κ) : List (κ × V) := kvs.filter fun kv => decide (kv.1 ≠ k)

theorem valV_nil {k : κ} : valV ([] : List (κ × V)) k = none := rfl
theorem valV_pos {p : κ × V} {r : List (κ × V)} {k : κ} (e : p.1 = k) : valV (p :: r) k = some p.2 := by simp [valV, List.find?_cons, e]
theorem valV_neg {p : κ × V} {r : List (κ × V)} {k : κ} (e : ¬ p.1 = k) : valV (p :: r) k = valV r k := by simp [valV, List.find?_cons, e]
theorem valV_any (k : κ) : ∀ kvs : List (κ × V), (kvs.any fun kv => decide (kv.1 = k)) = (valV kvs k).isSome
  | [] => rfl
  | p :: r => by
    rw [List.any_cons]
    by_cases e : p.1 = k
    · simp only [valV_pos e, decide_eq_true e, Bool.true_or, Option.isSome_some]
    · rw [valV_neg e, decide_eq_false e, Bool.false_or]; exact valV_any k r
theorem valV_map (k j : κ) (y : V) : ∀ kvs : List (κ × V), valV (kvs.map fun kv => if kv.1 = k then (kv.1, y) else kv) j = (valV kvs j).map fun x => if j = k then y else x
  | [] => rfl
  | p :: r => by
    have ih := valV_map k j y r
    rw [List.map_cons]
    by_cases h : p.1 = k
    · rw [if_pos h]
      by_cases e : p.1 = j
      · rw [valV_pos (p := (p.1, y)) e, valV_pos e, Option.map_some, if_pos (e.symm.trans h)]
      · rw [valV_neg (p := (p.1, y)) e, valV_neg e, ih]
    · rw [if_neg h]
      by_cases e : p.1 = j
      · rw [valV_pos (p := p) e, valV_pos e, Option.map_some, if_neg (fun z => h (e.trans z))]
      · rw [valV_neg (p := p) e, valV_neg e, ih]
theorem valV_snoc (k j : κ) (y : V) : ∀ kvs : List (κ × V), valV kvs k = none → valV (kvs ++ [(k, y)]) j = if j = k then some y else valV kvs j
  | [], _ => by
    by_cases e : k = j
    · rw [if_pos e.symm]; exact valV_pos (p := (k, y)) e
    · rw [if_neg (fun z => e z.symm)]; exact valV_neg (p := (k, y)) e
  | p :: r, hn => by
    rw [List.cons_append]
    have hk : ¬ p.1 = k := fun z => by rw [valV_pos z] at hn; cases hn
    rw [valV_neg hk] at hn
    have ih := valV_snoc k j y r hn
    by_cases e : p.1 = j
    · rw [valV_pos e, valV_pos e, if_neg (fun z => hk (e.trans z))]
    · rw [valV_neg e, valV_neg e, ih]
theorem valV_put (kvs : List (κ × V)) (k j : κ) (y : V) : valV (putK kvs k y) j = if j = k then some y else valV kvs j := by
  unfold putK
  by_cases a : (kvs.any fun kv => decide (kv.1 = k)) = true
  · rw [if_pos a, valV_map]
    rw [valV_any] at a
    by_cases e : j = k
    · obtain ⟨x, hx⟩ := Option.isSome_iff_exists.mp a
      rw [if_pos e, e, hx, Option.map_some, if_pos rfl]
    · rw [if_neg e]
      cases valV kvs j with
      | none => rfl
      | some x => rw [Option.map_some, if_neg e]
  · rw [if_neg a]
    refine valV_snoc k j y kvs ?_
    rw [valV_any] at a
    cases q : valV kvs k with
    | none => rfl
    | some x => rw [q] at a; exact (a rfl).elim
theorem length_putK (kvs : List (κ × V)) (k : κ) (v : V) : (putK kvs k v).length ≤ kvs.length + 1 := by
  unfold putK
  split
  · rw [List.length_map]; omega
  · rw [List.length_append, List.length_cons, List.length_nil]; omega
theorem putK_new {kvs : List (κ × V)} {k : κ} (v : V) (h : valV kvs k = none) : putK kvs k v = kvs ++ [(k, v)] := by
  unfold putK
  rw [valV_any, h]
  exact if_neg (by decide)

theorem RelO.isSome_eq {o : Option V} {u : Option Value} (r : RelO o u) : o.isSome = u.isSome := by
  cases o with
  | none => cases u with
    | none => rfl
    | some _ => exact (show False from r).elim
  | some _ => cases u with
    | none => exact (show False from r).elim
    | some _ => rfl
theorem RelO.getD {o : Option V} {u : Option Value} {d : V} {d' : Value} (r : RelO o u) (rd : RelV d d') : RelV (o.getD d) (u.getD d') := by
  cases o with
  | none => cases u with
    | none => exact rd
    | some _ => exact (show False from r).elim
  | some _ => cases u with
    | none => exact (show False from r).elim
    | some _ => exact r

theorem KV.val {kvs : List (κ × V)} {vs : List (κ × Value)} (r : KV kvs vs) (k : κ) : RelO (valV kvs k) (valueAt vs k) := by
  unfold KV at r
  induction r with
  | nil => exact True.intro
  | @cons p q ps qs h t ih =>
    obtain ⟨h1, h2⟩ := h
    by_cases e : p.1 = k
    · have e' : q.1 = k := h1.symm.trans e
      have b : valueAt (q :: qs) k = some q.2 := by simp [valueAt, List.find?_cons, e']
      rw [valV_pos e, b]; exact h2
    · have e' : ¬ q.1 = k := fun z => e (h1.trans z)
      have b : valueAt (q :: qs) k = valueAt qs k := by simp [valueAt, List.find?_cons, e']
      rw [valV_neg e, b]; exact ih
theorem KV.any {kvs : List (κ × V)} {vs : List (κ × Value)} (r : KV kvs vs) (k : κ) : (kvs.any fun kv => decide (kv.1 = k)) = vs.any fun kv => decide (kv.1 = k) := by
  unfold KV at r
  induction r with
  | nil => rfl
  | cons h t ih => rw [List.any_cons, List.any_cons, ih, h.1]
theorem KV.repl {kvs : List (κ × V)} {vs : List (κ × Value)} (r : KV kvs vs) (k : κ) {y : V} {u : Value} (ry : RelV y u) :
    KV (kvs.map fun kv => if kv.1 = k then (kv.1, y) else kv) (vs.map fun kv => if kv.1 = k then (kv.1, u) else kv) := by
  unfold KV at r ⊢
  induction r with
  | nil => exact .nil
  | @cons p q ps qs h t ih =>
    rw [List.map_cons, List.map_cons]
    refine .cons ?_ ih
    obtain ⟨h1, h2⟩ := h
    by_cases e : p.1 = k
    · rw [if_pos e, if_pos (h1.symm.trans e)]; exact ⟨h1, ry⟩
    · rw [if_neg e, if_neg (fun z => e (h1.trans z))]; exact ⟨h1, h2⟩
theorem KV.put {kvs : List (κ × V)} {vs : List (κ × Value)} (r : KV kvs vs) (k : κ) {y : V} {u : Value} (ry : RelV y u) : KV (putK kvs k y) (stored vs k u) := by
  unfold putK stored
  rw [r.any k]
  by_cases e : (vs.any fun kv => decide (kv.1 = k)) = true
  · rw [if_pos e, if_pos e]; exact r.repl k ry
  · rw [if_neg e, if_neg e]; exact Paired.snoc r ⟨rfl, ry⟩
theorem KV.drop {kvs : List (κ × V)} {vs : List (κ × Value)} (r : KV kvs vs) (k : κ) : KV (dropK kvs k) (without vs k) := by
  unfold KV at r ⊢
  unfold dropK without
  induction r with
  | nil => exact .nil
  | @cons p q ps qs h t ih =>
    obtain ⟨h1, h2⟩ := h
    rw [List.filter_cons, List.filter_cons]
    by_cases e : p.1 = k
    · have a : ¬ decide (p.1 ≠ k) = true := by simp [e]
      have b : ¬ decide (q.1 ≠ k) = true := by simp [h1.symm.trans e]
      rw [if_neg a, if_neg b]; exact ih
    · have e' : ¬ q.1 = k := fun z => e (h1.trans z)
      have a : decide (p.1 ≠ k) = true := by simp [e]
      have b : decide (q.1 ≠ k) = true := by simp [e']
      rw [if_pos a, if_pos b]; exact .cons ⟨h1, h2⟩ ih
theorem KV.keys {kvs : List (κ × V)} {vs : List (κ × Value)} (r : KV kvs vs) : kvs.map (·.1) = vs.map (·.1) := by
  unfold KV at r
  induction r with
  | nil => rfl
  | cons h t ih => rw [List.map_cons, List.map_cons, ih, h.1]
theorem KV.length {kvs : List (κ × V)} {vs : List (κ × Value)} (r : KV kvs vs) : kvs.length = vs.length := Paired.length r
theorem dropK_le (kvs : List (κ × V)) (k : κ) : (dropK kvs k).length ≤ kvs.length := List.length_filter_le _ _
end


theorem kV_is {P : Program} {w : World} {k : Key} {u : Value} (r : RelV (kV k) u) : (mixKind P w).is k u = true := by
  cases k with
  | inl i => obtain ⟨t, e⟩ := (show ∃ t, u = Value.int i t from r); subst e; exact mixKind_int P w i t
  | inr x => obtain ⟨t, e⟩ := (show ∃ t, u = Value.str x t from r); subst e; exact mixKind_str P w x t
theorem kV_inj {a b : Key} (e : kV a = kV b) : a = b := by
  cases a with
  | inl i => cases b with
    | inl j => have e' : V.int i = V.int j := e; injection e' with e'; rw [e']
    | inr y => exact nomatch (show V.int i = V.str y from e)
  | inr x => cases b with
    | inl j => exact nomatch (show V.str x = V.int j from e)
    | inr y => have e' : V.str x = V.str y := e; injection e' with e'; rw [e']
theorem kVs_inj : ∀ {a b : List Key}, a.map kV = b.map kV → a = b
  | [], [], _ => rfl
  | [], _ :: _, e => by simp at e
  | _ :: _, [], e => by simp at e
  | x :: xs, y :: ys, e => by
    rw [List.map_cons, List.map_cons] at e
    injection e with e1 e2
    rw [kV_inj e1, kVs_inj e2]
theorem items_are {P : Program} {w : World} : ∀ {ks : List Key} {us : List Value}, Vals (ks.map kV) us → ItemsAre (mixKind P w) ks us
  | [], _, r => by rw [List.map_nil] at r; cases r; exact .nil
  | k :: ks, _, r => by
    rw [List.map_cons] at r
    cases r with
    | cons h t => exact .cons (kV_is h) (items_are t)

abbrev KT (H : Hp) : List (List Key × V) → List (List Key × Addr × Value) → Prop := Paired fun p q => p.1 = q.1 ∧ H q.2.1 = some (.tup (p.1.map kV)) ∧ RelV p.2 q.2.2
theorem KT.val {H : Hp} {kvs : List (List Key × V)} {xs : List (List Key × Addr × Value)} (r : KT H kvs xs) (k : List Key) : RelO (valV kvs k) ((atKey xs k).map (·.2)) := by
  induction r with
  | nil => exact True.intro
  | @cons p q ps qs h t ih =>
    obtain ⟨h1, _, h2⟩ := h
    by_cases e : p.1 = k
    · have e' : q.1 = k := h1.symm.trans e
      have b : atKey (q :: qs) k = some q.2 := by simp [atKey, List.find?_cons, e']
      rw [valV_pos e, b]; exact h2
    · have e' : ¬ q.1 = k := fun z => e (h1.trans z)
      have b : atKey (q :: qs) k = atKey qs k := by simp [atKey, List.find?_cons, e']
      rw [valV_neg e, b]; exact ih
theorem KT.repl {H : Hp} {kvs : List (List Key × V)} {xs : List (List Key × Addr × Value)} (r : KT H kvs xs) (k : List Key) {y : V} {u : Value} (ry : RelV y u) :
    KT H (kvs.map fun kv => if kv.1 = k then (kv.1, y) else kv) (xs.map (putAt k u)) := by
  induction r with
  | nil => exact .nil
  | @cons p q ps qs h t ih =>
    rw [List.map_cons, List.map_cons]
    refine .cons ?_ ih
    obtain ⟨h1, h2, h3⟩ := h
    unfold putAt
    by_cases e : p.1 = k
    · rw [if_pos e, if_pos (h1.symm.trans e)]; exact ⟨h1, h2, ry⟩
    · rw [if_neg e, if_neg (fun z => e (h1.trans z))]; exact ⟨h1, h2, h3⟩
theorem KT.put {H : Hp} {kvs : List (List Key × V)} {xs : List (List Key × Addr × Value)} (r : KT H kvs xs) (k : List Key) {b : Addr} {y : V} {u : Value} (hb : H b = some (.tup (k.map kV))) (ry : RelV y u) :
    KT H (putK kvs k y) (storedH xs k b u) := by
  have e : (kvs.any fun kv => decide (kv.1 = k)) = (atKey xs k).isSome := by
    rw [valV_any, (r.val k).isSome_eq, Option.isSome_map]
  unfold putK storedH
  rw [e]
  by_cases q : (atKey xs k).isSome = true
  · rw [if_pos q, if_pos q]; exact r.repl k ry
  · rw [if_neg q, if_neg q]; exact Paired.snoc r ⟨rfl, hb, ry⟩
theorem KT.keeps {H H' : Hp} {kvs : List (List Key × V)} {xs : List (List Key × Addr × Value)} (r : KT H kvs xs) (ht : ∀ b ys, H b = some (.tup ys) → H' b = some (.tup ys)) : KT H' kvs xs :=
  Paired.mapP r fun _ _ z => ⟨z.1, ht _ _ z.2.1, z.2.2⟩

section
variable {P : Program} {w : World} {H : Hp} {h : Heap} {a : Addr}
theorem rd_of {u : HO} (ok : HOk P w H h) (e : Rd H a u) : ObjOk P w H h a u := e.ok ok
theorem dk_rd {kvs : List (Key × V)} (ok : HOk P w H h) (e : Rd H a (.dK kvs)) : kvs.length ≤ sizeLine ∧ (a == sysModules) = false ∧ ∃ vs, KV kvs vs ∧ h.DictOf (mixKind P w) a vs :=
  show ObjOk P w H h a (.dK kvs) from rd_of ok e
theorem dk_of {kvs : List (Key × V)} (ok : HOk P w H h) (e : H a = some (.dK kvs)) : kvs.length ≤ sizeLine ∧ (a == sysModules) = false ∧ ∃ vs, KV kvs vs ∧ h.DictOf (mixKind P w) a vs := dk_rd ok (.inl e)
theorem key_of {ks : List Key} (ok : HOk P w H h) (e : H a = some (.tup (ks.map kV))) : (tupleKind (mixKind P w)).is h ks a := by
  obtain ⟨_, its, r, o, h1, h2, n, h3⟩ := (show ObjOk P w H h a (.tup (ks.map kV)) from ok a _ e)
  exact ⟨o, its.toArray, n, h1, h2, h3, by simpa using items_are r⟩
theorem dt_rd {kvs : List (List Key × V)} (ok : HOk P w H h) (e : Rd H a (.dT kvs)) : kvs.length ≤ sizeLine ∧ (a == sysModules) = false ∧
    ∃ xs, KT H kvs xs ∧ h.DictOfH (tupleKind (mixKind P w)) a xs := by
  obtain ⟨z, y, xs, r, o, es, ep, h1, h2, h3, h4, h5⟩ := (show ObjOk P w H h a (.dT kvs) from rd_of ok e)
  refine ⟨z, y, xs, r, o, es, ep, h1, h2, h3, h4, fun x hx => ?_, h5⟩
  have all : ∀ {l : List (List Key × V)} {m : List (List Key × Addr × Value)}, KT H l m → ∀ x ∈ m, (tupleKind (mixKind P w)).is h x.1 x.2.1 := by
    intro l m q
    induction q with
    | nil => intro x hx; exact nomatch hx
    | @cons p q ps qs hq t ih =>
      intro x hx
      rcases List.mem_cons.mp hx with e | hx
      · subst e
        exact key_of ok (by rw [← hq.1]; exact hq.2.1)
      · exact ih x hx
  exact all r x hx
theorem dt_of {kvs : List (List Key × V)} (ok : HOk P w H h) (e : H a = some (.dT kvs)) : kvs.length ≤ sizeLine ∧ (a == sysModules) = false ∧
    ∃ xs, KT H kvs xs ∧ h.DictOfH (tupleKind (mixKind P w)) a xs := dt_rd ok (.inl e)
end

def DGet (H : Hp) (a : Addr) (y : V) (r : Option V) : Prop :=
  (∃ kvs k, Rd H a (.dK kvs) ∧ y = kV k ∧ r = valV kvs k) ∨ ∃ kvs k b, Rd H a (.dT kvs) ∧ y = .ref b ∧ H b = some (.tup (k.map kV)) ∧ r = valV kvs k
def DPut (H : Hp) (a : Addr) (y v : V) (H' : Hp) : Prop :=
  (∃ kvs k, H a = some (.dK kvs) ∧ y = kV k ∧ kvs.length < sizeLine ∧ H' = upd H a (.dK (putK kvs k v))) ∨
  ∃ kvs k b, H a = some (.dT kvs) ∧ y = .ref b ∧ H b = some (.tup (k.map kV)) ∧ kvs.length < sizeLine ∧ H' = upd H a (.dT (putK kvs k v))
theorem DGet.k {H : Hp} {a : Addr} {kvs : List (Key × V)} {k : Key} (e : H a = some (.dK kvs)) : DGet H a (kV k) (valV kvs k) := .inl ⟨kvs, k, .inl e, rfl, rfl⟩
theorem DGet.t {H : Hp} {a b : Addr} {kvs : List (List Key × V)} {k : List Key} (e : H a = some (.dT kvs)) (eb : H b = some (.tup (k.map kV))) : DGet H a (.ref b) (valV kvs k) := .inr ⟨kvs, k, b, .inl e, rfl, eb, rfl⟩
theorem DPut.k {H : Hp} {a : Addr} {kvs : List (Key × V)} {k : Key} {v : V} (e : H a = some (.dK kvs)) (hl : kvs.length < sizeLine) : DPut H a (kV k) v (upd H a (.dK (putK kvs k v))) := .inl ⟨kvs, k, e, rfl, hl, rfl⟩
theorem DPut.t {H : Hp} {a b : Addr} {kvs : List (List Key × V)} {k : List Key} {v : V} (e : H a = some (.dT kvs)) (eb : H b = some (.tup (k.map kV))) (hl : kvs.length < sizeLine) :
    DPut H a (.ref b) v (upd H a (.dT (putK kvs k v))) := .inr ⟨kvs, k, b, e, rfl, eb, hl, rfl⟩


section
variable {X : Cx} {pins : List (Addr × Obj)} {σ : St} {H : Hp} {s : Shared} {a : Addr} {y v : V} {u r : Value} {o : Option V} {A : Around} {E : Value → Shared → Prop}

theorem Inv.big (I : Inv X pins σ H s) : sysModules < s.heap.objs.size := by
  have h : mainGlobals < s.heap.objs.size := (I.mod.glob.keeps I.bk).lt
  exact Nat.lt_trans (by decide) h

theorem d_getItem {Q : Value → Shared → Prop} (hu : A.units + 1 < cLine) (I : Inv X pins σ H s) (g : DGet H a y (some v)) (ry : RelV y u) (h : ∀ w' s', Inv X pins σ H s' → RelV v w' → Q w' s') :
    wpAny (model X.prog X.w) A (getItem (.ref a) u) Q E s := by
  rcases g with ⟨kvs, k, e, ey, l⟩ | ⟨kvs, k, b, e, ey, eb, l⟩
  · subst ey
    obtain ⟨z, hd, vs, rel, dd⟩ := dk_rd I.hok e
    obtain ⟨w', hw, rw'⟩ := RelO.some_of (v := v) (o := valueAt vs k) (by rw [l]; exact rel.val k)
    exact wpAny_getItem_of (kV_is ry) dd.mapOf hw (h w' _ (I.tok _) rw')
  · subst ey
    cases (show u = Value.ref b from ry)
    obtain ⟨z, hd, xs, rel, dd⟩ := dt_rd I.hok e
    obtain ⟨w', hw, rw'⟩ := RelO.some_of (v := v) (o := (atKey xs k).map (·.2)) (by rw [l]; exact rel.val k)
    obtain ⟨p, hp, hp2⟩ := Option.map_eq_some_iff.mp hw
    refine wpAny_getItem_heap (tupleKind_room_in1 hu) (key_of I.hok eb) dd hp ?_
    rw [hp2]
    exact h w' _ (I.tok _) rw'
theorem d_in {Q : Value → Shared → Prop} (hu : A.units + 1 < cLine) (I : Inv X pins σ H s) (g : DGet H a y o) (ry : RelV y u) (h : ∀ s', Inv X pins σ H s' → Q (.bool o.isSome) s') :
    wpAny (model X.prog X.w) A (compareOp .In u (.ref a)) Q E s := by
  rcases g with ⟨kvs, k, e, ey, l⟩ | ⟨kvs, k, b, e, ey, eb, l⟩
  · subst ey
    obtain ⟨z, hd, vs, rel, dd⟩ := dk_rd I.hok e
    refine wpAny_in_of (kV_is ry) hd dd.mapOf ?_
    rw [← (rel.val k).isSome_eq, ← l]
    exact h _ (I.tok _)
  · subst ey
    cases (show u = Value.ref b from ry)
    obtain ⟨z, hd, xs, rel, dd⟩ := dt_rd I.hok e
    refine wpAny_in_heap (tupleKind_room_in1 hu) (key_of I.hok eb) hd dd ?_
    have q := (rel.val k).isSome_eq
    rw [Option.isSome_map] at q
    rw [← q, ← l]
    exact h _ (I.tok _)
theorem d_notIn {Q : Value → Shared → Prop} (hu : A.units + 1 < cLine) (I : Inv X pins σ H s) (g : DGet H a y o) (ry : RelV y u) (h : ∀ s', Inv X pins σ H s' → Q (.bool (!o.isSome)) s') :
    wpAny (model X.prog X.w) A (compareOp .NotIn u (.ref a)) Q E s := by
  rcases g with ⟨kvs, k, e, ey, l⟩ | ⟨kvs, k, b, e, ey, eb, l⟩
  · subst ey
    obtain ⟨z, hd, vs, rel, dd⟩ := dk_rd I.hok e
    refine wpAny_notIn_of (kV_is ry) hd dd.mapOf ?_
    rw [← (rel.val k).isSome_eq, ← l]
    exact h _ (I.tok _)
  · subst ey
    cases (show u = Value.ref b from ry)
    obtain ⟨z, hd, xs, rel, dd⟩ := dt_rd I.hok e
    refine wpAny_notIn_heap (tupleKind_room_in1 hu) (key_of I.hok eb) hd dd ?_
    have q := (rel.val k).isSome_eq
    rw [Option.isSome_map] at q
    rw [← q, ← l]
    exact h _ (I.tok _)
theorem d_write {h' : Heap} {t' : Nat} {ob : HO} (I : Inv X pins σ H s) (mu : Mut (H a)) (hs : Heap.SameBut a s.heap h') (he : ∃ q, h'.get? a = some q) (new : ObjOk X.prog X.w (upd H a ob) h' a ob) :
    Inv X pins σ (upd H a ob) { s with heap := h', toks := t' } :=
  I.write (x := a) (e := a) mu (.inl rfl) (fun b q hb z => (hs.2 b hb).trans z) he new
theorem dk_new {P : Program} {w : World} {H' : Hp} {h' : Heap} {kvs : List (Key × V)} {vs : List (Key × Value)} (z : kvs.length ≤ sizeLine) (hd : (a == sysModules) = false) (rel : KV kvs vs) (dd : h'.DictOf (mixKind P w) a vs) :
    ObjOk P w H' h' a (.dK kvs) := ⟨z, hd, vs, rel, dd⟩
theorem d_setItem {H' : Hp} {Q : Unit → Shared → Prop} (hu : A.units + 1 < cLine) (I : Inv X pins σ H s) (g : DPut H a y v H') (ry : RelV y u) (rv : RelV v r) (h : ∀ s', Inv X pins σ H' s' → Q () s') :
    wpAny (model X.prog X.w) A (setItem (.ref a) u r) Q E s := by
  rcases g with ⟨kvs, k, e, ey, l, eH⟩ | ⟨kvs, k, b, e, ey, eb, l, eH⟩
  · subst ey eH
    obtain ⟨z, hd, vs, rel, dd⟩ := dk_of I.hok e
    have hz : vs.length ≤ sizeLine := by rw [← rel.length]; exact z
    have hl : (putK kvs k v).length ≤ sizeLine := by have := length_putK kvs k v; omega
    refine wpAny_setItem_pairs (hsz := hz) (kV_is ry) dd fun h' dd' hs => h _ ?_
    have he : ∃ q, h'.get? a = some q := let ⟨q, _, _, hq, _⟩ := dd'; ⟨q, hq⟩
    exact d_write I (by rw [e]; exact True.intro) hs he (dk_new hl hd (rel.put k rv) dd')
  · subst ey eH
    cases (show u = Value.ref b from ry)
    obtain ⟨z, hd, xs, rel, dd⟩ := dt_of I.hok e
    have hz : xs.length ≤ sizeLine := by rw [← Paired.length rel]; exact z
    have hl : (putK kvs k v).length ≤ sizeLine := by have := length_putK kvs k v; omega
    refine wpAny_setItem_heap (hsz := hz) (tupleKind_room_in1 hu) (key_of I.hok eb) dd fun h' dd' hs => h _ ?_
    obtain ⟨q, es, ep, hq, h2, h3, h4, _, h5⟩ := dd'
    refine d_write I (by rw [e]; exact True.intro) hs ⟨q, hq⟩ ⟨hl, hd, _, (rel.put k eb rv).keeps fun c ys ec => ?_, q, es, ep, hq, h2, h3, h4, h5⟩
    rw [upd_ne (ne_of ec e (fun z => nomatch z))]
    exact ec
end

section
variable {X : Cx} {pins : List (Addr × Obj)} {σ : St} {H : Hp} {s : Shared} {a : Addr} {kvs : List (Key × V)} {k : Key} {u : Value} {A : Around} {E : Value → Shared → Prop}
theorem d_delItem {Q : Unit → Shared → Prop} (I : Inv X pins σ H s) (e : H a = some (.dK kvs)) (ry : RelV (kV k) u) (l : (valV kvs k).isSome = true) (h : ∀ s', Inv X pins σ (upd H a (.dK (dropK kvs k))) s' → Q () s') :
    wpAny (model X.prog X.w) A (delItem (.ref a) u) Q E s := by
  obtain ⟨z, hd, vs, rel, dd⟩ := dk_of I.hok e
  refine wpAny_delItem_slot dd.typeIs (by decide) PySem.F.slot_dict_delitem
    (call_meetsIn PySem.F.slot_dict_delitem dd.typeIs PySem.F.entry_dict_delitem (PySem.F.args_dict_delitem_2 _ _) (meets_dict_delitem_pairs (mixKind X.prog X.w) a (kV_is ry)) ⟨vs, dd, by rw [← rel.length]; exact z, by rw [← (rel.val k).isSome_eq]; exact l, fun h' dd' hs => h _ ?_⟩)
  have he : ∃ q, h'.get? a = some q := let ⟨q, _, _, hq, _⟩ := dd'; ⟨q, hq⟩
  exact d_write I (by rw [e]; exact True.intro) hs he (dk_new (Nat.le_trans (dropK_le kvs k) z) hd (rel.drop k) dd')
theorem d_pop {v : V} {more : List Value} {Q : Value → Shared → Prop} (I : Inv X pins σ H s) (e : H a = some (.dK kvs)) (ry : RelV (kV k) u) (l : valV kvs k = some v) (hm : more = [] ∨ ∃ x, more = [x])
    (h : ∀ w' s', Inv X pins σ (upd H a (.dK (dropK kvs k))) s' → RelV v w' → Q w' s') : wpAny (model X.prog X.w) A (call (.builtin "dict.pop") (.ref a :: u :: more)) Q E s := by
  obtain ⟨z, hd, vs, rel, dd⟩ := dk_of I.hok e
  obtain ⟨w', hw, rw'⟩ := RelO.some_of (v := v) (o := valueAt vs k) (by rw [← l]; exact rel.val k)
  have hp : (keyPart u).isSome = true := by
    cases k with
    | inl i => obtain ⟨t, q⟩ := (show ∃ t, u = Value.int i t from ry); subst q; rfl
    | inr x => obtain ⟨t, q⟩ := (show ∃ t, u = Value.str x t from ry); subst q; rfl
  have ha : argsOk "dict.pop" ⟨.ref a :: u :: more, []⟩ := by
    rcases hm with q | ⟨x, q⟩
    · subst q; exact PySem.F.args_dict_pop_2 _ _
    · subst q; exact PySem.F.args_dict_pop_3 _ _ _
  refine call_meetsIn PySem.F.slot_dict_pop dd.typeIs PySem.F.entry_dict_pop ha (meets_dict_pop_there (mixKind X.prog X.w) a (kV_is ry) more hm hp)
    ⟨vs, w', dd, by rw [← rel.length]; exact z, hw, fun h' dd' hs => h w' _ ?_ rw'⟩
  have he : ∃ q, h'.get? a = some q := let ⟨q, _, _, hq, _⟩ := dd'; ⟨q, hq⟩
  exact d_write I (by rw [e]; exact True.intro) hs he (dk_new (Nat.le_trans (dropK_le kvs k) z) hd (rel.drop k) dd')
theorem d_popD {r : Value} {Q : Value → Shared → Prop} (I : Inv X pins σ H s) (e : H a = some (.dK kvs)) (ry : RelV (kV k) u) (l : valV kvs k = none) (h : ∀ s', Inv X pins σ H s' → Q r s') :
    wpAny (model X.prog X.w) A (call (.builtin "dict.pop") [.ref a, u, r]) Q E s := by
  obtain ⟨z, hd, vs, rel, dd⟩ := dk_of I.hok e
  have hn : valueAt vs k = none := RelO.none_of (by rw [← l]; exact rel.val k)
  have hp : (keyPart u).isSome = true := by
    cases k with
    | inl i => obtain ⟨t, q⟩ := (show ∃ t, u = Value.int i t from ry); subst q; rfl
    | inr x => obtain ⟨t, q⟩ := (show ∃ t, u = Value.str x t from ry); subst q; rfl
  exact call_meetsIn PySem.F.slot_dict_pop dd.typeIs PySem.F.entry_dict_pop (PySem.F.args_dict_pop_3 _ _ _) (meets_dict_pop_default (mixKind X.prog X.w) a (kV_is ry) hd hp r) ⟨vs, dd, hn, h _ (I.tok _)⟩
theorem d_clear {Q : Value → Shared → Prop} (I : Inv X pins σ H s) (e : H a = some (.dK kvs)) (h : ∀ s', Inv X pins σ (upd H a (.dK [])) s' → Q .none s') : wpAny (model X.prog X.w) A (call (.builtin "dict.clear") [.ref a]) Q E s := by
  obtain ⟨z, hd, vs, rel, dd⟩ := dk_of I.hok e
  refine call_meetsIn PySem.F.slot_dict_clear dd.typeIs PySem.F.entry_dict_clear (PySem.F.args_dict_clear_1 _) (meets_dict_clear (mixKind X.prog X.w) a) ⟨vs, dd, by rw [← rel.length]; exact z, fun h' dd' hs => h _ ?_⟩
  have he : ∃ q, h'.get? a = some q := let ⟨q, _, _, hq, _⟩ := dd'; ⟨q, hq⟩
  exact d_write (t' := s.toks) I (by rw [e]; exact True.intro) hs he (dk_new (Nat.zero_le _) hd .nil dd')
theorem d_len {Q : Value → Shared → Prop} (I : Inv X pins σ H s) (e : Rd H a (.dK kvs)) (h : ∀ t s', Inv X pins σ H s' → Q (.int kvs.length t) s') : wpAny (model X.prog X.w) A (call (.builtin "len") [.ref a]) Q E s := by
  obtain ⟨z, hd, vs, rel, dd⟩ := dk_rd I.hok e
  refine call_len_dict hd dd (by rw [← rel.length]; rw [sizeLine_eq] at z; omega) ?_
  rw [← rel.length]
  exact h _ _ (I.tok _)
theorem d_truth {Q : Bool → Shared → Prop} (I : Inv X pins σ H s) (e : Rd H a (.dK kvs)) (h : ∀ s', Inv X pins σ H s' → Q (!kvs.isEmpty) s') : wpAny (model X.prog X.w) A (truthy (.ref a)) Q E s := by
  obtain ⟨z, hd, vs, rel, dd⟩ := dk_rd I.hok e
  refine wpAny_truthy_dict hd dd (by rw [← rel.length]; rw [sizeLine_eq] at z; omega) ?_
  have q : kvs.isEmpty = vs.isEmpty := by cases rel <;> rfl
  rw [← q]
  exact h _ (I.tok _)
end


def NoSl (i : Expr) : Prop := ∀ ov iv, subscripted i false ov iv = operate [ov, iv] (getItem ov iv)
theorem subD_of {prog : Program} {w : World} {A : Around} {E : Value → Shared → Prop} {s : Shared} {env : Env} {value slice : Expr} {pos : Pos} {T id : String} {Q : Value → Shared → Prop}
    (hl : typeLookup (.type T) "__getitem__" = pure (some (.builtin id))) (hs : NoSl slice)
    (h : wpAny (model prog w) A (eval value env) (fun o s₁ => wpAny (model prog w) A (eval slice env) (fun i s₂ => s₂.TypeIs o T ∧ wpAny (model prog w) A (getItem o i) Q E s₂) E s₁) E s) :
    wpAny (model prog w) A (eval (.Subscript value slice pos) env) Q E s := by
  refine Subscript_ (wpAny_mono h (fun o s₁ h₁ => wpAny_mono h₁ (fun i s₂ h₂ => ?_) fun _ _ x => x) fun _ _ x => x)
  obtain ⟨hT, h₂⟩ := h₂
  unfold subscriptTail
  refine wpAny_bind ?_
  rw [getitemInPython_of_ne hT.not_modules]
  refine wpAny_bind (wpAny_specialOf hT hl ?_)
  have fin : wpAny (model prog w) A (subscripted slice false o i) (fun r s₃ => wpAny (model prog w) A (letTemporaryGo value o r >>= fun _ => pure r) Q E s₃) E s₂ := by
    rw [hs o i]
    exact wpAny_operating (wpAny_mono h₂ (fun r s₃ h₃ => wpAny_bind (wpAny_letTemporaryGo (wpAny_pure h₃))) fun _ _ x => x)
  first
    | exact wpAny_pure (wpAny_bind fin)
    | exact wpAny_bind (wpAny_pure (wpAny_bind fin))
    | exact wpAny_bind fin

theorem dict_typeIs {X : Cx} {pins : List (Addr × Obj)} {σ : St} {H : Hp} {s : Shared} {a : Addr} {y : V} {o : Option V} (I : Inv X pins σ H s) (g : DGet H a y o) : s.TypeIs (.ref a) "dict" := by
  rcases g with ⟨kvs, k, e, _, _⟩ | ⟨kvs, k, b, e, _, _, _⟩
  · obtain ⟨_, _, vs, _, dd⟩ := dk_rd I.hok e
    exact dd.typeIs
  · obtain ⟨_, _, xs, _, dd⟩ := dt_rd I.hok e
    exact dd.typeIs
theorem dict_noDict {X : Cx} {pins : List (Addr × Obj)} {σ : St} {H : Hp} {s : Shared} {a : Addr} {y : V} {o : Option V} (I : Inv X pins σ H s) (g : DGet H a y o) :
    ∀ b, Value.ref a = .ref b → ∃ ob, s.heap.get? b = some ob ∧ ob.dict = none := fun b q => by
  cases q
  rcases g with ⟨kvs, k, e, _, _⟩ | ⟨kvs, k, b, e, _, _, _⟩
  · obtain ⟨_, _, vs, _, ob, _, _, h1, h2, _⟩ := dk_rd I.hok e
    exact ⟨ob, h1, h2.2.1⟩
  · obtain ⟨_, _, xs, _, ob, _, _, h1, h2, _⟩ := dt_rd I.hok e
    exact ⟨ob, h1, h2.2.1⟩

def tDGet (td ty : TE) : TE := fun σ H Q => td σ H fun x H1 => ty σ H1 fun y H2 => ∃ a v, x = .ref a ∧ DGet H2 a y (some v) ∧ Q v H2
def tDIn (ty td : TE) : TE := fun σ H Q => ty σ H fun y H1 => td σ H1 fun x H2 => ∃ a o, x = .ref a ∧ DGet H2 a y o ∧ Q (.bl o.isSome) H2
def tDNotIn (ty td : TE) : TE := fun σ H Q => ty σ H fun y H1 => td σ H1 fun x H2 => ∃ a o, x = .ref a ∧ DGet H2 a y o ∧ Q (.bl (!o.isSome)) H2
def sDPut (td ty tv : TE) : TS := fun D σ H => tv σ H fun v H1 => td σ H1 fun x H2 => ty σ H2 fun y H3 => ∃ a H4, x = .ref a ∧ DPut H3 a y v H4 ∧ D.nx σ H4
def sDAug (td ty tv : TE) (rd : V → V → Hp → VK → Prop) : TS := fun D σ H => td σ H fun x H1 => ty σ H1 fun y H2 => ∃ a v, x = .ref a ∧ DGet H2 a y (some v) ∧
  tv σ H2 fun y2 H3 => rd v y2 H3 fun z H4 => ∃ H5, DPut H4 a y z H5 ∧ D.nx σ H5
def sDDel (td ty : TE) : TS := fun D σ H => td σ H fun x H1 => ty σ H1 fun y H2 => ∃ a kvs k, x = .ref a ∧ H2 a = some (.dK kvs) ∧ y = kV k ∧ (valV kvs k).isSome = true ∧ D.nx σ (upd H2 a (.dK (dropK kvs k)))

section
variable {X : Cx} {o i e value : Expr} {pos pos' tpos : Pos} {td ty tv : TE}
theorem pe_dget (hu : X.A.units + 1 < cLine) (ho : PE X o td) (hi : PE X i ty) (hs : NoSl i) : PE X (.Subscript o i pos) (tDGet td ty) := by
  intro pins s σ H Q I h
  refine subD_of PySem.F.slot_dict_getitem.lookup hs (thn (ho pins s σ H _ I h) fun u s1 ⟨x, H1, I1, rx, q1⟩ => thn (hi pins s1 σ H1 _ I1 q1) fun iv s2 ⟨y, H2, I2, ry, a, v, ex, g, q2⟩ => ?_)
  subst ex
  obtain rfl : u = Value.ref a := rx
  exact ⟨dict_typeIs I2 g, d_getItem hu I2 g ry fun w' s3 I3 rw' => ⟨v, H2, I3, rw', q2⟩⟩
theorem pc_din (hu : X.A.units + 1 < cLine) (hi : PE X i ty) (ho : PE X o td) : PC X .In i o (tDIn ty td) := by
  intro pins s σ H Q I h
  refine thn (hi pins s σ H _ I h) fun iv s1 ⟨y, H1, I1, ry, q1⟩ => thn (ho pins s1 σ H1 _ I1 q1) fun u s2 ⟨x, H2, I2, rx, a, ov, ex, g, q2⟩ => ?_
  subst ex
  obtain rfl : u = Value.ref a := rx
  exact d_in hu I2 g ry fun s3 I3 => ⟨.bl ov.isSome, H2, I3, rfl, q2⟩
theorem pc_dnotin (hu : X.A.units + 1 < cLine) (hi : PE X i ty) (ho : PE X o td) : PC X .NotIn i o (tDNotIn ty td) := by
  intro pins s σ H Q I h
  refine thn (hi pins s σ H _ I h) fun iv s1 ⟨y, H1, I1, ry, q1⟩ => thn (ho pins s1 σ H1 _ I1 q1) fun u s2 ⟨x, H2, I2, rx, a, ov, ex, g, q2⟩ => ?_
  subst ex
  obtain rfl : u = Value.ref a := rx
  exact d_notIn hu I2 g ry fun s3 I3 => ⟨.bl (!ov.isSome), H2, I3, rfl, q2⟩
theorem ps_dput (hu : X.A.units + 1 < cLine) (ho : PE X o td) (hi : PE X i ty) (hv : PE X value tv) (hs : swapsWith value (some (.Subscript o i pos')) pos.line X.env = pure false) :
    PS X (.Assign [.Subscript o i pos'] value pos) (sDPut td ty tv) := by
  intro pins s σ H D I h
  refine wpAny_Assign_Subscript (thn (hv pins s σ H _ I h) fun r s1 ⟨v, H1, I1, rv, q1⟩ => thn (ho pins s1 σ H1 _ I1 q1) fun u s2 ⟨x, H2, I2, rx, q2⟩ => thn (hi pins s2 σ H2 _ I2 q2) fun iv s3 ⟨y, H3, I3, ry, a, H4, ex, g, q3⟩ => ?_) hs
  subst ex
  obtain rfl : u = Value.ref a := rx
  exact d_setItem hu I3 g ry rv fun s4 I4 => ⟨σ, H4, I4, q3⟩
theorem ps_daug {op : Operator} {rd : V → V → Hp → VK → Prop} (hu : X.A.units + 1 < cLine) (ho : PE X o td) (hi : PE X i ty) (hv : PE X value tv) (hop : InOp X op rd)
    (ha : ∀ ov iv new, augStore i ov iv new = (do holding [new, ov, iv] (setItem ov iv new); release [new, ov, iv] []; pure .next)) : PS X (.AugAssign (.Subscript o i tpos) op value pos) (sDAug td ty tv rd) := by
  intro pins s σ H D I h
  refine wpAny_AugAssign_SubscriptAny (thn (ho pins s σ H _ I h) fun u s1 ⟨x, H1, I1, rx, q1⟩ => thn (hi pins s1 σ H1 _ I1 q1) fun iv s2 ⟨y, H2, I2, ry, a, v, ex, g, q2⟩ => ?_) ha
  subst ex
  obtain rfl : u = Value.ref a := rx
  refine d_getItem hu I2 g ry fun w' s3 I3 rw' => thn (hv pins s3 σ H2 _ I3 q2) fun w2 s4 ⟨y2, H3, I4, ry2, q3⟩ => thn (hop pins s4 σ H3 v y2 w' w2 _ I4 rw' ry2 q3) fun w3 s5 ⟨z, H4, I5, rz, H5, g5, q4⟩ => ?_
  exact d_setItem hu I5 g5 ry rz fun s6 I6 => ⟨σ, H5, I6, q4⟩
theorem ps_ddel (ho : PE X o td) (hi : PE X i ty) : PS X (.Delete [.Subscript o i tpos] pos) (sDDel td ty) := by
  intro pins s σ H D I h
  refine wpAny_Delete (wpAny_deleteEach_cons (wpAny_delete_Subscript (thn (ho pins s σ H _ I h) fun u s1 ⟨x, H1, I1, rx, q1⟩ => thn (hi pins s1 σ H1 _ I1 q1) fun iv s2 ⟨y, H2, I2, ry, a, kvs, k, ex, e, ey, l, q2⟩ => ?_)))
  subst ex ey
  obtain rfl : u = Value.ref a := rx
  exact d_delItem I2 e ry l fun s3 I3 => wpAny_deleteEach_nil ⟨σ, _, I3, q2⟩
end


theorem dk_empty {P : Program} {w : World} {H : Hp} (h : Heap) (hb : sysModules < h.objs.size) : ObjOk P w H (h.push { cls := .type "dict", data := .dict #[] }) h.objs.size (.dK []) :=
  ⟨Nat.zero_le _, beq_eq_false_iff_ne.mpr (Ne.symm (Nat.ne_of_lt hb)), [], .nil, Heap.DictOf.new h⟩
theorem dt_empty {P : Program} {w : World} {H : Hp} (h : Heap) (hb : sysModules < h.objs.size) : ObjOk P w H (h.push { cls := .type "dict", data := .dict #[] }) h.objs.size (.dT []) :=
  ⟨Nat.zero_le _, beq_eq_false_iff_ne.mpr (Ne.symm (Nat.ne_of_lt hb)), [], .nil, _, #[], 0, Heap.get?_push_size _ rfl, ⟨rfl, rfl, rfl⟩, rfl, rfl, List.nodup_nil⟩
def tDNewK : TE := fun _ H Q => ∀ p, H p = none → Q (.ref p) (upd H p (.dK []))
def tDNewT : TE := fun _ H Q => ∀ p, H p = none → Q (.ref p) (upd H p (.dT []))
section
variable {X : Cx} {pos : Pos}
theorem pe_dnewK : PE X (.Dict [] [] pos) tDNewK := fun pins s σ H Q I h =>
  wpAny_Dict_empty ⟨.ref s.heap.objs.size, _, I.laid (a := s.heap.objs.size) (o := .dK []) (t' := s.toks) (fun _ _ q => Heap.get?_push_of_some _ q) (Nat.le_refl _) (dk_empty s.heap I.big), rfl, h _ (I.hok.fresh (Nat.le_refl _))⟩
theorem pe_dnewT : PE X (.Dict [] [] pos) tDNewT := fun pins s σ H Q I h =>
  wpAny_Dict_empty ⟨.ref s.heap.objs.size, _, I.laid (a := s.heap.objs.size) (o := .dT []) (t' := s.toks) (fun _ _ q => Heap.get?_push_of_some _ q) (Nat.le_refl _) (dt_empty s.heap I.big), rfl, h _ (I.hok.fresh (Nat.le_refl _))⟩
end

def tPairs : List (TE × TE) → St → Hp → (List (V × V) → Hp → Prop) → Prop
  | [], _, H, Q => Q [] H
  | (tk, tv) :: r, σ, H, Q => tk σ H fun x H1 => tv σ H1 fun y H2 => tPairs r σ H2 fun ps H3 => Q ((x, y) :: ps) H3
abbrev VV : List (V × V) → List (Value × Value) → Prop := Paired fun p q => RelV p.1 q.1 ∧ RelV p.2 q.2
def PPs (X : Cx) (pos : Pos) (keys : List (Option Expr)) (values : List Expr) (trs : List (TE × TE)) : Prop :=
  ∀ (pins : List (Addr × Obj)) (s : Shared) (σ : St) (H : Hp) (Q : List (V × V) → Hp → Prop), Inv X pins σ H s → tPairs trs σ H Q →
    wpAny (model X.prog X.w) X.A (evalPairs (pairTrees keys values X.env pos)) (fun vs s' => ∃ ps H', Inv X pins σ H' s' ∧ VV ps vs ∧ Q ps H') X.xe s
theorem pps_nil {X : Cx} {pos : Pos} : PPs X pos [] [] [] := fun pins s σ H Q I h => pairTrees_nil_walk ⟨[], H, I, .nil, h⟩
theorem pps_cons {X : Cx} {pos : Pos} {k v : Expr} {ks : List (Option Expr)} {vs : List Expr} {tk tv : TE} {trs : List (TE × TE)} (hk : PE X k tk) (hv : PE X v tv) (hr : PPs X pos ks vs trs) :
    PPs X pos (some k :: ks) (v :: vs) ((tk, tv) :: trs) := fun pins s σ H Q I h =>
  pairTrees_cons_walk (thn (hk pins s σ H _ I h) fun u s1 ⟨x, H1, I1, rx, q1⟩ => thn (hv pins s1 σ H1 _ I1 q1) fun w2 s2 ⟨y, H2, I2, ry, q2⟩ =>
    thn (hr pins s2 σ H2 _ I2 q2) fun ws s3 ⟨ps, H3, I3, rel, q3⟩ => ⟨(x, y) :: ps, H3, I3, .cons ⟨rx, ry⟩ rel, q3⟩)

def mergeK (kvs more : List (Key × V)) : List (Key × V) := more.foldl (fun acc kv => putK acc kv.1 kv.2) kvs
theorem KV.merge : ∀ {more : List (Key × V)} {rs : List (Key × Value)} {kvs : List (Key × V)} {vs : List (Key × Value)}, KV more rs → KV kvs vs → KV (mergeK kvs more) (merged vs rs) := by
  intro more rs kvs vs r
  unfold KV at r
  induction r generalizing kvs vs with
  | nil => intro q; exact q
  | @cons p q ps qs h t ih =>
    intro r0
    have e : KV (putK kvs p.1 p.2) (stored vs q.1 q.2) := by
      have := r0.put p.1 h.2
      rw [← h.1]; exact this
    exact ih e
theorem length_mergeK : ∀ (more kvs : List (Key × V)), (mergeK kvs more).length ≤ kvs.length + more.length
  | [], kvs => by show kvs.length ≤ kvs.length + 0; omega
  | p :: r, kvs => by
    have h1 := length_mergeK r (putK kvs p.1 p.2)
    have h2 := length_putK kvs p.1 p.2
    show (mergeK (putK kvs p.1 p.2) r).length ≤ _
    rw [List.length_cons]; omega
theorem carries_of {P : Program} {w : World} : ∀ {kvs : List (Key × V)} {ws : List (Value × Value)}, VV (kvs.map fun kv => (kV kv.1, kv.2)) ws → ∃ rs, Carries (mixKind P w) ws rs ∧ KV kvs rs
  | [], _, r => by rw [List.map_nil] at r; cases r; exact ⟨[], True.intro, .nil⟩
  | p :: kvs, _, r => by
    rw [List.map_cons] at r
    cases r with
    | @cons a b as bs h t =>
      obtain ⟨rs, c, q⟩ := carries_of (P := P) (w := w) t
      obtain ⟨b1, b2⟩ := b
      exact ⟨(p.1, b2) :: rs, ⟨kV_is h.1, rfl, c⟩, .cons ⟨rfl, h.2⟩ q⟩
def tDisp (trs : List (TE × TE)) : TE := fun σ H Q => ∀ p, H p = none → tPairs trs σ (upd H p (.dK [])) fun ps H2 => H2 p = some (.dK []) ∧ ∃ kvs : List (Key × V), ps = kvs.map (fun kv => (kV kv.1, kv.2)) ∧ kvs.length ≤ 15 ∧ Q (.ref p) (upd H2 p (.dK (mergeK [] kvs)))
theorem pe_disp {X : Cx} {pos : Pos} {keys : List (Option Expr)} {values : List Expr} {trs : List (TE × TE)} (h : PPs X pos keys values trs) (hall : keys.all (·.isSome) = true) (hl : keys.length = values.length) (h0 : keys ≠ [])
    (h15 : keys.length ≤ 15) : PE X (.Dict keys values pos) (tDisp trs) := by
  intro pins s σ H Q I q
  have hn := I.hok.fresh (Nat.le_refl s.heap.objs.size)
  have I1 := I.laid (a := s.heap.objs.size) (o := .dK []) (h' := s.heap.push { cls := .type "dict", data := .dict #[] }) (t' := s.toks) (fun _ _ q => Heap.get?_push_of_some _ q) (Nat.le_refl _) (dk_empty s.heap I.big)
  refine wpAny_Dict_walk (knd := mixKind X.prog X.w) hall hl h0 h15 (thn (h pins _ σ _ _ I1 (q _ hn)) fun ws s2 ⟨ps, H2, I2, rel, e, kvs, ep, lk, q2⟩ => ?_)
  subst ep
  obtain ⟨rs, c, rk⟩ := carries_of (P := X.prog) (w := X.w) rel
  obtain ⟨z, hd, vs0, r0, dd⟩ := dk_of I2.hok e
  cases r0
  refine ⟨rs, c, dd, fun h' dd' hs => ⟨.ref s.heap.objs.size, _, ?_, rfl, q2⟩⟩
  have hz : (mergeK [] kvs).length ≤ sizeLine := by
    have h1 := length_mergeK kvs []
    rw [List.length_nil] at h1
    rw [sizeLine_eq]; omega
  have he : ∃ q, h'.get? s.heap.objs.size = some q := let ⟨q, _, _, hq, _⟩ := dd'; ⟨q, hq⟩
  exact d_write I2 (by rw [e]; exact True.intro) hs he (dk_new hz hd (rk.merge .nil) dd')


structure M1 (X : Cx) (o : Expr) (m : Str) (apos : Pos) (e : Expr) (cpos : Pos) : Prop where
  base : attributeBase o m X.env (eval o X.env) = eval o X.env
  few : ((backTo cpos (starEach [e] X.env)).all (fun x => !x.1) && (backToKw cpos (keywordEach [] X.env)).all (fun x => x.1.isSome)
    && decide (([e] : List Expr).length + ([] : List Keyword).length + (if ([] : List Keyword).isEmpty then 0 else 1) < 30)) = true
  line : (apos.endLine == cpos.line) = true
  trees : backTo cpos (starEach [e] X.env) = [(false, eval e X.env)]
structure M2 (X : Cx) (o : Expr) (m : Str) (apos : Pos) (e f : Expr) (cpos : Pos) : Prop where
  base : attributeBase o m X.env (eval o X.env) = eval o X.env
  few : ((backTo cpos (starEach [e, f] X.env)).all (fun x => !x.1) && (backToKw cpos (keywordEach [] X.env)).all (fun x => x.1.isSome)
    && decide (([e, f] : List Expr).length + ([] : List Keyword).length + (if ([] : List Keyword).isEmpty then 0 else 1) < 30)) = true
  line : (apos.endLine == cpos.line) = true
  trees : backTo cpos (starEach [e, f] X.env) = [(false, eval e X.env), (false, eval f X.env)]

def IsD (H : Hp) (a : Addr) : Prop := (∃ kvs, Rd H a (.dK kvs)) ∨ ∃ kvs, Rd H a (.dT kvs)
theorem isD_at {X : Cx} {pins : List (Addr × Obj)} {σ : St} {H : Hp} {s : Shared} {a : Addr} (I : Inv X pins σ H s) (d : IsD H a) :
    s.TypeIs (.ref a) "dict" ∧ (∀ b, Value.ref a = .ref b → ∃ ob, s.heap.get? b = some ob ∧ ob.dict = none) ∧ (a == sysModules) = false := by
  rcases d with ⟨kvs, e⟩ | ⟨kvs, e⟩
  · obtain ⟨_, hd, vs, _, dd⟩ := dk_rd I.hok e
    refine ⟨dd.typeIs, fun b q => ?_, hd⟩
    cases q
    obtain ⟨ob, _, _, h1, h2, _⟩ := dd
    exact ⟨ob, h1, h2.2.1⟩
  · obtain ⟨_, hd, xs, _, dd⟩ := dt_rd I.hok e
    refine ⟨dd.typeIs, fun b q => ?_, hd⟩
    cases q
    obtain ⟨ob, _, _, h1, h2, _⟩ := dd
    exact ⟨ob, h1, h2.2.1⟩

section
variable {X : Cx} {pins : List (Addr × Obj)} {σ : St} {H : Hp} {s : Shared} {a : Addr} {y d : V} {u r : Value} {o : Option V} {A : Around} {E : Value → Shared → Prop}
theorem d_get1 {Q : Value → Shared → Prop} (hu : A.units + 1 < cLine) (I : Inv X pins σ H s) (g : DGet H a y o) (ry : RelV y u) (h : ∀ w' s', Inv X pins σ H s' → RelV (o.getD .non) w' → Q w' s') :
    wpAny (model X.prog X.w) A (call (.builtin "dict.get") [.ref a, u]) Q E s := by
  rcases g with ⟨kvs, k, e, ey, l⟩ | ⟨kvs, k, b, e, ey, eb, l⟩
  · subst ey
    obtain ⟨z, hd, vs, rel, dd⟩ := dk_rd I.hok e
    refine call_meetsIn PySem.F.slot_dict_get dd.typeIs PySem.F.entry_dict_get (PySem.F.args_dict_get_2 _ _) (meets_dict_get (mixKind X.prog X.w) a (kV_is ry) hd) ⟨_, dd.mapOf, h _ _ (I.tok _) ?_⟩
    rw [l]
    exact (rel.val k).getD rfl
  · subst ey
    cases (show u = Value.ref b from ry)
    obtain ⟨z, hd, xs, rel, dd⟩ := dt_rd I.hok e
    refine call_meetsIn PySem.F.slot_dict_get dd.typeIs PySem.F.entry_dict_get (PySem.F.args_dict_get_2 _ _) (meetsH_dict_get (tupleKind (mixKind X.prog X.w)) a b hd) ⟨tupleKind_room_in1 hu, k, xs, key_of I.hok eb, dd, h _ _ (I.tok _) ?_⟩
    rw [l]
    exact (rel.val k).getD rfl
theorem d_get2 {Q : Value → Shared → Prop} (hu : A.units + 1 < cLine) (I : Inv X pins σ H s) (g : DGet H a y o) (ry : RelV y u) (rd : RelV d r) (h : ∀ w' s', Inv X pins σ H s' → RelV (o.getD d) w' → Q w' s') :
    wpAny (model X.prog X.w) A (call (.builtin "dict.get") [.ref a, u, r]) Q E s := by
  rcases g with ⟨kvs, k, e, ey, l⟩ | ⟨kvs, k, b, e, ey, eb, l⟩
  · subst ey
    obtain ⟨z, hd, vs, rel, dd⟩ := dk_rd I.hok e
    refine call_meetsIn PySem.F.slot_dict_get dd.typeIs PySem.F.entry_dict_get (PySem.F.args_dict_get_3 _ _ _) (meets_dict_get_default (mixKind X.prog X.w) a (kV_is ry) hd r) ⟨_, dd.mapOf, h _ _ (I.tok _) ?_⟩
    rw [l]
    exact (rel.val k).getD rd
  · subst ey
    cases (show u = Value.ref b from ry)
    obtain ⟨z, hd, xs, rel, dd⟩ := dt_rd I.hok e
    refine call_meetsIn PySem.F.slot_dict_get dd.typeIs PySem.F.entry_dict_get (PySem.F.args_dict_get_3 _ _ _) (meetsH_dict_get_default (tupleKind (mixKind X.prog X.w)) a b hd r) ⟨tupleKind_room_in1 hu, k, xs, key_of I.hok eb, dd, h _ _ (I.tok _) ?_⟩
    rw [l]
    exact (rel.val k).getD rd
end

def tDGet1 (td ty : TE) : TE := fun σ H Q => td σ H fun x H1 => ∃ a, x = .ref a ∧ IsD H1 a ∧ ty σ H1 fun y H2 => ∃ o, DGet H2 a y o ∧ Q (o.getD .non) H2
def tDGet2 (td ty tx : TE) : TE := fun σ H Q => td σ H fun x H1 => ∃ a, x = .ref a ∧ IsD H1 a ∧ ty σ H1 fun y H2 => tx σ H2 fun z H3 => ∃ o, DGet H3 a y o ∧ Q (o.getD z) H3
def tDPop1 (td ty : TE) : TE := fun σ H Q => td σ H fun x H1 => ∃ a, x = .ref a ∧ IsD H1 a ∧ ty σ H1 fun y H2 => ∃ kvs k v, H2 a = some (.dK kvs) ∧ y = kV k ∧ valV kvs k = some v ∧ Q v (upd H2 a (.dK (dropK kvs k)))
def tDPop2 (td ty tx : TE) : TE := fun σ H Q => td σ H fun x H1 => ∃ a, x = .ref a ∧ IsD H1 a ∧ ty σ H1 fun y H2 => tx σ H2 fun z H3 => ∃ kvs k, H3 a = some (.dK kvs) ∧ y = kV k ∧
  (∀ v, valV kvs k = some v → Q v (upd H3 a (.dK (dropK kvs k)))) ∧ (valV kvs k = none → Q z H3)
section
variable {X : Cx} {o e f : Expr} {apos cpos : Pos} {td ty tx : TE}
theorem pe_dget1 (hu : X.A.units + 1 < cLine) (ho : PE X o td) (he : PE X e ty) (m : M1 X o "get" apos e cpos) : PE X (.Call (.Attribute o "get" apos) [e] [] cpos) (tDGet1 td ty) := by
  intro pins s σ H Q I h
  refine wpAny_Call_method m.base m.few m.line PySem.F.plainAttrs_dict PySem.F.slot_dict_get PySem.F.type_dict_get (thn (ho pins s σ H _ I h) fun u s1 ⟨x, H1, I1, rx, a, ex, d, q1⟩ => ?_)
  subst ex
  obtain rfl : u = Value.ref a := rx
  obtain ⟨t1, t2, _⟩ := isD_at I1 d
  refine ⟨t1, t2, ?_⟩
  rw [m.trees]
  refine Calls.callWith_builtin rfl (Calls.evalArgs_plain (Calls.spliced_cons (thn (he pins s1 σ H1 _ I1 q1) fun iv s2 ⟨y, H2, I2, ry, ov, g, q2⟩ => Calls.spliced_nil ?_)))
  exact d_get1 hu I2 g ry fun w' s3 I3 rw' => ⟨_, H2, I3, rw', q2⟩
theorem pe_dget2 (hu : X.A.units + 1 < cLine) (ho : PE X o td) (he : PE X e ty) (hf : PE X f tx) (m : M2 X o "get" apos e f cpos) : PE X (.Call (.Attribute o "get" apos) [e, f] [] cpos) (tDGet2 td ty tx) := by
  intro pins s σ H Q I h
  refine wpAny_Call_method m.base m.few m.line PySem.F.plainAttrs_dict PySem.F.slot_dict_get PySem.F.type_dict_get (thn (ho pins s σ H _ I h) fun u s1 ⟨x, H1, I1, rx, a, ex, d, q1⟩ => ?_)
  subst ex
  obtain rfl : u = Value.ref a := rx
  obtain ⟨t1, t2, _⟩ := isD_at I1 d
  refine ⟨t1, t2, ?_⟩
  rw [m.trees]
  refine Calls.callWith_builtin rfl (Calls.evalArgs_plain (Calls.spliced_cons (thn (he pins s1 σ H1 _ I1 q1) fun iv s2 ⟨y, H2, I2, ry, q2⟩ =>
    Calls.spliced_cons (thn (hf pins s2 σ H2 _ I2 q2) fun fv s3 ⟨z, H3, I3, rz, ov, g, q3⟩ => Calls.spliced_nil ?_))))
  exact d_get2 hu I3 g ry rz fun w' s4 I4 rw' => ⟨_, H3, I4, rw', q3⟩
theorem pe_dpop1 (ho : PE X o td) (he : PE X e ty) (m : M1 X o "pop" apos e cpos) : PE X (.Call (.Attribute o "pop" apos) [e] [] cpos) (tDPop1 td ty) := by
  intro pins s σ H Q I h
  refine wpAny_Call_method m.base m.few m.line PySem.F.plainAttrs_dict PySem.F.slot_dict_pop PySem.F.type_dict_pop (thn (ho pins s σ H _ I h) fun u s1 ⟨x, H1, I1, rx, a, ex, d, q1⟩ => ?_)
  subst ex
  obtain rfl : u = Value.ref a := rx
  obtain ⟨t1, t2, _⟩ := isD_at I1 d
  refine ⟨t1, t2, ?_⟩
  rw [m.trees]
  refine Calls.callWith_builtin rfl (Calls.evalArgs_plain (Calls.spliced_cons (thn (he pins s1 σ H1 _ I1 q1) fun iv s2 ⟨y, H2, I2, ry, kvs, k, v, ea, ey, l, q2⟩ => Calls.spliced_nil ?_)))
  subst ey
  exact d_pop I2 ea ry l (.inl rfl) fun w' s3 I3 rw' => ⟨v, _, I3, rw', q2⟩
theorem pe_dpop2 (ho : PE X o td) (he : PE X e ty) (hf : PE X f tx) (m : M2 X o "pop" apos e f cpos) : PE X (.Call (.Attribute o "pop" apos) [e, f] [] cpos) (tDPop2 td ty tx) := by
  intro pins s σ H Q I h
  refine wpAny_Call_method m.base m.few m.line PySem.F.plainAttrs_dict PySem.F.slot_dict_pop PySem.F.type_dict_pop (thn (ho pins s σ H _ I h) fun u s1 ⟨x, H1, I1, rx, a, ex, d, q1⟩ => ?_)
  subst ex
  obtain rfl : u = Value.ref a := rx
  obtain ⟨t1, t2, _⟩ := isD_at I1 d
  refine ⟨t1, t2, ?_⟩
  rw [m.trees]
  refine Calls.callWith_builtin rfl (Calls.evalArgs_plain (Calls.spliced_cons (thn (he pins s1 σ H1 _ I1 q1) fun iv s2 ⟨y, H2, I2, ry, q2⟩ =>
    Calls.spliced_cons (thn (hf pins s2 σ H2 _ I2 q2) fun fv s3 ⟨z, H3, I3, rz, kvs, k, ea, ey, q3, q4⟩ => Calls.spliced_nil ?_))))
  subst ey
  cases l : valV kvs k with
  | some v => exact d_pop I3 ea ry l (.inr ⟨fv, rfl⟩) fun w' s4 I4 rw' => ⟨v, _, I4, rw', q3 v l⟩
  | none => exact d_popD I3 ea ry l fun s4 I4 => ⟨z, H3, I4, rz, q4 l⟩
end

section
variable {X : Cx} {pins : List (Addr × Obj)} {σ : St} {H : Hp} {s : Shared} {a : Addr} {kvs : List (Key × V)} {A : Around} {E : Value → Shared → Prop}
theorem d_copyOf {Q : Value → Shared → Prop} (I : Inv X pins σ H s) (e : Rd H a (.dK kvs)) (h : ∀ p s', H p = none → Inv X pins σ (upd H p (.dK kvs)) s' → Q (.ref p) s') : wpAny (model X.prog X.w) A (call (.type "dict") [.ref a]) Q E s := by
  obtain ⟨z, hd, vs, rel, dd⟩ := dk_rd I.hok e
  refine kt_call_dict hd dd (by rw [← rel.length]; exact z) fun h' dd' hs => ?_
  refine h _ _ (I.hok.fresh (Nat.le_refl _)) (I.laid (a := s.heap.objs.size) (o := .dK kvs) (t' := s.toks) (fun b q hq => ?_) (Nat.le_refl _) (dk_new z (beq_eq_false_iff_ne.mpr (Ne.symm (Nat.ne_of_lt I.big))) rel dd'))
  exact (hs.2 b (Nat.ne_of_lt (Heap.lt_size hq))).trans (Heap.get?_push_of_some _ hq)
end


section
variable {X : Cx} {pins : List (Addr × Obj)} {σ : St} {H : Hp} {s : Shared} {a : Addr} {y : V} {u : Value} {A : Around} {E : Value → Shared → Prop}
theorem d_missing {Q : Value → Shared → Prop} (hu : A.units + 1 < cLine) (hh : A.handled = none) (I : Inv X pins σ H s) (g : DGet H a y none) (ry : RelV y u)
    (h : ∀ h' e t', Heap.NewExc s.heap h' e "KeyError" → E (.ref e) { s with heap := h', toks := t' }) : wpAny (model X.prog X.w) A (getItem (.ref a) u) Q E s := by
  rcases g with ⟨kvs, k, e, ey, l⟩ | ⟨kvs, k, b, e, ey, eb, l⟩
  · subst ey
    obtain ⟨z, hd, vs, rel, dd⟩ := dk_rd I.hok e
    have hn : valueAt vs k = none := RelO.none_of (by rw [l]; exact rel.val k)
    exact wpAny_getItem_missing_of (kV_is ry) hd hh dd.mapOf hn fun h' ex ne => h h' ex _ ne
  · subst ey
    cases (show u = Value.ref b from ry)
    obtain ⟨z, hd, xs, rel, dd⟩ := dt_rd I.hok e
    have hn : (atKey xs k).map (·.2) = none := RelO.none_of (by rw [l]; exact rel.val k)
    exact wpAny_getItem_missing_heap (tupleKind_room_in1 hu) (key_of I.hok eb) hd hh dd (Option.map_eq_none_iff.mp hn) fun h' ex ne => h h' ex _ ne
end
end L2

namespace Att
open PySem PySem.W PySem.Calls PyProof.Rows

theorem ints_of_wellAll {P : Params} {h : Heap} : ∀ (ns : List Int) (vs : List Value), WellAll P h vs (ns.map WData.int) → IntsAre vs ns := by
  intro ns
  induction ns with
  | nil =>
    intro vs w
    rw [List.map_nil] at w
    cases w
    exact .nil
  | cons n ns ih =>
    intro vs w
    rw [List.map_cons] at w
    cases w with
    | cons a b =>
      cases a
      exact .cons _ _ (ih _ b)

theorem script_of {l : OpenLaw} {n : Nat} (hn : l.most = some n) {P : Params} {h : Heap} {args : List WData} {vals : List Value}
    (hpre : l.row.toRowW.claim.pre args = true) (hwl : WellAll P h vals args) :
    ∃ a vs ns, vals = [Value.ref a] ∧ args = [WData.list (ns.map WData.int)] ∧ h.get? a = some { cls := .type "list", data := .seq vs.toArray } ∧ IntsAre vs ns ∧ ns.length ≤ n := by
  have hsh : WShape.hasAll [] args [.list .int] = true := (pre_splitW hpre).1
  have hc : l.pre.holds [] { args := args } = true := (pre_splitW hpre).2
  obtain ⟨d, r, rfl, h1, h2⟩ := hasAllW_cons hsh
  obtain rfl := hasAllW_nil h2
  obtain ⟨xs, rfl, h3⟩ := hasW_list h1
  obtain ⟨ns, rfl⟩ := items_int h3
  have hlen : ns.length ≤ n := by
    unfold OpenLaw.pre at hc
    have h4 : (WTm.not (.lt (.lit (.int (n : Int))) (.len (.arg 0)))).holds [] { args := [.list (ns.map .int)] } = true := by
      have h4 := (holds_andW hc).1
      rw [hn] at h4
      exact h4
    have h5 := condW_of h4 (w_not (w_lt w_lit (w_len_list (w_arg rfl))))
    rw [List.length_map] at h5
    refine Nat.le_of_not_lt fun q => ?_
    have q' : (n : Int) < ((ns.length : Nat) : Int) := by omega
    first
      | (rw [decide_eq_true q'] at h5; exact absurd h5 (by decide))
      | (simp at h5; omega)
  cases hwl with
  | cons w1 w2 =>
    cases w2
    cases w1 with
    | list ho hall => exact ⟨_, _, ns, rfl, rfl, ho, ints_of_wellAll ns _ hall, hlen⟩

theorem post_true (l : OpenLaw) (args : List WData) : l.row.toRowW.claim.post args (.bool true) args = true :=
  postW_of (r := l.row.toRowW) (X := (true == true))
    (show WShape.has [] (.bool true) .bool = true by first | rfl | decide | simp [WShape.has, WShape.arms, WShape.armsAll])
    (show (WTm.eq .res (.lit (.bool true))).value [] { args := args, res := some (.bool true), after := args } = some (.bool (true == true)) from w_eq_bool (w_res rfl) w_lit) rfl

theorem attach {l : OpenLaw} {n : Nat} {q : Program} {loose : List Str} {XP : (Str → Option Value) → Heap → Prop} {YP : World → Heap → Prop} {d : DefRec} {x : Str}
    (hn : l.most = some n) (hdf : d.params.defaults = [])
    (hbind : ∀ pm cd doc v : Value, bindArgs (docDef d.name d.params d.body d.scope pm cd doc) ⟨[v], []⟩ = pure [(x, v)])
    (hx : d.scope.names.lookup x = some .local ∨ d.scope.names.lookup x = some .cell)
    (hk : d.scope.kind = .function) (hco : d.scope.isCoroutine = false) (hgen : d.scope.isGenerator = false)
    (body : ∀ (w : World) (s₀ s₁ s : Shared) (mg mb : Str → Option Value) (fa : Addr) (o : Obj) (pm cd doc : Value) (a : Addr) (vs : List Value) (ns : List Int),
      Ground q loose [] XP w s₀ mg mb s₁.heap → YP w s₁.heap →
      s₁.heap.get? fa = some o → o.data = .func (docDef d.name d.params d.body d.scope pm cd doc) → s₁.heap.CodeRec cd d.name → mg d.name = some (.ref fa) →
      s₁.heap.get? a = some { cls := .type "list", data := .seq vs.toArray } → IntsAre vs ns → ns.length ≤ n →
      s.gens = #[] → s.os = s₁.os →
      Fr s₁.heap s₁.heap.objs.size s.heap (bindL (envOfC d.name d.scope s₁.heap.objs.size fa cd).kindOf [(x, .ref a)] fun _ => none) →
      Cl s₁.heap.objs.size (cellsFrom (s₁.heap.objs.size + 1) d.scope.names []) s.heap (bindC (envOfC d.name d.scope s₁.heap.objs.size fa cd).kindOf [(x, .ref a)] fun _ => none) →
      wpAny (model l.prog w) (callerA.deeper (envOfC d.name d.scope s₁.heap.objs.size fa cd)) (execs d.body (envOfC d.name d.scope s₁.heap.objs.size fa cd))
        (fun f s' => f = .ret (.bool true) ∧ OldK s₁.heap s'.heap ∧ s'.os = s₁.os ∧ AllBare s'.gens) (fun _ _ => False) s) :
    WalkO q loose XP YP l.row.toRowW d [] (fun f vs => PySem.call f vs) := by
  intro w s₀ s₁ mg mb G Y fa o pm cd doc dV kV ho hd hcd hD hmg hg args vals as hpre hlay hrd hwl hlo
  obtain rfl : dV = .none := Dflts.none hD hdf
  obtain rfl : kV = .none := Dflts.noKw hD
  obtain ⟨a, vs, ns, rfl, rfl, hobj, hints, hlen⟩ := script_of hn hpre hwl
  refine enter_call ?_
  refine call_cells_ret (o := o) (by rw [depth_caller]; decide) ho (fd_plain hd) G.T.nolimit hcd (hbind pm cd doc (.ref a)) (fun y hy => ?_) (fun h₁ tk F X => ?_) hco hgen hk
  · obtain rfl : y = (x, Value.ref a) := List.mem_singleton.mp hy
    rcases hx with e | e
    · exact .inl e
    · exact .inr ⟨e, cellsFrom_some _ _ _ (.inl e)⟩
  · refine wpAny_mono (body w s₀ s₁ { s₁ with heap := h₁, toks := tk } mg mb fa o pm cd doc a vs ns G Y ho (fd_plain hd) hcd hmg hobj hints hlen hg rfl F X) (fun f s' hq => ?_) (fun _ _ hq => hq)
    obtain ⟨rfl, h2, h3, h4⟩ := hq
    exact ⟨.inl ⟨.bool true, .bool true, [], rfl, fun _ => rfl, .bool true, post_true l _, fun _ => ⟨List.Pairwise.nil, fun _ hm => (nomatch hm)⟩⟩, h2, h3, h4⟩

theorem attach_call {l : OpenLaw} {n : Nat} {q : Program} {loose : List Str} {XP : (Str → Option Value) → Heap → Prop} {YP : World → Heap → Prop} {d : DefRec}
    (hn : l.most = some n) (hdf : d.params.defaults = [])
    (call : ∀ (w : World) (s₀ s₁ : Shared) (mg mb : Str → Option Value) (fa : Addr) (o : Obj) (pm cd doc : Value) (a : Addr) (vs : List Value) (ns : List Int),
      Ground q loose [] XP w s₀ mg mb s₁.heap → YP w s₁.heap →
      s₁.heap.get? fa = some o → o.data = .func (docDef d.name d.params d.body d.scope pm cd doc) → s₁.heap.CodeRec cd d.name → mg d.name = some (.ref fa) →
      s₁.heap.get? a = some { cls := .type "list", data := .seq vs.toArray } → IntsAre vs ns → ns.length ≤ n → s₁.gens = #[] →
      codeAny (model l.prog w) callerA (.call (.ref fa) ⟨[.ref a], []⟩) (fun r s' => r = .ok (.ret (.bool true)) ∧ OldK s₁.heap s'.heap ∧ s'.os = s₁.os ∧ AllBare s'.gens) s₁) :
    WalkO q loose XP YP l.row.toRowW d [] (fun f vs => PySem.call f vs) := by
  intro w s₀ s₁ mg mb G Y fa o pm cd doc dV kV ho hd hcd hD hmg hg args vals as hpre hlay hrd hwl hlo
  obtain rfl : dV = .none := Dflts.none hD hdf
  obtain rfl : kV = .none := Dflts.noKw hD
  obtain ⟨a, vs, ns, rfl, rfl, hobj, hints, hlen⟩ := script_of hn hpre hwl
  refine enter_call (codeAny_mono (call w s₀ s₁ mg mb fa o pm cd doc a vs ns G Y ho (fd_plain hd) hcd hmg hobj hints hlen hg) fun r s' hq => ?_)
  obtain ⟨rfl, h2, h3, h4⟩ := hq
  exact ⟨.inl ⟨.bool true, .bool true, [], rfl, fun _ => rfl, .bool true, post_true l _, fun _ => ⟨List.Pairwise.nil, fun _ hm => (nomatch hm)⟩⟩, h2, h3, h4⟩

theorem attachN {l : OpenLaw} {n : Nat} {q : Program} {loose : List Str} {XP : (Str → Option Value) → Heap → Prop} {YP : World → Heap → Prop} {d : DefRec} {x : Str}
    (hn : l.most = some n) (hdf : d.params.defaults = [])
    (hbind : ∀ pm cd doc v : Value, bindArgs (docDef d.name d.params d.body d.scope pm cd doc) ⟨[v], []⟩ = pure [(x, v)])
    (hx : d.scope.names.lookup x = some .local ∨ d.scope.names.lookup x = some .cell)
    (hk : d.scope.kind = .function) (hco : d.scope.isCoroutine = false) (hgen : d.scope.isGenerator = false)
    (body : ∀ (w : World) (s₀ s₁ s : Shared) (mg mb : Str → Option Value) (fa : Addr) (o : Obj) (pm cd doc : Value) (a : Addr) (vs : List Value) (ns : List Int),
      Ground q loose [] XP w s₀ mg mb s₁.heap → YP w s₁.heap →
      s₁.heap.get? fa = some o → o.data = .func (docDef d.name d.params d.body d.scope pm cd doc) → s₁.heap.CodeRec cd d.name → mg d.name = some (.ref fa) →
      s₁.heap.get? a = some { cls := .type "list", data := .seq vs.toArray } → IntsAre vs ns → ns.length ≤ n →
      s.gens = #[] → s.os = s₁.os →
      Fr s₁.heap s₁.heap.objs.size s.heap (bindL (envOfC d.name d.scope s₁.heap.objs.size fa cd).kindOf [(x, .ref a)] fun _ => none) →
      Cl s₁.heap.objs.size (cellsFrom (s₁.heap.objs.size + 1) d.scope.names []) s.heap (bindC (envOfC d.name d.scope s₁.heap.objs.size fa cd).kindOf [(x, .ref a)] fun _ => none) →
      wpAny (model l.prog w) (callerA.deeper (envOfC d.name d.scope s₁.heap.objs.size fa cd)) (execs d.body (envOfC d.name d.scope s₁.heap.objs.size fa cd))
        (fun f s' => f = .ret (.bool true) ∧ (∀ b o, s₁.heap.get? b = some o → s'.heap.get? b = some o) ∧ s'.os = s₁.os ∧ s'.gens = #[]) (fun _ _ => False) s) :
    WalkN q loose XP YP l.row.toRowW d [] (fun f vs => PySem.call f vs) := by
  intro w s₀ s₁ mg mb G Y fa o pm cd doc dV kV ho hd hcd hD hmg hg args vals as hpre hlay hrd hwl hlo
  obtain rfl : dV = .none := Dflts.none hD hdf
  obtain rfl : kV = .none := Dflts.noKw hD
  obtain ⟨a, vs, ns, rfl, rfl, hobj, hints, hlen⟩ := script_of hn hpre hwl
  refine enter_callW ?_
  refine call_cells_ret (o := o) (by rw [depth_caller]; decide) ho (fd_plain hd) G.T.nolimit hcd (hbind pm cd doc (.ref a)) (fun y hy => ?_) (fun h₁ tk F X => ?_) hco hgen hk
  · obtain rfl : y = (x, Value.ref a) := List.mem_singleton.mp hy
    rcases hx with e | e
    · exact .inl e
    · exact .inr ⟨e, cellsFrom_some _ _ _ (.inl e)⟩
  · refine wpAny_mono (body w s₀ s₁ { s₁ with heap := h₁, toks := tk } mg mb fa o pm cd doc a vs ns G Y ho (fd_plain hd) hcd hmg hobj hints hlen hg rfl F X) (fun f s' hq => ?_) (fun _ _ hq => hq)
    obtain ⟨rfl, h2, h3, h4⟩ := hq
    exact ⟨.inl ⟨.bool true, .bool true, [], rfl, fun _ => rfl, .bool true, post_true l _, fun _ => ⟨List.Pairwise.nil, fun _ hm => (nomatch hm)⟩⟩, h2, h3, h4⟩

section
variable {prog : Program} {w : World} {A : Around} {E : Value → Shared → Prop} {s : Shared} {K : Frag}

theorem call_fn {R : Result → Shared → Prop} {name qual : Str} {params : Arguments} {body : List Stmt} {scope : Scope} {dV kV doc pm cdv ct oc : Value} {an od : Option Addr} {osl : Array (Option Value)} {f : Addr} {args : Args} {binds : List (Str × Value)}
    (X : K.In s.heap) (hlim : s.heap.NoLimit) (ho : K.lookup f = some ⟨oc, od, .func (fnOf name qual params body scope dV kV doc pm an cdv ct), osl⟩) (hcd : codeIn K cdv qual = true) (hroom : A.depth < recursionLimit)
    (hbind : BindsTo s (fnOf name qual params body scope dV kV doc pm an cdv ct) args binds)
    (hkind : (binds.all fun y => scope.names.lookup y.1 == some .local || scope.names.lookup y.1 == some .cell) = true)
    (h : ∀ s₁, InCallC s s.heap.objs.size (bindL (envOfC qual scope s.heap.objs.size f cdv).kindOf binds fun _ => none) (cellsFrom (s.heap.objs.size + 1) scope.names [])
        (bindC (envOfC qual scope s.heap.objs.size f cdv).kindOf binds fun _ => none) s₁ →
      wpAny (model prog w) (A.deeper (envOfC qual scope s.heap.objs.size f cdv)) (execs body (envOfC qual scope s.heap.objs.size f cdv))
        (fun fl s' => R (.ok (.ret (match fl with | .ret v => v | _ => .none))) s')
        (fun e s' => wpAny (model prog w) (A.deeper (envOfC qual scope s.heap.objs.size f cdv)) (leaving (envOfC qual scope s.heap.objs.size f cdv) e) (fun _ s'' => R (.error e) s'') (fun e' s'' => R (.error e') s'') s') s₁)
    (hco : scope.isCoroutine = false) (hgen : scope.isGenerator = false) (hk : scope.kind = .function) : codeAny (model prog w) A (.call (.ref f) args) R s := by
  refine codeAny_call_function hroom (X _ _ ho) rfl hco hgen rfl (codeRec_of X hcd) (hbind _ _ _ _ ?_)
  refine wpAny_newFunctionEnv_cells hk (kindsX hkind _) fun env he s₁ x => ?_
  subst he
  exact ⟨hlim.keeps x.toInCall.keep, codeAny_func (h s₁ x)⟩

theorem make_obj {R : Result → Shared → Prop} {C fI : Addr} {rest : List Value} {kw : List (Str × Value)}
    (X : K.In s.heap) (hm : makesIn K C = true) (hi : findIn K (.ref C) "__init__" = some (some (.ref fI))) (hf : isFn K (.ref fI) = true)
    (h : codeAny (model prog w) (A.under (.builtin "type.__call__" ⟨.ref C :: rest, kw⟩)) (.call (.ref fI) ⟨.ref (s.heap.objs.size + 1) :: rest, kw⟩) (InitBack (s.heap.objs.size + 1) R)
      { s with heap := (s.heap.push emptyDict).push (instObj C s.heap.objs.size) }) : codeAny (model prog w) A (.call (.ref C) ⟨rest, kw⟩) R s := by
  obtain ⟨hh, g, d, t, os⟩ := s
  exact make_core (makes_of X hm) (looks_findIn X hi) (fun self => bind_fn X self (beq_iff_eq.mp hf)) (.inl rfl) h

theorem get_field {x C : Addr} {ox : Obj} {es : List DictEntry} {n : Nat} {name : Str} {expr : Bool} {v : Value} {Q : Value → Shared → Prop}
    (X : K.In s.heap) (I : PySem.W.InstAt s.heap x ox C (some (dictOf es n))) (hg : plainGet K C name = true) (hh : hasDictIn K C = true) (ha : findIn K (.ref C) name = some none)
    (hl : getL name es = some (some v)) (hv : handedIn v = true) (h : Q v { s with toks := s.toks + 1 }) : wpAny (model prog w) A (getAttr (.ref x) name expr) Q E s :=
  get_value X I (plainGet_of hg).1 (findObj_own hh ha rfl hl) hv h

theorem get_method {x C f : Addr} {ox : Obj} {es : List DictEntry} {n : Nat} {name : Str} {pl : Sem Bool} {Q : Value × List Value → Shared → Prop}
    (X : K.In s.heap) (I : PySem.W.InstAt s.heap x ox C (some (dictOf es n))) (hg : plainGet K C name = true) (hf : findIn K (.ref C) name = some (some (.ref f))) (ht : isFn K (.ref f) = true)
    (hl : getL name es = some none) (h : Q (.ref f, [.ref x]) s) : wpAny (model prog w) A (getMethod (.ref x) name pl) Q E s :=
  method_fn X I (plainGet_of hg).1 (plainGet_of hg).2 hf (beq_iff_eq.mp ht) (by show (lookIn name (dictOf es n)).map _ = _; rw [lookIn_dict, hl]; rfl) h

def noObjs (h : Heap) : Heap := { h with objs := #[] }
theorem noObjs_get (h : Heap) (b : Addr) : (noObjs h).get? b = none := by
  cases e : (noObjs h).get? b with
  | none => rfl
  | some o => exact absurd (Heap.lt_size e) (Nat.not_lt_zero _)
def ledger (h : Heap) (L d : Addr) : List (Addr × Obj) := (List.range h.objs.size).filterMap fun a => if a = L ∨ a = d then none else (h.get? a).map fun o => (a, o)
theorem mem_ledger {h : Heap} {L d a : Addr} {o : Obj} : (a, o) ∈ ledger h L d ↔ a ≠ L ∧ a ≠ d ∧ h.get? a = some o := by
  unfold ledger
  rw [List.mem_filterMap]
  constructor
  · rintro ⟨b, _, e⟩
    split at e
    · cases e
    · rename_i hb
      obtain ⟨o', ho, e'⟩ := Option.map_eq_some_iff.mp e
      cases e'
      exact ⟨fun q => hb (.inl q), fun q => hb (.inr q), ho⟩
  · rintro ⟨n1, n2, ho⟩
    refine ⟨a, List.mem_range.mpr (Heap.lt_size ho), ?_⟩
    rw [if_neg (show ¬ (a = L ∨ a = d) from fun q => q.elim n1 n2), ho] <;> rfl
theorem news_ledger {h : Heap} {L d : Addr} {od : Obj} (hne : d ≠ L) (ho : h.get? d = some od) : News (noObjs h) L h ([] ++ (d, od) :: ledger h L d) := by
  rintro ⟨a, o⟩ hp
  rcases List.mem_cons.mp hp with e | hp
  · cases e
    exact ⟨ho, hne, noObjs_get _ _⟩
  · obtain ⟨n1, n2, e⟩ := mem_ledger.mp hp
    exact ⟨e, n1, noObjs_get _ _⟩
theorem fr_all {h : Heap} {L : Addr} {m : Str → Option Value} (n : h.Ns L m) : Fr (noObjs h) L h m :=
  ⟨n, fun b o e => (by rw [noObjs_get] at e; cases e), Nat.zero_le _⟩
theorem upd_ledger {h : Heap} {L d : Addr} {o o' : Obj} : Upd d o o' ((d, o) :: ledger h L d) ((d, o') :: ledger h L d) :=
  .head fun ⟨_, _⟩ hp => (mem_ledger.mp hp).2.1

theorem set_field {x C dx L : Addr} {ox : Obj} {m : Str → Option Value} {es es' : List DictEntry} {n n' : Nat} {name : Str} {v : Value} {Q : Unit → Shared → Prop}
    (X : K.In s.heap) (I : PySem.W.InstAt s.heap x ox C (some (dictOf es n))) (hd : ox.dict = some dx) (hL : s.heap.Ns L m) (hne : dx ≠ L)
    (hs : findIn K (.ref C) "__setattr__" = some (some (.builtin "object.__setattr__"))) (hp : plainOver K C = true) (ht : takerIn K C name = some none) (hh : hasDictIn K C = true) (hl : (getL name es).isSome = true)
    (e : (putL name (PyData.keyHash w.params name) (.str name (s.toks + 1)) v es, putN name es n) = (es', n')) (hz : es'.length ≤ 1000)
    (h : ∀ h' : Heap, h'.Ns L m → h'.get? dx = some (dictOf es' n') → (∀ b o, b ≠ dx → b ≠ L → s.heap.get? b = some o → h'.get? b = some o) → Q () { s with heap := h', toks := s.toks + 2 }) :
    wpAny (model prog w) A (setAttr (.ref x) name v) Q E s := by
  obtain ⟨e1, e2⟩ := Prod.mk.inj e
  have hdx : s.heap.get? dx = some (dictOf es n) := by
    have := I.dict
    rw [hd] at this
    exact this
  refine set_plain X I hs (osa_dict (s := { s with toks := s.toks + 1 }) (h₀ := noObjs s.heap) (L := L) (m := m) (od := dictOf es n) (od' := dictOf es' n') (es := es') (n := n') (pre := []) (post := ledger s.heap L dx)
    (fr_all hL) (news_ledger hne hdx) X I hd hp ht hh hl (fun _ q => nomatch q) (fun ⟨_, _⟩ q => (mem_ledger.mp q).2.1) (by rw [putName_dict, e1, e2]) rfl hz fun h' F' N' => ?_)
  exact h h' F'.ns (N'.get (List.Mem.head _)) fun b o n1 n2 ho => N'.get (List.Mem.tail _ (mem_ledger.mpr ⟨n2, n1, ho⟩))
end
end Att

namespace L2
open PySem PySem.Spec PyProof.Rows

theorem vals_ints : ∀ {vs : List Value} {ns : List Int}, IntsAre vs ns → Vals (ns.map V.int) vs
  | _, _, .nil => .nil
  | _, _, .cons n t h => .cons ⟨t, rfl⟩ (vals_ints h)

def Only (H : Hp) : Prop := ∀ b, H b = none ∨ ∃ o xs, H b = some (.frz o (.lst xs))

theorem law_call {P : Program} {w : World} {K : PySem.W.Frag} {mg mb : Str → Option Value} {CX : CXT} {k : Nat} {fa a : Addr} {fd : FuncData} {x : Str} {sp : Sp} {s₁ : Shared} {vs : List Value} {ns : List Int}
    (KX : K.In s₁.heap) (hns : s₁.heap.Ns mainGlobals mg) (hb : s₁.heap.Ns builtinsNs mb) (hbb : ∀ x : Str, x ≠ "__name__" → mb x = bootBuiltins x) (hlim : s₁.heap.NoLimit) (hg : s₁.gens = #[])
    (ha : s₁.heap.get? a = some { cls := .type "list", data := .seq vs.toArray }) (hi : IntsAre vs ns) (hl : ns.length ≤ sizeLine) (hr : Room k callerA)
    (F : ∀ base : Heap, K.In base → base.Ns mainGlobals mg → FnOk P w K mg base CX k fa fd [x] sp) (hbind : ∀ (s : Shared) (u : Value), BindsTo s fd ⟨[u], []⟩ [(x, u)])
    (hsp : ∀ H : Hp, Only H → SqL K H a (ns.map V.int) → sp [.ref a] H (fun v _ => v = .bl true) fun _ _ _ => False)
    (hCX : ∀ H e s', CX [] H s₁ (fun _ _ _ => False) e s' → False) :
    codeAny (model P w) callerA (.call (.ref fa) ⟨[.ref a], []⟩) (fun r s' => r = .ok (.ret (.bool true)) ∧ OldK s₁.heap s'.heap ∧ s'.os = s₁.os ∧ AllBare s'.gens) s₁ := by
  have rv := vals_ints hi
  have lenV := hi.length
  -- from an abstract heap in which nothing but the script may be tracked
  have core : ∀ H : Hp, Only H → SqL K H a (ns.map V.int) → HOk P w H s₁.heap → (∀ b, H b ≠ none → b = a) → (H a ≠ none → K.lookup a = none) →
      codeAny (model P w) callerA (.call (.ref fa) ⟨[.ref a], []⟩) (fun r s' => r = .ok (.ret (.bool true)) ∧ OldK s₁.heap s'.heap ∧ s'.os = s₁.os ∧ AllBare s'.gens) s₁ := by
    intro H hO hS hok hA hK
    have base_of : ∀ {b : Addr} {o : Obj}, s₁.heap.get? b = some o → H b = none → (hidT s₁.heap H).get? b = some o := fun e n => hidT_get e n
    have noA : ∀ {b : Addr} {o : Obj} {es : Array DictEntry} {ep : Nat}, s₁.heap.get? b = some o → o.data = .dict es ep → H b = none := fun {b o es ep} e d => by
      cases q : H b with
      | none => rfl
      | some u =>
        have e' : b = a := hA b (by rw [q]; simp)
        subst e'
        rw [ha] at e; cases e
        have d' : Data.seq vs.toArray _ = Data.dict es ep := d
        cases d'
    have nsK : ∀ {b : Addr} {m : Str → Option Value}, s₁.heap.Ns b m → (hidT s₁.heap H).Ns b m := fun {b m} ⟨o, es, ep, e, d, r⟩ => ⟨o, es, ep, base_of e (noA e d), d, r⟩
    have hKb : K.In (hidT s₁.heap H) := fun b o e => base_of (KX b o e) (by
      cases q : H b with
      | none => rfl
      | some u =>
        have e' : b = a := hA b (by rw [q]; simp)
        subst e'
        rw [hK (by rw [q]; simp)] at e; cases e)
    have hM : Mod K mg (hidT s₁.heap H) := ⟨hKb, nsK hns, ⟨mb, nsK hb, hbb⟩, let ⟨mc, h1, h2⟩ := hlim; ⟨mc, nsK h1, h2⟩⟩
    have e0 : Env0 P w K mg (hidT s₁.heap H) callerA [] s₁ H := ⟨rfl, hM, fun b o e => of_hidT e, Nat.le_of_eq (hidT_size _ _), trivial, fun b hb => absurd (show b ∈ ([] : List Addr) from hb) (by simp), hok, .of_eq hg⟩
    refine codeAny_mono ((F _ hKb (nsK hns)).run callerA [] s₁ H ⟨[.ref a], []⟩ [.ref a] [.ref a] _ _ hr e0 (hbind s₁ (.ref a)) (.cons rfl .nil) (hsp H hO hS)) fun r s' h => ?_
    cases r with
    | error e => exact (hCX H e s' h).elim
    | ok fl =>
      cases fl with
      | next => exact False.elim h
      | brk => exact False.elim h
      | cont => exact False.elim h
      | ret u =>
        obtain ⟨v, H', os, bare, un, hok', r', q⟩ := h
        have q' : v = .bl true := q
        subst q'
        obtain rfl : u = Value.bool true := r'
        refine ⟨rfl, OldK.of_keep fun b o e => ?_, os, bare⟩
        cases q : H b with
        | none => exact un.keep b o e q (by intro z; exact absurd (show b ∈ ([] : List Addr) from z) (by simp)) (by simp)
        | some u =>
          rcases hO b with z | ⟨ob, xs, z⟩
          · rw [q] at z; cases z
          · have z2 := un.frzs b ob _ z
            obtain ⟨e1, _⟩ := hok b _ z
            obtain ⟨e2, _⟩ := hok' b _ z2
            rw [e] at e1; cases e1
            exact e2
  cases hk : K.lookup a with
  | some o =>
    -- the script is one of the module's own objects
    have e := KX a o hk
    rw [ha] at e
    cases e
    refine core (fun _ => none) (fun _ => .inl rfl) (.inr ⟨_, vs.toArray, _, hk, rfl, rfl, rfl, by rw [List.size_toArray, lenV]; exact hl, by simpa using rv⟩) (fun b u z => by have z' : (none : Option HO) = some u := z; cases z') (fun b z => absurd rfl z) fun z => absurd rfl z
  | none =>
    refine core (fun b => if b = a then some (.frz { cls := .type "list", data := .seq vs.toArray } (.lst (ns.map V.int))) else none) (fun b => ?_) (.inl (.inr ⟨{ cls := .type "list", data := .seq vs.toArray }, if_pos rfl⟩)) (fun b u z => ?_) (fun b z => ?_) fun _ => hk
    · by_cases hb : b = a
      · exact .inr ⟨_, _, if_pos hb⟩
      · exact .inl (if_neg hb)
    · by_cases hb : b = a
      · have z' := (if_pos hb).symm.trans z
        cases z'
        subst hb
        exact ⟨ha, by rw [List.length_map]; exact hl, vs, _, rv, ha⟩
      · have z' := (if_neg hb).symm.trans z
        cases z'
    · by_cases hb : b = a
      · exact hb
      · exact absurd (if_neg hb) z
end L2

namespace L2
open PySem PySem.Spec PyProof.Rows

abbrev KOf {K : PySem.W.Frag} {h : Heap} (_ : K.In h) : PySem.W.Frag := K

theorem walk_of {l : PySem.W.OpenLaw} {n k : Nat} {q : Program} {loose : List Str} {XP : (Str → Option Value) → Heap → Prop} {YP : World → Heap → Prop} {d : DefRec} {K : Params → PySem.W.Frag} {CX : World → CXT} {sp : World → Sp} {x : Str}
    (hn : l.most = some n) (hn2 : n ≤ sizeLine) (hdf : d.params.defaults = []) (hr : Room k callerA)
    (hY : ∀ (w : World) (h : Heap), YP w h → (K w.params).In h)
    (F : ∀ (w : World) (mg : Str → Option Value) (fa : Addr) (h : Heap), (K w.params).In h → h.Ns mainGlobals mg → mg d.name = some (.ref fa) →
      ∃ fd : FuncData, (∀ (s : Shared) (u : Value), BindsTo s fd ⟨[u], []⟩ [(x, u)]) ∧
        ∀ base : Heap, (K w.params).In base → base.Ns mainGlobals mg → FnOk l.prog w (K w.params) mg base (CX w) k fa fd [x] (sp w))
    (hsp : ∀ (w : World) (H : Hp) (a : Addr) (ns : List Int), ns.length ≤ n → Only H → SqL (K w.params) H a (ns.map V.int) → sp w [.ref a] H (fun v _ => v = .bl true) fun _ _ _ => False)
    (hCX : ∀ (w : World) (H : Hp) (s : Shared) (e : Value) (s' : Shared), CX w [] H s (fun _ _ _ => False) e s' → False) :
    PySem.W.WalkO q loose XP YP l.row.toRowW d [] (fun f vs => PySem.call f vs) := by
  refine Att.attach_call hn hdf fun w s₀ s₁ mg mb fa o pm cd doc a vs ns G Y ho hd hcd hmg hobj hints hlen hg => ?_
  have KX := hY w _ Y
  obtain ⟨fd, hb, hF⟩ := F w mg fa _ KX G.T.g hmg
  exact law_call KX G.T.g G.T.b G.T.builtins G.T.nolimit hg hobj hints (Nat.le_trans hlen hn2) hr hF hb (fun H hO hS => hsp w H a ns hlen hO hS) fun H e s' => hCX w H s₁ e s'
theorem walk_ofK {l : PySem.W.OpenLaw} {n k : Nat} {q : Program} {loose : List Str} {XP : (Str → Option Value) → Heap → Prop} {YP : World → Heap → Prop} {d : DefRec} {K : Params → PySem.W.Frag} {CX : CXT} {sp : PySem.W.Frag → Sp} {x : Str}
    (hn : l.most = some n) (hn2 : n ≤ sizeLine) (hdf : d.params.defaults = []) (hr : Room k callerA)
    (hY : ∀ (w : World) (h : Heap), YP w h → (K w.params).In h)
    (F : ∀ (w : World) (mg : Str → Option Value) (fa : Addr) (h : Heap), (K w.params).In h → h.Ns mainGlobals mg → mg d.name = some (.ref fa) →
      ∃ fd : FuncData, (∀ (s : Shared) (u : Value), BindsTo s fd ⟨[u], []⟩ [(x, u)]) ∧
        ∀ base : Heap, (K w.params).In base → base.Ns mainGlobals mg → FnOk l.prog w (K w.params) mg base CX k fa fd [x] (sp (K w.params)))
    (hsp : ∀ (K : PySem.W.Frag) (H : Hp) (a : Addr) (ns : List Int), ns.length ≤ n → Only H → SqL K H a (ns.map V.int) → sp K [.ref a] H (fun v _ => v = .bl true) fun _ _ _ => False)
    (hCX : ∀ (H : Hp) (s : Shared) (e : Value) (s' : Shared), CX [] H s (fun _ _ _ => False) e s' → False) :
    PySem.W.WalkO q loose XP YP l.row.toRowW d [] (fun f vs => PySem.call f vs) :=
  walk_of (K := K) (CX := fun _ => CX) (sp := fun w => sp (K w.params)) hn hn2 hdf hr hY F (fun w H a ns h1 h2 h3 => hsp (K w.params) H a ns h1 h2 h3) fun _ H s e s' => hCX H s e s'
end L2

/- THE LAST THEOREM (shape; LID, My.* are yours):
   My.Adr: a structure of the addresses that your layer names (classes, functions); My.Txt K t: a structure (Prop) of the equations over K;
   My.txt_mk : {K} {implicit addresses ..} (e1 : nsIn K mainGlobals "law" = some (some (.ref f))) (e2 : K.lookup f = some ⟨oc, od, .func (fnOf "law" "law" params body scope dV kV doc pm an cdv ct), sl⟩) (e3 : codeIn K cdv "law" = true) .. : ∃ t, My.Txt K t

set_option maxRecDepth 100000 in
set_option maxHeartbeats 0 in
theorem PySem.Challenge.cw_LID_holds : PySem.Challenge.rw_LID.Holds := by
  w_on; o_law; k_head; (case hw => w_witness2)
  k_fill
  refine L2.walk_of (l := PySem.Challenge.rw_LID) (n := 63) (k := 40) (x := "script") (CX := fun w => ..) (sp := fun _ => My.sp_law) rfl (by decide) rfl ⟨rfl, by decide, by decide⟩ (fun w h Y => PySem.W.kIn_of Y) ?F ?S ?C
  case F =>
    intro w mg fa h KX G hmg
    have T : ∃ t, My.Txt (L2.KOf KX) t := by
      dsimp only [L2.KOf]                          -- K must stand as «<heap const> w.params» for k_is
      refine' My.txt_mk ?e1 ?e2 ?e3 ..
      (case e1 => PySem.W.k_is)                    -- in the order: a name -> its address -> its object -> its parts
      (case e2 => PySem.W.k_is)
      ..
    obtain ⟨t, T⟩ := T
    have e0 := hmg.symm.trans (PySem.W.mg_of KX G T.law)
    cases e0                                       -- fa is the law's own address
    exact ⟨_, fun s u => .of_eq rfl, fun base kb nb => My.law_fn T kb nb⟩     -- if «.of_eq rfl» comes too early: refine' ⟨_, ?b, fun base kb nb => My.law_fn T kb nb⟩; exact fun s u => .of_eq rfl
  case S => exact fun w H a ns hl hO hS => ..
  case C => exact ..
(the tactic k_is has no namespace: write k_is) -/

namespace L2
open PySem PySem.Spec PyProof.Rows

def inClass (s : Stmt) (j : Nat) : Stmt := match s with
  | .ClassDef _ _ _ body _ _ _ _ _ _ _ => body.getD j (.Pass ⟨0, 0, 0, 0⟩)
  | _ => .Pass ⟨0, 0, 0, 0⟩
def defArgs (s : Stmt) : Arguments := match s with
  | .FunctionDef _ a _ _ _ _ _ _ _ _ => a
  | _ => { posonlyargs := [], args := [], vararg := none, kwonlyargs := [], kw_defaults := [], kwarg := none, defaults := [] }
def defBody (s : Stmt) : List Stmt := match s with
  | .FunctionDef _ _ b _ _ _ _ _ _ _ => b
  | _ => []
def defScope (s : Stmt) : Scope := match s with
  | .FunctionDef _ _ _ _ _ _ sc _ _ _ => sc
  | _ => { kind := .function, names := [], isGenerator := false, isCoroutine := false }

abbrev CX0 : CXT := fun _ _ _ _ _ _ => False
abbrev E0 : XK := fun _ _ _ => False
theorem pass0 {X : Cx} : Passes CX0 X E0 := fun _ _ _ _ _ _ _ h => h.elim

structure Fun (K : PySem.W.Frag) (x qual : Str) (st : Stmt) (f : Addr) (fd : FuncData) : Prop where
  ex : ∃ (oc : Value) (od : Option Addr) (kV doc pm : Value) (an : Option Addr) (cdv ct : Value) (osl : Array (Option Value)),
    fd = PySem.W.fnOf x qual (defArgs st) (defBody st) (defScope st) .none kV doc pm an cdv ct ∧ K.lookup f = some ⟨oc, od, .func fd, osl⟩ ∧ PySem.W.codeIn K cdv qual = true
  kp : PySem.W.keepIn K (.ref f) = true
section
variable {P : Program} {w : World} {K : PySem.W.Frag} {mg : Str → Option Value} {base : Heap}
theorem Fun.ok {x qual : Str} {st : Stmt} {f : Addr} {fd : FuncData} {N ps : List Str} {k : Nat} {sp : Sp} (F : Fun K x qual st f fd) (S : FnScope N ps (defScope st)) (len : ∀ vs H Q E, sp vs H Q E → vs.length = ps.length)
    (hbody : ∀ (cdv : Value) (A : Around) (outer : List Env) (s : Shared) (H : Hp) (vs : List V) (Q : VK) (E : XK), Room k (A.deeper (envOfC qual (defScope st) s.heap.objs.size f cdv)) → sp vs H Q E →
      ∃ t, PSs (cxOf CX0 P w K mg base N qual (defScope st) f cdv A outer s H E).nox (defBody st) t ∧ t { nx := fun _ H' => Q .non H', rt := Q } (start N vs) H) : FnOk P w K mg base CX0 (k + 1) f fd ps sp := by
  obtain ⟨oc, od, kV, doc, pm, an, cdv, ct, osl, rfl, lk, hcd⟩ := F.ex
  refine fn_of lk hcd S len fun A outer s H vs Q E hr hsp => ?_
  obtain ⟨t, h, q⟩ := hbody cdv A outer s H vs Q E hr hsp
  exact ⟨t, h.nox, q⟩
theorem Fun.binds {x qual : Str} {st : Stmt} {f : Addr} {fd : FuncData} {ps : List Str} (F : Fun K x qual st f fd)
    (h : ∀ (kV doc pm : Value) (an : Option Addr) (cdv ct : Value) (us : List Value), us.length = ps.length → bindArgs (PySem.W.fnOf x qual (defArgs st) (defBody st) (defScope st) .none kV doc pm an cdv ct) ⟨us, []⟩ = pure (ps.zip us)) : Binds K fd ps [] := by
  obtain ⟨oc, od, kV, doc, pm, an, cdv, ct, osl, rfl, lk, hcd⟩ := F.ex
  exact .all (h kV doc pm an cdv ct)
theorem fun_mk {x qual : Str} {st : Stmt} {f : Addr} {oc : Value} {od an : Option Addr} {osl : Array (Option Value)} {kV doc pm cdv ct : Value} (l : K.lookup f = some ⟨oc, od, .func (PySem.W.fnOf x qual (defArgs st) (defBody st) (defScope st) .none kV doc pm an cdv ct), osl⟩)
    (c : PySem.W.codeIn K cdv qual = true) (k : PySem.W.keepIn K (.ref f) = true) : Fun K x qual st f (PySem.W.fnOf x qual (defArgs st) (defBody st) (defScope st) .none kV doc pm an cdv ct) := ⟨⟨oc, od, kV, doc, pm, an, cdv, ct, osl, rfl, l, c⟩, k⟩
end
theorem hu_of {A : Around} {k : Nat} (hr : Room k A) : A.units + 1 < cLine := Nat.lt_of_le_of_lt (Nat.add_le_add_left (by decide : 1 ≤ 64) _) hr.units
theorem small1000 {n : Nat} (h : n ≤ 1000) : n < sizeLine := Nat.lt_of_le_of_lt h (by decide)

section
variable {X : Cx}
theorem pv (i : Nat) {x : Str} {pos : Pos} (hN : X.N[i]? = some x := by rfl) (hv : Vis X.env.scope x := by first | exact Or.inl rfl | exact Or.inr (Or.inl rfl) | exact Or.inr (Or.inr rfl)) (hd : (x == ("__debug__" : Str)) = false := by decide)
    (hcd : (x == ("__classdict__" : Str)) = false := by decide) : PE X (.Name x pos) (tVar i) := pe_var hN hv hd hcd
theorem call_lenD : CallR X (.builtin "len") (fun xs H Q => ∃ a kvs, xs = [V.ref a] ∧ H a = some (.dK kvs) ∧ Q (.int kvs.length) H) := by
  intro pins s σ H xs us Q I r h
  obtain ⟨a, kvs, rfl, ha, q⟩ := h
  obtain ⟨u, rfl, ru⟩ := vals1 r
  cases ru
  exact d_len I (.inl ha) fun t s' I' => ⟨.int kvs.length, H, I', ⟨t, rfl⟩, q⟩
end

theorem iteF {A B : Prop} (h : B) : if false = true then A else B := by
  rw [if_neg Bool.false_ne_true]
  exact h
theorem iteT {A B : Prop} (h : A) : if true = true then A else B := by
  rw [if_pos rfl]
  exact h
theorem ite2 {c A B : Prop} [Decidable c] (h1 : c → A) (h2 : ¬ c → B) : if c then A else B := by
  by_cases h : c
  · rw [if_pos h]
    exact h1 h
  · rw [if_neg h]
    exact h2 h
theorem iteNS {c A B : Prop} [Decidable c] (hc : c) (h : B) : if (!decide c) = true then A else B := by
  rw [decide_eq_true hc]
  exact iteF h

def Same (H H' : Hp) : Prop := ∀ b o, H b = some o → H' b = some o
theorem Same.refl (H : Hp) : Same H H := fun _ _ h => h
theorem Same.trans {H H1 H2 : Hp} (a : Same H H1) (b : Same H1 H2) : Same H H2 := fun c o h => b c o (a c o h)
theorem Same.free {H H' : Hp} (e : Same H H') {l : Addr} (h : H' l = Option.none) : H l = Option.none := by
  cases q : H l with
  | none => rfl
  | some o =>
    rw [e l o q] at h
    cases h
theorem Same.seq {K : PySem.W.Frag} {H H' : Hp} {a : Addr} {xs : List V} (e : Same H H') (h : SqL K H a xs) : SqL K H' a xs := by
  rcases h with (h | ⟨o, h⟩) | h
  · exact .inl (.inl (e _ _ h))
  · exact .inl (.inr ⟨o, e _ _ h⟩)
  · exact .inr h

section
variable {κ : Type} [DecidableEq κ]
theorem valV_not {kvs : List (κ × V)} {k : κ} (h : valV kvs k = none) : ¬ k ∈ kvs.map (·.1) := by
  intro m
  obtain ⟨p, hp, e⟩ := List.mem_map.mp m
  have q : (kvs.any fun kv => decide (kv.1 = k)) = true := List.any_eq_true.mpr ⟨p, hp, decide_eq_true e⟩
  rw [valV_any, h] at q
  exact absurd q (by simp)
theorem valV_in {kvs : List (κ × V)} {k : κ} {v : V} (h : valV kvs k = some v) : k ∈ kvs.map (·.1) := by
  have q : (kvs.any fun kv => decide (kv.1 = k)) = true := by
    rw [valV_any, h]
    all_goals rfl
  obtain ⟨p, hp, e⟩ := List.any_eq_true.mp q
  exact List.mem_map.mpr ⟨p, hp, of_decide_eq_true e⟩
theorem nd_snoc : ∀ {l : List κ} {k : κ}, l.Nodup → ¬ k ∈ l → (l ++ [k]).Nodup
  | [], k, _, _ => by simp
  | a :: r, k, h, hk => by
    obtain ⟨h1, h2⟩ := List.nodup_cons.mp h
    show (a :: (r ++ [k])).Nodup
    refine List.nodup_cons.mpr ⟨fun m => ?_, nd_snoc h2 fun m => hk (List.mem_cons.mpr (Or.inr m))⟩
    rcases List.mem_append.mp m with q | q
    · exact h1 q
    · exact hk (List.mem_cons.mpr (Or.inl (List.mem_singleton.mp q).symm))
theorem nd_putK {kvs : List (κ × V)} {k : κ} (v : V) (hn : (kvs.map (·.1)).Nodup) (h : valV kvs k = none) : ((putK kvs k v).map (·.1)).Nodup := by
  rw [putK_new v h, List.map_append]
  exact nd_snoc hn (valV_not h)
theorem dropK_pos {p : κ × V} {r : List (κ × V)} {k : κ} (e : p.1 = k) : dropK (p :: r) k = dropK r k := by
  unfold dropK
  rw [List.filter_cons, if_neg (by simp [e])]
theorem dropK_neg {p : κ × V} {r : List (κ × V)} {k : κ} (e : ¬ p.1 = k) : dropK (p :: r) k = p :: dropK r k := by
  unfold dropK
  rw [List.filter_cons, if_pos (by simp [e])]
theorem dropK_no : ∀ {kvs : List (κ × V)} {k : κ}, ¬ k ∈ kvs.map (·.1) → dropK kvs k = kvs
  | [], _, _ => rfl
  | p :: r, k, h => by
    have h' : ¬ k ∈ r.map (·.1) := fun m => by
      obtain ⟨q, hq, e⟩ := List.mem_map.mp m
      exact h (List.mem_map.mpr ⟨q, List.mem_cons.mpr (Or.inr hq), e⟩)
    rw [dropK_neg fun e => h (List.mem_map.mpr ⟨p, List.mem_cons.mpr (Or.inl rfl), e⟩), dropK_no h']
theorem dropK_mem {kvs : List (κ × V)} {k : κ} {p : κ × V} (h : p ∈ dropK kvs k) : p ∈ kvs := (List.mem_filter.mp h).1
theorem nd_dropK : ∀ {kvs : List (κ × V)} {k : κ}, (kvs.map (·.1)).Nodup → ((dropK kvs k).map (·.1)).Nodup
  | [], _, _ => List.nodup_nil
  | p :: r, k, h => by
    have h : (p.1 :: r.map (·.1)).Nodup := h
    obtain ⟨h1, h2⟩ := List.nodup_cons.mp h
    by_cases e : p.1 = k
    · rw [dropK_pos e]
      exact nd_dropK h2
    · rw [dropK_neg e]
      show (p.1 :: (dropK r k).map (·.1)).Nodup
      refine List.nodup_cons.mpr ⟨fun m => h1 ?_, nd_dropK h2⟩
      obtain ⟨q, hq, eq⟩ := List.mem_map.mp m
      exact List.mem_map.mpr ⟨q, dropK_mem hq, eq⟩
theorem dropK_len : ∀ {kvs : List (κ × V)} {k : κ}, (kvs.map (·.1)).Nodup → k ∈ kvs.map (·.1) → (dropK kvs k).length + 1 = kvs.length
  | [], _, _, m => by simp at m
  | p :: r, k, h, m => by
    have h : (p.1 :: r.map (·.1)).Nodup := h
    have m : k = p.1 ∨ k ∈ r.map (·.1) := List.mem_cons.mp m
    obtain ⟨h1, h2⟩ := List.nodup_cons.mp h
    by_cases e : p.1 = k
    · subst e
      rw [dropK_pos rfl, dropK_no h1]
      all_goals rfl
    · have m' : k ∈ r.map (·.1) := m.resolve_left fun z => e z.symm
      have q := dropK_len h2 m'
      rw [dropK_neg e, List.length_cons, List.length_cons]
      omega
end
end L2

set_option maxRecDepth 100000
set_option maxHeartbeats 4000000
namespace L2
open PySem PySem.Spec PyProof.Rows

def clOf (names : List (Str × NameKind)) (cells : List (Str × Addr)) : List (Str × Addr) :=
  names.foldl (fun cs nk => if nk.2 == NameKind.free then (nk.1, (cells.lookup nk.1).getD 0) :: cs else cs) []
theorem clOf_go {cells : List (Str × Addr)} {env : Env} (hc : env.cells = cells) : ∀ (names : List (Str × NameKind)) (acc : List (Str × Addr)), (∀ x ∈ names, x.2 = .free → ∃ c, cells.lookup x.1 = some c) →
    (forIn names acc (fun (x : Str × NameKind) (r : List (Str × Addr)) => if (x.2 == NameKind.free) = true then (do let c ← cellOf env x.1; pure (ForInStep.yield ((x.1, c) :: r))) else (pure (ForInStep.yield r) : Sem _)))
      = (pure (names.foldl (fun cs nk => if nk.2 == NameKind.free then (nk.1, (cells.lookup nk.1).getD 0) :: cs else cs) acc) : Sem (List (Str × Addr)))
  | [], acc, _ => rfl
  | x :: r, acc, h => by
    have ih := fun acc => clOf_go hc r acc fun y hy => h y (List.mem_cons_of_mem _ hy)
    simp only [List.forIn_cons, List.foldl_cons]
    cases e : (x.2 == NameKind.free) with
    | false =>
      simp only [Bool.false_eq_true, if_false]
      exact ih acc
    | true =>
      obtain ⟨c, hcx⟩ := h x List.mem_cons_self (by simpa using e)
      have hcell : cellOf env x.1 = pure c := by unfold cellOf; rw [hc, hcx]
      simp only [if_true, hcell, hcx, Option.getD_some]
      exact ih _
theorem closure_eq {scope : Scope} {env : Env} (h : ∀ x ∈ scope.names, x.2 = .free → ∃ c, env.cells.lookup x.1 = some c) : closureFor scope env = pure (clOf scope.names env.cells) := by
  have := clOf_go (env := env) rfl scope.names [] h
  unfold closureFor clOf
  rw [← this]
  simp only [bind_pure]
theorem clOf_look {cells : List (Str × Addr)} : ∀ {names : List (Str × NameKind)} {acc : List (Str × Addr)} {x : Str} {c : Addr}, (∀ y ∈ names, y.2 = .free → ∃ c, cells.lookup y.1 = some c) →
    (names.foldl (fun cs nk => if nk.2 == NameKind.free then (nk.1, (cells.lookup nk.1).getD 0) :: cs else cs) acc).lookup x = some c → (∀ c, acc.lookup x = some c → cells.lookup x = some c) → cells.lookup x = some c
  | [], acc, x, c, _, h, ha => ha c h
  | y :: r, acc, x, c, hy, h, ha => by
    simp only [List.foldl_cons] at h
    refine clOf_look (fun z hz => hy z (List.mem_cons_of_mem _ hz)) h ?_
    intro c' h'
    split at h'
    · rename_i hf
      obtain ⟨c0, e0⟩ := hy y List.mem_cons_self (by simpa using hf)
      rw [List.lookup_cons] at h'
      split at h'
      · rename_i hx
        have hx' : x = y.1 := by simpa using hx
        rw [e0] at h'
        subst hx'
        rw [e0]
        simpa using h'
      · exact ha c' h'
    · exact ha c' h'
theorem clOf_lookup {names : List (Str × NameKind)} {cells : List (Str × Addr)} {x : Str} {c : Addr} (hy : ∀ y ∈ names, y.2 = .free → ∃ c, cells.lookup y.1 = some c) (h : (clOf names cells).lookup x = some c) : cells.lookup x = some c :=
  clOf_look hy h fun c h => by simp at h
theorem clOf_has0 {cells : List (Str × Addr)} : ∀ {names : List (Str × NameKind)} {acc : List (Str × Addr)} {x : Str}, ((x, NameKind.free) ∈ names ∨ (acc.lookup x).isSome) →
    ((names.foldl (fun cs nk => if nk.2 == NameKind.free then (nk.1, (cells.lookup nk.1).getD 0) :: cs else cs) acc).lookup x).isSome
  | [], acc, x, h => by simpa using h
  | y :: r, acc, x, h => by
    simp only [List.foldl_cons]
    refine clOf_has0 ?_
    rcases h with h | h
    · rcases List.mem_cons.mp h with e | h
      · subst e
        right
        simp [List.lookup_cons]
      · exact .inl h
    · right
      split
      · rw [List.lookup_cons]
        split
        · rfl
        · exact h
      · exact h
theorem clOf_has {names : List (Str × NameKind)} {cells : List (Str × Addr)} {x : Str} (h : (x, NameKind.free) ∈ names) : ∃ c, (clOf names cells).lookup x = some c :=
  Option.isSome_iff_exists.mp (clOf_has0 (.inl h))

structure CmpScope (N : List Str) (outer scope : Scope) (M : List Str) (src : List (Option Nat)) : Prop where
  kind : scope.kind = .function
  nocell : ∀ y ∈ scope.names, y.2 ≠ .cell
  free : ∀ y ∈ scope.names, y.2 = .free → outer.names.lookup y.1 = some .cell ∨ outer.names.lookup y.1 = some .free
  names : ∀ y ∈ scope.names, y.2 = .local → scope.names.lookup y.1 = some .local
  lf : ∀ y ∈ scope.names, y.2 = .free → scope.names.lookup y.1 = some .free
  len : M.length = src.length
  nd : M.Nodup
  src : ∀ p ∈ M.zip src, ∀ j ∈ p.2, N[j]? = some p.1 ∧ (p.1, NameKind.free) ∈ scope.names

def stC (src : List (Option Nat)) (σ : St) : St := src.map fun o => o.bind fun j => (σ[j]?).join

def cxC (X : Cx) (M : List Str) (scope : Scope) (C : Addr) (s : Shared) (H : Hp) (ex : List Addr) : Cx :=
  { X with N := M, s₀ := s, H₀ := H, env := compEnvC scope (clOf scope.names X.env.cells) C X.env, outer := X.stack, ex := ex, fn := fun _ => false, pn := [], xe := fun _ _ => False }

def PTs (X : Cx) (ifs : List Expr) (t : TT) : Prop :=
  ∀ (pins : List (Addr × Obj)) (s : Shared) (σ : St) (H : Hp) (Q : Bool → Hp → Prop), Inv X pins σ H s → t σ H Q →
    wpAny (model X.prog X.w) X.A (forIn ifs true fun c r => if r = true then do let ok ← isTrue c X.env (eval c X.env); pure (ForInStep.yield ok) else pure (ForInStep.yield r)) (TP X pins σ Q) X.xe s
def tYes : TT := fun _ H Q => Q true H
theorem pts_nil {X : Cx} : PTs X [] tYes := fun pins s σ H Q I h => wpAny_tests_nil ⟨H, I, h⟩
theorem pts_one {X : Cx} {c : Expr} {t : TT} (h : PT X c t) : PTs X [c] t := fun pins s σ H Q I hq => wpAny_tests_one (h pins s σ H Q I hq)

def Wk (a b : St) : Prop := a.length = b.length ∧ ∀ (i : Nat) v, a[i]? = some (some v) → b[i]? = some (some v)
def tComp (src : List (Option Nat)) (wi : TI) (g : TG) (tt : TT) (te : TE) : TE := fun σ H Q => wi σ H fun J H1 => ∀ D, H1 D = none → ∃ W : Nat → Nat → Hp → Prop, (∃ m, W 0 m (upd H1 D (.lst []))) ∧ ∀ i m H, W i m H →
  (J.stop i H ∧ Q (.ref D) H) ∨ (J.go i H ∧ ∃ N : Hp → Prop, (∀ H', N H' → ∃ m', m' < m ∧ W (i + 1) m' H') ∧ ∀ x H', J.yld i H x H' →
    g x (stC src σ) H' fun σ2 H2 => Wk (stC src σ) σ2 ∧ tt σ2 H2 fun b H3 => if b = true then te σ2 H3 fun v H4 => ∃ ys, H4 D = some (.lst ys) ∧ ys.length < sizeLine ∧ N (upd H4 D (.lst (ys ++ [v]))) else N H3)

theorem compLoop_gen {prog : Program} {w : World} {A : Around} {R : Result → Shared → Prop} {s : Shared} {elt target iter : Expr} {ifs : List Expr} {scope : Scope} {pos : Pos} {it acc : Value} {env : Env} (I : Nat → Shared → Prop)
    (turn : ∀ n s, I n s → wpAny (model prog w) A (pyNext it) (fun r s₁ => match r with
      | none => R (.ok .next) s₁
      | some v => wpAny (model prog w) A (letOwnedTupleGo target it v) (fun _ s₁' => wpAny (model prog w) A (assign target env v) (fun _ s₂ =>
          wpAny (model prog w) A (forIn ifs true fun c r => if r = true then do let ok ← isTrue c env (eval c env); pure (ForInStep.yield ok) else pure (ForInStep.yield r)) (fun ok s₃ =>
            if ok = true then wpAny (model prog w) A (eval elt env) (fun x s₄ =>
              wpAny (model prog w) A (call (.builtin "list.append") [acc, x]) (fun _ s₅ => ∃ m, m < n ∧ I m s₅) (fun _ _ => False) s₄) (fun _ _ => False) s₃
            else ∃ m, m < n ∧ I m s₃) (fun _ _ => False) s₂) (fun _ _ => False) s₁') (fun _ _ => False) s₁) (fun _ _ => False) s)
    (n : Nat) (h : I n s) :
    codeAny (model prog w) A (.compLoop (.ListComp elt [⟨target, iter, ifs, 0⟩] scope pos) 0 it acc env) R s := by
  refine codeAny_loop rfl I (fun n s hI => ?_) n h
  show wpAny _ A ((compTurn (.ListComp elt [⟨target, iter, ifs, 0⟩] scope pos) 0 it acc env).onRaise (fun x => do noteFrame x env; theTreesLotGoes x)) _ _ s
  refine wpAny_noted ?_
  rw [compTurn_list]
  refine wpAny_bind (wpAny_standAt (wpAny_bind (wpAny_mono (turn n s hI) (fun r s₁ h₁ => ?_) fun _ _ h' => h'.elim)))
  cases r with
  | none => exact wpAny_pure h₁
  | some v =>
    refine wpAny_bind (wpAny_mono h₁ (fun _ s₁' h₁' => ?_) fun _ _ h' => h'.elim)
    refine wpAny_bind (wpAny_mono h₁' (fun _ s₂ h₂ => wpAny_bind (wpAny_mono h₂ (fun ok s₃ h₃ => ?_) fun _ _ h' => h'.elim)) fun _ _ h' => h'.elim)
    cases ok with
    | false => exact wpAny_pure ⟨rfl, h₃⟩
    | true =>
      exact wpAny_bind (wpAny_bind (wpAny_mono h₃ (fun x s₄ h₄ => wpAny_bind (wpAny_mono h₄ (fun _ s₅ h₅ => wpAny_pure (wpAny_pure ⟨rfl, h₅⟩)) fun _ _ h' => h'.elim)) fun _ _ h' => h'.elim))

section
variable {X : Cx} {elt tg iter : Expr} {ifs : List Expr} {scope : Scope} {pos : Pos} {M : List Str} {src : List (Option Nat)} {wi : TI} {g : TG} {tt : TT} {te : TE}

theorem relabel_free {env : Env} {scope : Scope} {x : Str} (hn : ∀ y ∈ scope.names, y.2 ≠ .cell) (h : (relabel scope env).names.lookup x = some .cell ∨ (relabel scope env).names.lookup x = some .free) : (x, NameKind.free) ∈ scope.names := by
  have key : ∀ k, (relabel scope env).names.lookup x = some k → (k = .cell ∨ k = .free) → (x, NameKind.free) ∈ scope.names := by
    intro k hk hkk
    have hm := PySem.mem_of_lookup hk
    unfold relabel at hm
    obtain ⟨⟨n, k0⟩, hy, e⟩ := List.mem_map.mp hm
    dsimp only at e
    split at e
    · rename_i hc
      simp only [Bool.and_eq_true] at hc
      have : k0 = .free := by simpa using hc.1.1
      subst this
      cases e
      exact hy
    · cases e
      rcases hkk with z | z
      · subst z; exact absurd rfl (hn _ hy)
      · subst z; exact hy
  rcases h with h | h
  · exact key _ h (.inl rfl)
  · exact key _ h (.inr rfl)

theorem inv_comp {pins : List (Addr × Obj)} {σ : St} {H : Hp} {s s1 : Shared} {fp : List Addr} {m1 : Str → Option Value} (S : CmpScope X.N X.env.scope scope M src) (I : Inv X pins σ H s) (hf : ∀ b ∈ fp, FpOk X pins H b)
    (hfl : ∀ b ∈ fp, b < s.heap.objs.size) (hn : s1.heap.Ns s.heap.objs.size m1) (hk : ∀ b o, s.heap.get? b = some o → s1.heap.get? b = some o) (hos : s1.os = s.os) (hg : s1.gens = s.gens) :
    Inv (cxC X M scope s.heap.objs.size s H fp) [] (stC src σ) H s1 := by
  have hcells : ∀ x ∈ scope.names, x.2 = .free → ∃ c, X.env.cells.lookup x.1 = some c := fun x hx hfr => I.ok.has x.1 (S.free x hx hfr)
  have sub : ∀ x c, (clOf scope.names X.env.cells).lookup x = some c → X.env.cells.lookup x = some c := fun x c h => clOf_lookup hcells h
  have cellK : ∀ c v, s.heap.IsCell c v → s1.heap.IsCell c v := fun c v ⟨o, ho, hd⟩ => ⟨o, hk c o ho, hd⟩
  refine ⟨⟨I.ok.mod, S.kind, I.ok.glob, I.ok.blt, Nat.le_refl _, fun y z c h1 h2 => I.ok.inj y z c (sub _ _ h1) (sub _ _ h2), fun x hx => clOf_has (relabel_free S.nocell hx), fun x c h => (nomatch h), I.ok.hd, I.ok.frames, .inl rfl,
    fun b hb => ⟨Nat.ne_of_lt (hfl b hb), fun x c h => (hf b hb).2.2.2.2.1 x c (sub _ _ h)⟩, I.bs, Nat.le_trans I.ok.bsz I.sz, fun b o e hb => ?_, fun b hb z => ?_, I.stack, I.stkFree⟩,
    hos, (by rw [hg]; exact I.bare), Un.kept hk, ⟨m1, hn, fun i x v h1 h2 h3 => ?_⟩, fun x c h => ?_, I.hok.fresh (Nat.le_refl _), fun x c h => I.freeC x c (sub _ _ h), fun p hp => absurd hp (by simp [cxC]), I.hok.kept hk, ?_⟩
  · rcases (hf b hb).2.2.2.1 with z | z
    · exact I.ok.noex b o e z
    · exact absurd (Nat.lt_of_lt_of_le (Heap.lt_size e) (Nat.le_trans I.ok.bsz z)) (Nat.lt_irrefl _)
  · rcases List.mem_cons.mp (I.stkSub b z) with q | q
    · exact (hf b hb).2.1 q
    · exact (hf b hb).2.2.1 q
  · -- a name taken over
    have h1 : M[i]? = some x := h1
    unfold stC at h2
    rw [List.getElem?_map] at h2
    cases hs : src[i]? with
    | none => rw [hs] at h2; cases h2
    | some o =>
      rw [hs] at h2
      simp only [Option.map_some, Option.some.injEq] at h2
      cases o with
      | none => cases h2
      | some j =>
        simp only [Option.bind_some] at h2
        have hmem : (x, some j) ∈ M.zip src := by
          have : (M.zip src)[i]? = some (x, some j) := by rw [List.getElem?_zip_eq_some]; exact ⟨h1, hs⟩
          exact List.mem_of_getElem? this
        obtain ⟨hN, hfr⟩ := S.src _ hmem j rfl
        have hσ : σ[j]? = some (some v) := by
          cases e : σ[j]? with
          | none => rw [e] at h2; cases h2
          | some o => rw [e] at h2; simp only [Option.join_some] at h2; rw [h2]
        have hkind := S.free _ hfr rfl
        obtain ⟨m, hm, hl⟩ := I.loc
        obtain ⟨u, r, l⟩ := hl j x v hN hσ (.inr hkind)
        refine ⟨u, r, ?_⟩
        have hloc : X.env.kindOf x ≠ some .local := by
          show X.env.scope.names.lookup x ≠ _
          rcases hkind with q | q <;> rw [q] <;> decide
        rcases l with l | ⟨_, c, e, z⟩
        · exact absurd l.1 hloc
        · obtain ⟨c', e'⟩ := clOf_has (cells := X.env.cells) hfr
          have := sub _ _ e'
          rw [e] at this
          cases this
          refine .inr ⟨?_, c, e', cellK _ _ z⟩
          rcases h3 with q | q
          · exact absurd q (by
              -- a name that is free in the block is not local there
              exact (by
                intro q
                have : scope.names.lookup x = some .local := by
                  have hb : ∀ (names : List (Str × NameKind)), (names.map fun (n, k) => if (k == NameKind.free && X.env.scope.kind == .function && X.env.kindOf n == some .cell) then (n, NameKind.cell) else (n, k)).lookup x = some .local → names.lookup x = some .local := by
                    intro names
                    induction names with
                    | nil => intro h; simp at h
                    | cons y r ih =>
                      obtain ⟨n, k⟩ := y
                      intro h
                      simp only [List.map_cons] at h
                      by_cases hx : x = n
                      · subst hx
                        split at h
                        · simp [List.lookup_cons] at h
                        · simpa [List.lookup_cons] using h
                      · have hx' : (x == n) = false := by simpa using hx
                        split at h
                        · simp only [List.lookup_cons, hx'] at h ⊢; exact ih h
                        · simp only [List.lookup_cons, hx'] at h ⊢; exact ih h
                  exact hb _ q
                rw [S.lf _ hfr rfl] at this
                cases this))
          · exact q
  · obtain ⟨v, z⟩ := I.cell x c (sub _ _ h)
    exact ⟨v, cellK _ _ z⟩
  · show (stC src σ).length = M.length
    unfold stC
    rw [List.length_map, S.len]

theorem pe_lcomp (S : CmpScope X.N X.env.scope scope M src) (hc : X.calm = true) (hi : PI X tg iter wi) (hg : M.Nodup → ∀ C s H ex, PG (cxC X M scope C s H ex) tg g) (ht : ∀ C s H ex, PTs (cxC X M scope C s H ex) ifs tt)
    (he : ∀ C s H ex, PE (cxC X M scope C s H ex) elt te) (hs : ∀ x, foldedSetIterable iter X.env x = pure x := by intro _; rfl) :
    PE X (.ListComp elt [⟨tg, iter, ifs, 0⟩] scope pos) (tComp src wi g tt te) := by
  intro pins s σ H Q I h
  rw [eval_ListComp]
  have hcells : ∀ x ∈ scope.names, x.2 = .free → ∃ c, X.env.cells.lookup x.1 = some c := fun x hx hfr => I.ok.has x.1 (S.free x hx hfr)
  refine wpAny_comprehension_free (use := none) rfl hs (closure_eq hcells) S.kind S.names (thn (hi pins s σ H _ I h) fun v s1 h1 => thn h1 fun itv s2 h2 => ?_)
  obtain ⟨it, fp, tn, J, H2, rfl, I2, T, st2, f2, hq⟩ := h2
  refine wpAny_newObj_type ?_
  have I3 : Inv X pins σ (upd H2 s2.heap.objs.size (.lst [])) { s2 with heap := s2.heap.push { cls := .type "list", dict := none, data := .seq ([] : List Value).toArray }, toks := s2.toks } := I2.lnew (its := []) (ys := []) (t' := s2.toks) .nil (by simp)
  have hD : H2 s2.heap.objs.size = none := I2.fresh
  obtain ⟨W, ⟨m0, w0⟩, turn⟩ := hq _ hD
  generalize hDn : s2.heap.objs.size = D at *
  generalize hs3 : ({ s2 with heap := s2.heap.push { cls := .type "list", dict := none, data := .seq ([] : List Value).toArray }, toks := s2.toks } : Shared) = s3 at *
  have f3 : ∀ b ∈ fp, FpOk X pins (upd H2 D (.lst [])) b := fun b hb => ⟨by
    obtain ⟨o, e, _⟩ := T.obj _ _ st2 b hb
    rw [upd_ne (by rw [← hDn]; exact Nat.ne_of_lt (Heap.lt_size e))]
    exact (f2 b hb).1, (f2 b hb).2⟩
  have k23 : ∀ b o, s2.heap.get? b = some o → s3.heap.get? b = some o := fun b o e => by rw [← hs3]; exact Heap.get?_push_of_some _ e
  have st3 : tn 0 s3.heap := T.keep _ _ _ st2 fun b _ o e => k23 b o e
  have fl3 : ∀ b ∈ fp, b < s3.heap.objs.size := fun b hb => by
    obtain ⟨o, e, _⟩ := T.obj _ _ st3 b hb
    exact Heap.lt_size e
  refine wpAny_newFunctionEnv S.nocell (by intro y hy; simp at hy) (fun h₁ hns₁ hsb₁ => ?_) S.kind
  have k34 : ∀ b o, s3.heap.get? b = some o → h₁.get? b = some o := fun b o e => hsb₁.extBut b o (Nat.ne_of_lt (Heap.lt_size e)) (Heap.get?_push_of_some _ e)
  generalize hs4 : ({ s3 with heap := h₁, toks := s3.toks + ([] : List (Str × Value)).length } : Shared) = s4
  have I4 : Inv (cxC X M scope s3.heap.objs.size s3 (upd H2 D (.lst [])) fp) [] (stC src σ) (upd H2 D (.lst [])) s4 := by
    rw [← hs4]
    exact inv_comp S I3 f3 fl3 hns₁ k34 rfl rfl
  have st4 : tn 0 s4.heap := T.keep _ _ _ st3 fun b _ o e => by rw [← hs4]; exact k34 b o e
  generalize hX' : cxC X M scope s3.heap.objs.size s3 (upd H2 D (.lst [])) fp = X' at *
  have hg' : PG X' tg g := by rw [← hX']; exact hg S.nd _ _ _ _
  have ht' : PTs X' ifs tt := by rw [← hX']; exact ht _ _ _ _
  have he' : PE X' elt te := by rw [← hX']; exact he _ _ _ _
  have eP : X'.prog = X.prog := by rw [← hX']; rfl
  have eW : X'.w = X.w := by rw [← hX']; rfl
  have eK : X'.K = X.K := by rw [← hX']; rfl
  have eA : X'.A = X.A := by rw [← hX']; rfl
  have ex' : X'.xe = fun _ _ => False := by rw [← hX']; rfl
  have ec : X'.calm = true := by rw [← hX']; exact hc
  have eE : X'.env = compEnvC scope (clOf scope.names X.env.cells) s3.heap.objs.size X.env := by rw [← hX']; rfl
  have stat : ∀ {H' : Hp}, (∀ b ∈ fp, H' b = none) → ∀ b ∈ fp, FpOk X' [] H' b := fun hn b hb => by
    rw [← hX']
    refine ⟨hn b hb, Nat.ne_of_lt (fl3 b hb), fun z => ?_, .inl hb, fun x c h => (f3 b hb).2.2.2.2.1 x c (clOf_lookup hcells h), fun p hp => absurd hp (by simp [cxC])⟩
    rcases List.mem_cons.mp (I3.stkSub b z) with q | q
    · exact (f3 b hb).2.1 q
    · exact (f3 b hb).2.2.1 q
  -- behind the block
  have fin : ∀ (H' : Hp) (s' : Shared), Inv X' [] (stC src σ) H' s' → Q (.ref D) H' → compPost (model X.prog X.w) X.A X.xe none (EP X pins σ Q) (.ref D) s3.heap.objs.size (.ok .next) s' := by
    intro H' s' J' q
    rw [← hX'] at J'
    obtain ⟨m, hn, _⟩ := id J'.loc
    refine ⟨m, hn, fun h' sb => ⟨.ref D, H', ?_, rfl, q⟩⟩
    have hC : H' s3.heap.objs.size = none := J'.free
    have un : Un (frs X.stack) fp (upd H2 D (.lst [])) H' s3.heap s'.heap := J'.base
    have kC : ∀ b o, b ≠ s3.heap.objs.size → s'.heap.get? b = some o → h'.get? b = some o := fun b o hb e => sb.extBut b o hb e
    have un' : Un (frs X.stack) fp (upd H2 D (.lst [])) H' s3.heap h' :=
      ⟨fun b o e n hb hx => kC b o (Nat.ne_of_lt (Heap.lt_size e)) (un.keep b o e n hb hx),
       fun b o e n hb hx => by
        obtain ⟨sl, e'⟩ := un.slot b o e n hb hx
        exact ⟨sl, kC b _ (Nat.ne_of_lt (Heap.lt_size e)) e'⟩,
       un.free,
       fun b o e hx => by
        obtain ⟨o', e'⟩ := un.there b o e hx
        exact ⟨o', kC b _ (Nat.ne_of_lt (Heap.lt_size e)) e'⟩, un.tups, un.frzs, un.tbls⟩
    have hok' : HOk X.prog X.w H' h' := fun b u e => by
      have nb : b ≠ s3.heap.objs.size := fun z => by rw [z, hC] at e; cases e
      refine (J'.hok b u e).stay (fun c v hc' q => kC c v ?_ q) (fun _ q => q) fun _ _ q => q
      rcases hc' with z | z
      · rw [z]; exact nb
      · intro w; rw [w, hC] at z; cases z
    exact I3.call' (s' := { s' with heap := h' }) (show s'.os = s3.os from J'.os) un' hok' J'.bare fun b hb => ⟨(f3 b hb).2.2.2.1, (f3 b hb).2.1, (f3 b hb).2.2.2.2.1, (f3 b hb).2.2.2.2.2⟩
  have loop : ∀ s4' : Shared, s4' = s4 → codeAny (model X.prog X.w) X.A (.compLoop (.ListComp elt [⟨tg, iter, ifs, 0⟩] scope pos) 0 (.ref it) (.ref D) X'.env) (compPost (model X.prog X.w) X.A X.xe none (EP X pins σ Q) (.ref D) s3.heap.objs.size) s4' := by
    rintro _ rfl
    refine compLoop_gen (fun n s' => ∃ i H', Inv X' [] (stC src σ) H' s' ∧ tn i s'.heap ∧ (∀ b ∈ fp, H' b = none) ∧ W i n H') ?_ m0 ⟨0, _, I4, st4, fun b hb => (f3 b hb).1, w0⟩
    rintro n s5 ⟨i, H5, I5, st5, fr5, w5⟩
    rcases turn i n H5 w5 with ⟨stop, qn⟩ | ⟨go, N, hN, step⟩
    · have := T.done X' eP eW eK ec i [] s5 (stC src σ) H5 (fun _ _ => False) I5 (stat fr5) st5 stop
      rw [eA] at this
      refine thn this fun r s6 ⟨hr, I6⟩ => ?_
      subst hr
      exact fin H5 s6 I6 qn
    · have := T.item X' eP eW eK ec i [] s5 (stC src σ) H5 (fun _ _ => False) I5 (stat fr5) st5 go
      rw [eA] at this
      refine thn this fun r s6 ⟨u, hr, h6⟩ => ?_
      subst hr
      refine thn h6 fun _ s7 ⟨x, H7, I7, r7, y7, st7, fr7⟩ => ?_
      have I7' := I7.pinned (stat fr7) (T.obj _ _ st7)
      have a1 := hg' _ s7 (stC src σ) H7 x u _ I7' r7 (step x H7 y7)
      rw [ex', eP, eW, eA] at a1
      refine thn a1 fun _ s8 ⟨σ8, H8, I8, wk8, q8⟩ => ?_
      have a2 := ht' _ s8 σ8 H8 _ I8 q8
      rw [ex', eP, eW, eA] at a2
      refine thn a2 fun ok s9 ⟨H9, I9, q9⟩ => ?_
      have again : ∀ {H7' : Hp} {s' : Shared}, Inv X' ([] ++ pinsAt fp s7.heap) σ8 H7' s' → N H7' → ∃ m, m < n ∧ ∃ i H', Inv X' [] (stC src σ) H' s' ∧ tn i s'.heap ∧ (∀ b ∈ fp, H' b = none) ∧ W i m H' := fun {H7' s'} J7 n7 => by
        obtain ⟨m', hm, w7⟩ := hN H7' n7
        refine ⟨m', hm, i + 1, H7', J7.unpinned.weak wk8.1 wk8.2, T.keep _ _ _ st7 fun b hb o e => (J7.pin (b, o) (List.mem_append_right _ (List.mem_append_right _ (mem_pinsAt hb e)))).1, fun b hb => ?_, w7⟩
        obtain ⟨o, e, d⟩ := T.obj _ _ st7 b hb
        exact (J7.pin (b, o) (List.mem_append_right _ (List.mem_append_right _ (mem_pinsAt hb e)))).2.1
      cases ok with
      | false => exact again I9 q9
      | true =>
        have a3 := he' _ s9 σ8 H9 _ I9 q9
        rw [ex', eP, eW, eA] at a3
        refine thn a3 fun v s10 ⟨y, H10, I10, r10, ys, hl, hz, q10⟩ => ?_
        have a4 := mt_append (X := X') _ s10 σ8 H10 (.ref D) [y] (.ref D) [v] (fun _ H' => N H') I10 rfl (.cons r10 .nil) ⟨D, ys, y, rfl, rfl, hl, hz, q10⟩
        rw [ex', eP, eW, eA] at a4
        refine thn a4 fun _ s11 ⟨_, H11, I11, _, q11⟩ => ?_
        exact again I11 q11
  have e4 : ∀ c : Env, c = X'.env → codeAny (model X.prog X.w) X.A (.compStart (.ListComp elt [⟨tg, iter, ifs, 0⟩] scope pos) 0 (.ref it) (.ref D) c) (compPost (model X.prog X.w) X.A X.xe none (EP X pins σ Q) (.ref D) s3.heap.objs.size) s4 := by
    rintro _ rfl
    exact codeAny_compStart_list (loop _ rfl) (T.self _ _ _ _ _ st4 (loop _ rfl))
  exact e4 _ (by rw [eE]; rfl)
end
end L2

namespace L2
open PySem PySem.Spec PyProof.Rows

def Its (x : Str) : It := ⟨fun i _ => i < x.cps.size, fun i H v H' => H' = H ∧ ∃ c, x.cps[i]? = some c ∧ v = .str ⟨#[c]⟩, fun i _ => i = x.cps.size⟩
theorem turn_strA {P : Program} {w : World} {K : PySem.W.Frag} {tg : Expr} (x : Str) (t : Tok) (it : Addr) : Turn P w K tg (Its x) [it] it (fun i h => h.IsStrIter it "str_ascii_iterator" x t i) where
  mem := by simp
  obj := fun i h st b hb => by
    have e : b = it := by simpa using hb
    subst e
    obtain ⟨o, e, c, d⟩ := st
    exact ⟨o, e, fun v z => by rw [d] at z; cases z⟩
  keep := fun i h h' st k => let ⟨o, ho, r⟩ := st; ⟨o, k it (by simp) o ho, r⟩
  item := by
    intro X hP hw hK hc i pins s σ H E I hf st hg
    subst hP hw hK
    obtain ⟨f0, f1, f2, f3, f4, f5⟩ := hf it (by simp)
    have hg : i < x.cps.size := hg
    refine wpAny_pyNext_ascii_item st (c := x.cps[i]) (by simp [hg]) fun h' st' sb => ?_
    have I1 : Inv X pins σ H { s with heap := h', toks := s.toks + 1 } := I.turned (t' := s.toks + 1) (fun b o hb e => (sb.2 b hb).trans e) f0 f1 f3 f4 f5
    obtain ⟨o, e, c, d⟩ := id st'
    exact ⟨_, rfl, go_of (s := { s with heap := h', toks := s.toks + 1 }) e c d (by decide) ⟨.str ⟨#[x.cps[i]]⟩, H, I1, ⟨_, rfl⟩, ⟨rfl, x.cps[i], by simp [hg], rfl⟩, st', fun b hb => (hf b hb).1⟩⟩
  done := by
    intro X hP hw hK hc i pins s σ H E I hf st hg
    subst hP hw hK
    have hg : i = x.cps.size := hg
    obtain ⟨f0, f1, f2, f3, f4, f5⟩ := hf it (by simp)
    exact wpAny_pyNext_ascii_end (I.ok.hd hc) st (by simp [hg]) fun h' eb => ⟨rfl, I.turned (t' := s.toks) (fun b o hb e => eb b o hb e) f0 f1 f3 f4 f5⟩
  self := fun _ _ _ _ _ st h => wpAny_pyIter_striter_ascii st h
theorem turn_strW {P : Program} {w : World} {K : PySem.W.Frag} {tg : Expr} (x : Str) (t : Tok) (it : Addr) : Turn P w K tg (Its x) [it] it (fun i h => h.IsStrIter it "str_iterator" x t i) where
  mem := by simp
  obj := fun i h st b hb => by
    have e : b = it := by simpa using hb
    subst e
    obtain ⟨o, e, c, d⟩ := st
    exact ⟨o, e, fun v z => by rw [d] at z; cases z⟩
  keep := fun i h h' st k => let ⟨o, ho, r⟩ := st; ⟨o, k it (by simp) o ho, r⟩
  item := by
    intro X hP hw hK hc i pins s σ H E I hf st hg
    subst hP hw hK
    obtain ⟨f0, f1, f2, f3, f4, f5⟩ := hf it (by simp)
    have hg : i < x.cps.size := hg
    refine wpAny_pyNext_wide_item st (c := x.cps[i]) (by simp [hg]) fun h' st' sb => ?_
    have I1 : Inv X pins σ H { s with heap := h', toks := s.toks + 1 } := I.turned (t' := s.toks + 1) (fun b o hb e => (sb.2 b hb).trans e) f0 f1 f3 f4 f5
    obtain ⟨o, e, c, d⟩ := id st'
    exact ⟨_, rfl, go_of (s := { s with heap := h', toks := s.toks + 1 }) e c d (by decide) ⟨.str ⟨#[x.cps[i]]⟩, H, I1, ⟨_, rfl⟩, ⟨rfl, x.cps[i], by simp [hg], rfl⟩, st', fun b hb => (hf b hb).1⟩⟩
  done := by
    intro X hP hw hK hc i pins s σ H E I hf st hg
    subst hP hw hK
    have hg : i = x.cps.size := hg
    obtain ⟨f0, f1, f2, f3, f4, f5⟩ := hf it (by simp)
    exact wpAny_pyNext_wide_end (I.ok.hd hc) st (by simp [hg]) fun h' eb => ⟨rfl, I.turned (t' := s.toks) (fun b o hb e => eb b o hb e) f0 f1 f3 f4 f5⟩
  self := fun _ _ _ _ _ st h => wpAny_pyIter_striter_wide st h
section
variable {X : Cx} {tg : Expr}
def iStr (tl : TE) : TI := fun σ H R => tl σ H fun v H1 => ∃ x, v = .str x ∧ R (Its x) H1
theorem pi_str {l : Expr} {tl : TE} (hl : PE X l tl) : PI X tg l (iStr tl) := by
  intro pins s σ H R I h
  refine thn (hl pins s σ H _ I h) fun v s1 ⟨y, H1, I1, r1, q1⟩ => ?_
  obtain ⟨x, e, q⟩ := q1
  subst e
  obtain ⟨t, rfl⟩ := r1
  have fin : ∀ b ∈ [s1.heap.objs.size], FpOk X pins H1 b := fun b hb => by
    have e : b = s1.heap.objs.size := by simpa using hb
    subst e
    exact I1.fpOk (Nat.le_refl _) (I1.hok.fresh (Nat.le_refl _))
  cases ha : x.cps.all (· < 128)
  · refine wpAny_pyIter_wide ha ?_
    exact ⟨s1.heap.objs.size, [s1.heap.objs.size], _, _, H1, rfl, I1.kept (t' := s1.toks) fun b o e => Heap.get?_push_of_some _ e, turn_strW x t _, ⟨_, Heap.get?_push_size _ rfl, rfl, rfl⟩, fin, q⟩
  · refine wpAny_pyIter_ascii ha ?_
    exact ⟨s1.heap.objs.size, [s1.heap.objs.size], _, _, H1, rfl, I1.kept (t' := s1.toks) fun b o e => Heap.get?_push_of_some _ e, turn_strA x t _, ⟨_, Heap.get?_push_size _ rfl, rfl, rfl⟩, fin, q⟩

theorem vals_bools : ∀ {bs : List Bool} {us : List Value}, Vals (bs.map V.bl) us → us = bs.map Value.bool
  | [], _, .nil => rfl
  | b :: r, _, .cons h t => by
    have h : _ = Value.bool b := h
    rw [h, vals_bools t]
    rfl
theorem range_get {bs : List Bool} : (List.range bs.length).map (fun i => bs.getD i false) = bs := by
  apply List.ext_getElem
  · simp
  · intro i h1 h2
    simp at h1
    simp [h1]
theorem call_all (hc : X.calm = true) : CallR X (.builtin "all") (fun xs H Q => ∃ (a : Addr) (bs : List Bool), xs = [.ref a] ∧ SqL X.K H a (bs.map V.bl) ∧ Q (.bl (bs.all id)) H) := by
  intro pins s σ H xs us Q I r h
  obtain ⟨a, bs, rfl, hq, q⟩ := h
  obtain ⟨u, rfl, ru⟩ := vals1 r
  cases ru
  obtain ⟨its, rv, p, hz⟩ := I.list hq
  have eu := vals_bools rv
  subst eu
  have hne : a ≠ s.heap.objs.size := by
    obtain ⟨o, n, e, _⟩ := p
    exact Nat.ne_of_lt (Heap.lt_size e)
  refine call_all_walk (wpAny_pyIter_list p.isList ⟨s.heap.objs.size, _, _, _, _, _, fun i => bs.getD i false, rfl, Walks.list (A := X.A.in1) (I.ok.hd hc) _ a hne (bs.map Value.bool).toArray, ⟨⟨_, Heap.get?_push_size _ rfl, rfl, rfl⟩, ?_⟩, ?_, ?_⟩)
  · obtain ⟨o, ho, hr⟩ := p.isList
    exact ⟨o, Heap.get?_push_of_some _ ho, hr⟩
  · intro i v s' Q' E' hP hQ
    rw [List.getElem?_toArray, List.getElem?_map] at hP
    cases e : bs[i]? with
    | none => rw [e] at hP; cases hP
    | some b =>
      rw [e] at hP
      cases hP
      refine wpAny_truthy_bool ?_
      dsimp only at hQ
      rw [List.getD_eq_getElem?_getD, e] at hQ
      exact hQ
  · intro h' tk hk
    refine ⟨.bl _, H, I.kept (h' := h') (t' := tk) fun b o e => hk b o (fun z => ?_) (Heap.get?_push_of_some _ e), rfl, ?_⟩
    · have z : b = s.heap.objs.size := by simpa using z
      subst z
      exact absurd (Heap.lt_size e) (Nat.lt_irrefl _)
    · have e : (List.range (bs.map Value.bool).toArray.size).all (fun i => bs.getD i false) = bs.all id := by
        conv => rhs; rw [← range_get (bs := bs)]
        rw [List.all_map]
        simp
      rw [e]
      exact q
theorem call_any (hc : X.calm = true) : CallR X (.builtin "any") (fun xs H Q => ∃ (a : Addr) (bs : List Bool), xs = [.ref a] ∧ SqL X.K H a (bs.map V.bl) ∧ Q (.bl (bs.any id)) H) := by
  intro pins s σ H xs us Q I r h
  obtain ⟨a, bs, rfl, hq, q⟩ := h
  obtain ⟨u, rfl, ru⟩ := vals1 r
  cases ru
  obtain ⟨its, rv, p, hz⟩ := I.list hq
  have eu := vals_bools rv
  subst eu
  have hne : a ≠ s.heap.objs.size := by
    obtain ⟨o, n, e, _⟩ := p
    exact Nat.ne_of_lt (Heap.lt_size e)
  refine call_any_walk (wpAny_pyIter_list p.isList ⟨s.heap.objs.size, _, _, _, _, _, fun i => bs.getD i false, rfl, Walks.list (A := X.A.in1) (I.ok.hd hc) _ a hne (bs.map Value.bool).toArray, ⟨⟨_, Heap.get?_push_size _ rfl, rfl, rfl⟩, ?_⟩, ?_, ?_⟩)
  · obtain ⟨o, ho, hr⟩ := p.isList
    exact ⟨o, Heap.get?_push_of_some _ ho, hr⟩
  · intro i v s' Q' E' hP hQ
    rw [List.getElem?_toArray, List.getElem?_map] at hP
    cases e : bs[i]? with
    | none => rw [e] at hP; cases hP
    | some b =>
      rw [e] at hP
      cases hP
      refine wpAny_truthy_bool ?_
      dsimp only at hQ
      rw [List.getD_eq_getElem?_getD, e] at hQ
      exact hQ
  · intro h' tk hk
    refine ⟨.bl _, H, I.kept (h' := h') (t' := tk) fun b o e => hk b o (fun z => ?_) (Heap.get?_push_of_some _ e), rfl, ?_⟩
    · have z : b = s.heap.objs.size := by simpa using z
      subst z
      exact absurd (Heap.lt_size e) (Nat.lt_irrefl _)
    · have e : (List.range (bs.map Value.bool).toArray.size).any (fun i => bs.getD i false) = bs.any id := by
        conv => rhs; rw [← range_get (bs := bs)]
        rw [List.any_map]
        simp
      rw [e]
      exact q

theorem mt_startswith : MtR X "str.startswith" (fun x vs H Q => ∃ a b, x = .str a ∧ vs = [.str b] ∧ Q (.bl (Txt.startswith a b)) H) := by
  intro pins s σ H x vs v us Q I rx rv h
  obtain ⟨a, b, rfl, rfl, q⟩ := h
  obtain ⟨t, rfl⟩ := rx
  obtain ⟨u, rfl, ru⟩ := rv.one
  obtain ⟨t', rfl⟩ := ru
  exact SC.startswith ⟨.bl _, H, I, rfl, q⟩
theorem mt_find : MtR X "str.find" (fun x vs H Q => ∃ a b, x = .str a ∧ vs = [.str b] ∧ Q (.int (Txt.find a b)) H) := by
  intro pins s σ H x vs v us Q I rx rv h
  obtain ⟨a, b, rfl, rfl, q⟩ := h
  obtain ⟨t, rfl⟩ := rx
  obtain ⟨u, rfl, ru⟩ := rv.one
  obtain ⟨t', rfl⟩ := ru
  exact SC.find ⟨.int _, H, I.tok _, ⟨_, rfl⟩, q⟩
theorem vals_strs : ∀ {ts : List Str} {us : List Value}, Vals (ts.map V.str) us → ∃ l, us = strValues l ∧ l.map (·.1) = ts
  | [], _, .nil => ⟨[], rfl, rfl⟩
  | x :: r, _, .cons h t => by
    obtain ⟨tk, rfl⟩ := h
    obtain ⟨l, e1, e2⟩ := vals_strs t
    exact ⟨(x, tk) :: l, by rw [e1]; rfl, by rw [← e2]; rfl⟩
theorem mt_join : MtR X "str.join" (fun x vs H Q => ∃ (a : Str) (l : Addr) (ts : List Str), x = .str a ∧ vs = [.ref l] ∧ SqL X.K H l (ts.map V.str) ∧ JoinOk a ts = true ∧ Q (.str (Txt.join a ts)) H) := by
  intro pins s σ H x vs v us Q I rx rv h
  obtain ⟨a, l, ts, rfl, rfl, hq, hj, q⟩ := h
  obtain ⟨t, rfl⟩ := rx
  obtain ⟨u, rfl, ru⟩ := rv.one
  cases ru
  obtain ⟨its, r, p, hz⟩ := I.list hq
  obtain ⟨ls, rfl, e2⟩ := vals_strs r
  exact SC.join p.isList e2 hj fun t' k => ⟨.str _, H, I.tok _, ⟨_, rfl⟩, q⟩
theorem call_int_str : CallR X (.type "int") (fun xs H Q => ∃ x n, xs = [.str x] ∧ PySem.intText? x = some n ∧ x.length ≤ 640 ∧ Q (.int n) H) := by
  intro pins s σ H xs us Q I r h
  obtain ⟨x, n, rfl, hn, hl, q⟩ := h
  obtain ⟨u, rfl, ru⟩ := vals1 r
  obtain ⟨t, rfl⟩ := ru
  exact PySem.W.KIN.call_text hn hl ⟨.int n, H, I.tok _, ⟨_, rfl⟩, q⟩

theorem part_of {v : Value} {o : Option Int} (h : IsPart v o) : ∃ p : Option (Int × Tok), v = partValue p ∧ o = p.map (·.1) := by
  cases o with
  | none => exact ⟨none, by cases h <;> rfl, rfl⟩
  | some i =>
    cases h
    exact ⟨some (i, _), rfl, rfl⟩
def rSlS : V → Option Int → Option Int → Hp → VK → Prop := fun x lo hi H Q => ∃ z, x = .str z ∧ z.length ≤ sizeLine ∧ Q (.str (Txt.slice z lo hi)) H
theorem sl_str : SlR X rSlS := by
  intro pins s σ H x v vl vu lo hi sl Q I rx hs pl pu h
  obtain ⟨z, rfl, hz, q⟩ := h
  obtain ⟨t, rfl⟩ := rx
  obtain ⟨l, rfl, rfl⟩ := part_of pl
  obtain ⟨u, rfl, rfl⟩ := part_of pu
  refine ⟨"str", _, F.slot_str_getitem.lookup, typeIs_str _ _ _, ?_⟩
  exact wpAny_getItem_str_slice (l := l) (u := u) (st := none) hs rfl (post_val_or_str ⟨Nat.le_trans (Txt.slice_le z _ _) hz, fun t' k => ⟨.str _, H, I.tok _, ⟨_, rfl⟩, q⟩⟩)

theorem call_isinst : CallR X (.builtin "isinstance") (fun xs H Q => ∃ x c t b, xs = [x, .ty c] ∧ TyOf X.K H x t ∧ PySem.W.kitOne X.K t (.type c) = some b ∧ Q (.bl b) H) := by
  intro pins s σ H xs us Q I r h
  obtain ⟨x, c, t, b, rfl, ty, e, q⟩ := h
  obtain ⟨u, w', rfl, ru, rw'⟩ := vals2 r
  cases rw'
  exact isinst_ok I ru ty e fun tk => ⟨.bl b, H, I.tok _, rfl, q⟩
end
end L2

namespace L2
open PySem PySem.Spec PyProof.Rows

theorem bt_len : bootBuiltins "len" = some (.builtin "len") := by first | exact PySem.boot_len | exact PyProof.Rows.boot_len | decide +kernel
theorem bt_all : bootBuiltins "all" = some (.builtin "all") := by first | exact PySem.boot_all | exact PyProof.Rows.boot_all | decide +kernel
theorem bt_any : bootBuiltins "any" = some (.builtin "any") := by first | exact PySem.boot_any | exact PyProof.Rows.boot_any | decide +kernel
theorem bt_isinstance : bootBuiltins "isinstance" = some (.builtin "isinstance") := by first | exact PySem.boot_isinstance | exact PyProof.Rows.boot_isinstance | decide +kernel
theorem bt_ord : bootBuiltins "ord" = some (.builtin "ord") := by first | exact PySem.boot_ord | exact PyProof.Rows.boot_ord | decide +kernel
theorem bt_chr : bootBuiltins "chr" = some (.builtin "chr") := by first | exact PySem.boot_chr | exact PyProof.Rows.boot_chr | decide +kernel
theorem bt_abs : bootBuiltins "abs" = some (.builtin "abs") := by first | exact PySem.boot_abs | exact PyProof.Rows.boot_abs | decide +kernel
theorem bt_max : bootBuiltins "max" = some (.builtin "max") := by first | exact PySem.boot_max | exact PyProof.Rows.boot_max | decide +kernel
theorem bt_min : bootBuiltins "min" = some (.builtin "min") := by first | exact PySem.boot_min | exact PyProof.Rows.boot_min | decide +kernel
theorem bt_sum : bootBuiltins "sum" = some (.builtin "sum") := by first | exact PySem.boot_sum | exact PyProof.Rows.boot_sum | decide +kernel
theorem bt_sorted : bootBuiltins "sorted" = some (.builtin "sorted") := by first | exact PySem.boot_sorted | exact PyProof.Rows.boot_sorted | decide +kernel
theorem bt_int : bootBuiltins "int" = some (.type "int") := by first | exact PySem.boot_int | exact PyProof.Rows.boot_int | decide +kernel
theorem bt_str : bootBuiltins "str" = some (.type "str") := by first | exact PySem.boot_str | exact PyProof.Rows.boot_str | decide +kernel
theorem bt_bool : bootBuiltins "bool" = some (.type "bool") := by first | exact PySem.boot_bool | exact PyProof.Rows.boot_bool | decide +kernel
theorem bt_tuple : bootBuiltins "tuple" = some (.type "tuple") := by first | exact PySem.boot_tuple | exact PyProof.Rows.boot_tuple | decide +kernel
theorem bt_list : bootBuiltins "list" = some (.type "list") := by first | exact PySem.boot_list | exact PyProof.Rows.boot_list | decide +kernel
theorem bt_dict : bootBuiltins "dict" = some (.type "dict") := by first | exact PySem.boot_dict | exact PyProof.Rows.boot_dict | decide +kernel
theorem bt_range : bootBuiltins "range" = some (.type "range") := by first | exact PySem.boot_range | exact PyProof.Rows.boot_range | decide +kernel
theorem bt_enumerate : bootBuiltins "enumerate" = some (.type "enumerate") := by first | exact PySem.boot_enumerate | exact PyProof.Rows.boot_enumerate | decide +kernel
theorem bt_zip : bootBuiltins "zip" = some (.type "zip") := by first | exact PySem.boot_zip | exact PyProof.Rows.boot_zip | decide +kernel
theorem bt_type : bootBuiltins "type" = some (.type "type") := by first | exact PySem.boot_type | exact PyProof.Rows.boot_type | decide +kernel

structure OkF (P : Program) (w : World) (K : PySem.W.Frag) (mg : Str → Option Value) (base : Heap) (x : Str) (k : Nat) (ps : List Str) (sp : Sp) : Prop where
  ex : ∃ f fd, mg x = some (.ref f) ∧ PySem.W.keepIn K (.ref f) = true ∧ Binds K fd ps [] ∧ FnOk P w K mg base CX0 k f fd ps sp
structure DefF (K : PySem.W.Frag) (mg : Str → Option Value) (x : Str) (st : Stmt) (ps : List Str) : Prop where
  ex : ∃ f fd, mg x = some (.ref f) ∧ PySem.W.keepIn K (.ref f) = true ∧ Binds K fd ps [] ∧ Fun K x x st f fd
section
variable {P : Program} {w : World} {K : PySem.W.Frag} {mg : Str → Option Value} {base : Heap}
theorem DefF.ok {x : Str} {st : Stmt} {N ps : List Str} {k : Nat} {sp : Sp} (F : DefF K mg x st ps) (S : FnScope N ps (defScope st)) (len : ∀ vs H Q E, sp vs H Q E → vs.length = ps.length)
    (hbody : ∀ (f : Addr) (cdv : Value) (A : Around) (outer : List Env) (s : Shared) (H : Hp) (vs : List V) (Q : VK) (E : XK), Room k (A.deeper (envOfC x (defScope st) s.heap.objs.size f cdv)) → sp vs H Q E →
      ∃ t, PSs (cxOf CX0 P w K mg base N x (defScope st) f cdv A outer s H E).nox (defBody st) t ∧ t { nx := fun _ H' => Q .non H', rt := Q } (start N vs) H) : OkF P w K mg base x (k + 1) ps sp := by
  obtain ⟨f, fd, h1, h2, h3, h4⟩ := F.ex
  exact ⟨f, fd, h1, h2, h3, h4.ok S len (hbody f)⟩
theorem DefF.mk' {x : Str} {st : Stmt} {ps : List Str} {f : Addr} {oc : Value} {od an : Option Addr} {osl : Array (Option Value)} {kV doc pm cdv ct : Value} {h : Heap} (X : K.In h) (G : h.Ns mainGlobals mg)
    (a : PySem.W.nsIn K mainGlobals x = some (some (.ref f)))
    (l : K.lookup f = some ⟨oc, od, .func (PySem.W.fnOf x x (defArgs st) (defBody st) (defScope st) .none kV doc pm an cdv ct), osl⟩) (c : PySem.W.codeIn K cdv x = true) (k : PySem.W.keepIn K (.ref f) = true)
    (hb : ∀ (kV doc pm : Value) (an : Option Addr) (cdv ct : Value) (us : List Value), us.length = ps.length → bindArgs (PySem.W.fnOf x x (defArgs st) (defBody st) (defScope st) .none kV doc pm an cdv ct) ⟨us, []⟩ = pure (ps.zip us)) : DefF K mg x st ps :=
  ⟨f, _, PySem.W.mg_of X G a, k, (fun_mk l c k).binds hb, fun_mk l c k⟩
end
section
variable {X : Cx} {k : Nat} {ps : List Str} {sp : Sp} {x : Str} {p pos : Pos} {e : Expr} {es : List Expr} {t : TA}
theorem pe_callF (F : OkF X.prog X.w X.K X.mg X.base x k ps sp) (hr : Room k X.A) (hg : Gl X x) (ha : PA X (e :: es) t) (hdb : (x == ("__debug__" : Str)) = false := by decide)
    (he : starEach (e :: es) X.env = (false, eval e X.env) :: starEach es X.env := by rfl) (hpl : (backTo pos (starEach es X.env)).any (·.1) = false := by rfl) : PE X (.Call (.Name x p) (e :: es) [] pos) (tCall sp [] E0 t) := by
  obtain ⟨f, fd, h1, h2, h3, h4⟩ := F.ex
  exact pe_call h4 hr hg h1 h2 h3 .nil pass0 ha hdb he hpl
theorem pe_callF0 (F : OkF X.prog X.w X.K X.mg X.base x k ps sp) (hr : Room k X.A) (hg : Gl X x) (hdb : (x == ("__debug__" : Str)) = false := by decide) : PE X (.Call (.Name x p) [] [] pos) (tCall sp [] E0 tNil) := by
  obtain ⟨f, fd, h1, h2, h3, h4⟩ := F.ex
  exact pe_call0 h4 hr hg h1 h2 h3 .nil pass0 hdb
end

def cmpOk (N : List Str) (outer scope : Scope) (M : List Str) (src : List (Option Nat)) : Bool :=
  (match scope.kind with | .function => true | _ => false) &&
  scope.names.all (fun y => decide (y.2 ≠ .cell)) &&
  scope.names.all (fun y => !decide (y.2 = .free) || (decide (outer.names.lookup y.1 = some .cell) || decide (outer.names.lookup y.1 = some .free))) &&
  scope.names.all (fun y => !decide (y.2 = .local) || decide (scope.names.lookup y.1 = some .local)) &&
  scope.names.all (fun y => !decide (y.2 = .free) || decide (scope.names.lookup y.1 = some .free)) &&
  decide (M.length = src.length) && decide M.Nodup &&
  (M.zip src).all (fun p => match p.2 with | none => true | some j => decide (N[j]? = some p.1) && decide ((p.1, NameKind.free) ∈ scope.names))
theorem CmpScope.of {N : List Str} {outer scope : Scope} {M : List Str} {src : List (Option Nat)} (h : cmpOk N outer scope M src = true) : CmpScope N outer scope M src := by
  unfold cmpOk at h
  simp only [Bool.and_eq_true, List.all_eq_true, Bool.or_eq_true, Bool.not_eq_true', decide_eq_true_eq, decide_eq_false_iff_not] at h
  obtain ⟨⟨⟨⟨⟨⟨⟨h1, h2⟩, h3⟩, h4⟩, h5⟩, h6⟩, h7⟩, h8⟩ := h
  refine ⟨?_, h2, fun y hy e => (h3 y hy).resolve_left fun z => z e, fun y hy e => (h4 y hy).resolve_left fun z => z e, fun y hy e => (h5 y hy).resolve_left fun z => z e, h6, h7, fun p hp j hj => ?_⟩
  · revert h1
    cases scope.kind <;> simp
  · have := h8 p hp
    cases e : p.2 with
    | none => rw [e] at hj; cases hj
    | some j' =>
      rw [e] at hj this
      cases hj
      simpa using this

def Plain (J : It) (xs : List V) (ok : Hp → Prop) : Prop := ∀ i H, ok H → (i < xs.length → J.go i H) ∧ (i = xs.length → J.stop i H) ∧ ∀ x H', i < xs.length → J.yld i H x H' → H' = H ∧ xs[i]? = some x
theorem plain_list {K : PySem.W.Frag} {a : Addr} {xs : List V} : Plain (Itl K a) xs (fun H => SqL K H a xs) := fun i H h =>
  ⟨fun hi => ⟨xs, xs[i], h, by simp [hi]⟩, fun e => ⟨xs, h, by omega⟩, fun x H' _ y => ⟨y.1, y.2 xs h⟩⟩
theorem plain_tup {K : PySem.W.Frag} {a : Addr} {xs : List V} : Plain (Itt K a) xs (fun H => SqT K H a xs) := fun i H h =>
  ⟨fun hi => ⟨xs, xs[i], h, by simp [hi]⟩, fun e => ⟨xs, h, by omega⟩, fun x H' _ y => ⟨y.1, y.2 xs h⟩⟩
def rangeV (lo : Int) (n : Nat) : List V := (List.range n).map fun (i : Nat) => V.int (lo + i)
theorem plain_range {lo : Int} {n : Nat} : Plain (Itr lo n) (rangeV lo n) (fun _ => True) := fun i H h => by
  refine ⟨fun hi => ?_, fun e => ?_, fun x H' hi y => ?_⟩
  · show i < n
    simpa [rangeV] using hi
  · show n ≤ i
    simp [rangeV] at e
    omega
  · obtain ⟨e, rfl⟩ := y
    refine ⟨e, ?_⟩
    unfold rangeV at hi ⊢
    rw [List.length_map, List.length_range] at hi
    rw [List.getElem?_map, List.getElem?_range hi]
    rfl
def signV (x : Str) : List V := x.cps.toList.map fun c => V.str ⟨#[c]⟩
theorem plain_str {x : Str} : Plain (Its x) (signV x) (fun _ => True) := fun i H h => by
  refine ⟨fun hi => ?_, fun e => ?_, fun v H' hi y => ?_⟩
  · show i < x.cps.size
    simpa [signV] using hi
  · show i = x.cps.size
    simpa [signV] using e
  · obtain ⟨e, c, hc, rfl⟩ := y
    refine ⟨e, ?_⟩
    unfold signV
    rw [List.getElem?_map, Array.getElem?_toList, hc]
    rfl
theorem wk_set {σ : St} {i : Nat} {v : V} (h : σ[i]? = some none) : Wk σ (σ.set i (some v)) := by
  refine ⟨by simp, fun j w e => ?_⟩
  have ne : i ≠ j := fun z => by subst z; rw [h] at e; cases e
  rw [List.getElem?_set_ne ne]
  exact e
def CompW (src : List (Option Nat)) (g : TG) (tt : TT) (te : TE) (σ : St) (J : It) (H1 : Hp) (Q : VK) (D : Addr) : Prop := ∃ W : Nat → Nat → Hp → Prop, (∃ m, W 0 m (upd H1 D (.lst []))) ∧ ∀ i m H, W i m H →
  (J.stop i H ∧ Q (.ref D) H) ∨ (J.go i H ∧ ∃ N : Hp → Prop, (∀ H', N H' → ∃ m', m' < m ∧ W (i + 1) m' H') ∧ ∀ x H', J.yld i H x H' →
    g x (stC src σ) H' fun σ2 H2 => Wk (stC src σ) σ2 ∧ tt σ2 H2 fun b H3 => if b = true then te σ2 H3 fun v H4 => ∃ ys, H4 D = some (.lst ys) ∧ ys.length < sizeLine ∧ N (upd H4 D (.lst (ys ++ [v]))) else N H3)
theorem comp_by {src : List (Option Nat)} {g : TG} {tt : TT} {te : TE} {σ : St} {J : It} {xs : List V} {ok : Hp → Prop} {H1 : Hp} {Q : VK} {D : Addr} (pl : Plain J xs ok) (Pv : Nat → Hp → Prop) (h0 : Pv 0 (upd H1 D (.lst [])))
    (hok : ∀ i H, i ≤ xs.length → Pv i H → ok H)
    (hs : ∀ i x H, xs[i]? = some x → Pv i H → g x (stC src σ) H fun σ2 H2 => Wk (stC src σ) σ2 ∧ tt σ2 H2 fun b H3 => if b = true then te σ2 H3 fun v H4 => ∃ ys, H4 D = some (.lst ys) ∧ ys.length < sizeLine ∧ Pv (i + 1) (upd H4 D (.lst (ys ++ [v]))) else Pv (i + 1) H3)
    (hd : ∀ H, Pv xs.length H → Q (.ref D) H) : CompW src g tt te σ J H1 Q D := by
  refine ⟨fun i m H => m = xs.length - i ∧ i ≤ xs.length ∧ Pv i H, ⟨xs.length, by simp, Nat.zero_le _, h0⟩, ?_⟩
  rintro i m H ⟨rfl, hi, p⟩
  obtain ⟨p1, p2, p3⟩ := pl i H (hok i H hi p)
  by_cases hlt : i < xs.length
  · refine .inr ⟨p1 hlt, Pv (i + 1), fun H' p' => ⟨xs.length - (i + 1), by omega, rfl, hlt, p'⟩, fun x H' y => ?_⟩
    obtain ⟨e, y'⟩ := p3 x H' hlt y
    subst e
    exact hs i x H' y' p
  · have e : i = xs.length := by omega
    subst e
    exact .inl ⟨p2 rfl, hd H p⟩
theorem comp_rel {src : List (Option Nat)} {k : Nat} {tt : TT} {te : TE} {σ : St} {J : It} {xs : List V} {ok : Hp → Prop} {H1 : Hp} {Q : VK} {D : Addr} (pl : Plain J xs ok) (hD : H1 D = none) (hok : ∀ H, Same H1 H → ok H) (hz : xs.length ≤ sizeLine)
    (hk : (stC src σ)[k]? = some none) (p : V → Bool) (R : V → V → Hp → Prop) (mono : ∀ x v H H', (∀ b o, b ≠ D → H b = some o → H' b = some o) → R x v H → R x v H')
    (ht : ∀ (i : Nat) x H, xs[i]? = some x → Same H1 H → ∀ Q' : Bool → Hp → Prop, (∀ H', Same H H' → Q' (p x) H') → tt ((stC src σ).set k (some x)) H Q')
    (he : ∀ (i : Nat) x H, xs[i]? = some x → p x = true → Same H1 H → ∀ Q' : VK, (∀ v H', Same H H' → R x v H' → Q' v H') → te ((stC src σ).set k (some x)) H Q')
    (hd : ∀ ys H, Same H1 H → H D = some (.lst ys) → Paired (fun x v => R x v H) (xs.filter p) ys → Q (.ref D) H) : CompW src (gName k) tt te σ J H1 Q D := by
  have S0 : Same H1 (upd H1 D (.lst [])) := fun b o e => by rw [upd_ne (ne_of_none e hD)]; exact e
  refine comp_by pl (fun i H => Same H1 H ∧ ∃ ys, H D = some (.lst ys) ∧ Paired (fun x v => R x v H) ((xs.take i).filter p) ys) ⟨S0, [], upd_same, by simpa using Paired.nil⟩ (fun i H _ h => hok H h.1) ?_ ?_
  · rintro i x H hx ⟨S, ys, hl, hP⟩
    have hi : i < xs.length := (List.getElem?_eq_some_iff.mp hx).1
    refine ⟨wk_set hk, ht i x H hx S _ fun H3 S3 => ?_⟩
    have lift : ∀ {H H'}, Same H H' → ∀ b o, b ≠ D → H b = some o → H' b = some o := fun s b o _ e => s b o e
    have tk := take_succ_filter p xs i x hx
    have hlen : ys.length ≤ i := by
      rw [← hP.length]
      exact Nat.le_trans (List.length_filter_le _ _) (by rw [List.length_take]; omega)
    cases e : p x with
    | false =>
      rw [if_neg (by simp)]
      refine ⟨S.trans S3, ys, S3 _ _ hl, ?_⟩
      rw [tk, e]
      simp only [Bool.false_eq_true, if_false, List.append_nil]
      exact Paired.imp' (fun a b q => mono a b _ _ (lift S3) q) hP
    | true =>
      rw [if_pos rfl]
      refine he i x H3 hx e (S.trans S3) _ fun v H4 S4 r => ?_
      have hl4 : H4 D = some (.lst ys) := S4 _ _ (S3 _ _ hl)
      have up : ∀ b o, b ≠ D → H4 b = some o → (upd H4 D (.lst (ys ++ [v]))) b = some o := fun b o nb e => by rw [upd_ne nb]; exact e
      refine ⟨ys, hl4, by omega, fun b o e => ?_, ys ++ [v], upd_same, ?_⟩
      · have nb : b ≠ D := ne_of_none e hD
        rw [upd_ne nb]
        exact S4 _ _ (S3 _ _ (S _ _ e))
      · rw [tk, e]
        simp only [if_true]
        exact Paired.snoc (Paired.imp' (fun a b q => mono a b _ _ (fun b o nb e => up b o nb (S4 _ _ (S3 _ _ e))) q) hP) (mono _ _ _ _ up r)
  · rintro H ⟨S, ys, hl, hP⟩
    rw [List.take_length] at hP
    exact hd ys H S hl hP

theorem tComp_eq {src : List (Option Nat)} {wi : TI} {g : TG} {tt : TT} {te : TE} {σ : St} {H : Hp} {Q : VK} : tComp src wi g tt te σ H Q = wi σ H fun J H1 => ∀ D, H1 D = none → CompW src g tt te σ J H1 Q D := rfl
def ForW (g : TG) (tb : TS) (D : Ends) (J : It) (σ : St) (H1 : Hp) : Prop := ∃ W : Nat → Nat → St → Hp → Prop, (∃ m, W 0 m σ H1) ∧ ∀ i m σ H, W i m σ H →
  (J.stop i H ∧ D.nx σ H) ∨ (J.go i H ∧ ∃ N : St → Hp → Prop, (∀ σ' H', N σ' H' → ∃ m', m' < m ∧ W (i + 1) m' σ' H') ∧ ∀ x H', J.yld i H x H' → g x σ H' fun σ2 H2 => tb { D with nx := N, ct := N, bk := D.nx } σ2 H2)
theorem tFor_eq {wi : TI} {g : TG} {tb : TS} {D : Ends} {σ : St} {H : Hp} : tFor wi g tb D σ H = wi σ H fun J H1 => ForW g tb D J σ H1 := rfl
theorem for_plain {g : TG} {tb : TS} {D : Ends} {J : It} {xs : List V} {ok : Hp → Prop} {σ : St} {H1 : Hp} (pl : Plain J xs ok) (Pv : Nat → St → Hp → Prop) (h0 : Pv 0 σ H1) (hok : ∀ i σ H, i ≤ xs.length → Pv i σ H → ok H)
    (hs : ∀ i x σ H, xs[i]? = some x → Pv i σ H → g x σ H fun σ2 H2 => tb { D with nx := Pv (i + 1), ct := Pv (i + 1), bk := D.nx } σ2 H2) (hd : ∀ σ H, Pv xs.length σ H → D.nx σ H) : ForW g tb D J σ H1 := by
  refine ⟨fun i m σ H => m = xs.length - i ∧ i ≤ xs.length ∧ Pv i σ H, ⟨xs.length, by simp, Nat.zero_le _, h0⟩, ?_⟩
  rintro i m σ H ⟨rfl, hi, p⟩
  obtain ⟨p1, p2, p3⟩ := pl i H (hok i σ H hi p)
  by_cases hlt : i < xs.length
  · refine .inr ⟨p1 hlt, Pv (i + 1), fun σ' H' p' => ⟨xs.length - (i + 1), by omega, rfl, hlt, p'⟩, fun x H' y => ?_⟩
    obtain ⟨e, y'⟩ := p3 x H' hlt y
    subst e
    exact hs i x σ H' y' p
  · have e : i = xs.length := by omega
    subst e
    exact .inl ⟨p2 rfl, hd σ H p⟩
theorem pe_globE {X : Cx} {x : Str} {v : V} {pos : Pos} (hg : Gl X x) (hm : ∃ u, X.mg x = some u ∧ RelV v u) (hd : (x == ("__debug__" : Str)) = false := by decide) : PE X (.Name x pos) (tC v) := by
  obtain ⟨u, h1, h2⟩ := hm
  exact pe_glob hg h1 h2 hd
end L2

namespace L2
open PySem PySem.Spec PyProof.Rows
section
variable {X : Cx} {K : PySem.W.Frag} {tg : Expr}
theorem call_lenK (h : X.K = K) : CallR X (.builtin "len") (fun xs H Q => ∃ x n, xs = [x] ∧ LenV K x H n ∧ Q (.int n) H) := by subst h; exact call_len
theorem call_allK (h : X.K = K) (hc : X.calm = true) : CallR X (.builtin "all") (fun xs H Q => ∃ (a : Addr) (bs : List Bool), xs = [.ref a] ∧ SqL K H a (bs.map V.bl) ∧ Q (.bl (bs.all id)) H) := by subst h; exact call_all hc
theorem call_anyK (h : X.K = K) (hc : X.calm = true) : CallR X (.builtin "any") (fun xs H Q => ∃ (a : Addr) (bs : List Bool), xs = [.ref a] ∧ SqL K H a (bs.map V.bl) ∧ Q (.bl (bs.any id)) H) := by subst h; exact call_any hc
theorem call_isinstK (h : X.K = K) : CallR X (.builtin "isinstance") (fun xs H Q => ∃ x c t b, xs = [x, .ty c] ∧ TyOf K H x t ∧ PySem.W.kitOne K t (.type c) = some b ∧ Q (.bl b) H) := by subst h; exact call_isinst
theorem ix_listK (h : X.K = K) : IxR X (rIxL K) := by subst h; exact ix_list
theorem ix_tupK (h : X.K = K) : IxR X (rIxT K) := by subst h; exact ix_tup
theorem sl_listK (h : X.K = K) : SlR X (rSlL K) := by subst h; exact sl_list
theorem sl_tupK (h : X.K = K) : SlR X (rSlT K) := by subst h; exact sl_tup
theorem op_in_seqK (h : X.K = K) : OpR X (compareOp .In) (rIn K false) := by subst h; exact op_in_seq
theorem op_notIn_seqK (h : X.K = K) : OpR X (compareOp .NotIn) (rIn K true) := by subst h; exact op_notIn_seq
theorem op_catTK (h : X.K = K) : OpR X (binaryOp .Add) (rCatT K) := by subst h; exact op_catT
theorem pi_listK (h : X.K = K) {l : Expr} {tl : TE} (hl : PE X l tl) : PI X tg l (iList K tl) := by subst h; exact pi_list hl
theorem pi_tupK (h : X.K = K) {l : Expr} {tl : TE} (hl : PE X l tl) : PI X tg l (iTup K tl) := by subst h; exact pi_tup hl
theorem mt_joinK (h : X.K = K) : MtR X "str.join" (fun x vs H Q => ∃ (a : Str) (l : Addr) (ts : List Str), x = .str a ∧ vs = [.ref l] ∧ SqL K H l (ts.map V.str) ∧ JoinOk a ts = true ∧ Q (.str (Txt.join a ts)) H) := by subst h; exact mt_join
theorem call_tuple_ofK (h : X.K = K) : CallR X (.type "tuple") (fun xs H Q => ∃ p ys, xs = [.ref p] ∧ ((SqL K H p ys ∧ ∀ l, H l = none → Q (.ref l) (upd H l (.tup ys))) ∨ (SqT K H p ys ∧ Q (.ref p) H))) := by subst h; exact call_tuple_of
theorem call_list_ofK (h : X.K = K) : CallR X (.type "list") (fun xs H Q => ∃ p ys, xs = [.ref p] ∧ (SqL K H p ys ∨ SqT K H p ys) ∧ ∀ l, H l = none → Q (.ref l) (upd H l (.lst ys))) := by subst h; exact call_list_of
theorem pt_truthK {a : Expr} {ta : TE} (h : X.K = K) (ha : PE X a ta) (he : ∀ whole, isTrue a X.env whole = (do let v ← whole; standAt a.pos; holding [v] (truthy v))) :
    PT X a (fun σ H Q => ta σ H fun x H' => ∃ k, TruV K x H' k ∧ Q k H') := by subst h; exact pt_truth ha he
theorem pe_bmK {o e : Expr} {es : List Expr} {to : TE} {t : TA} {name : Str} {apos cpos : Pos} {T id : String} {r : V → List V → Hp → VK → Prop} (h : X.K = K) (pa : PlainAttrs T) (slot : Slot T name id) (hty : typeOf (.builtin id) = pure (.type "method_descriptor")) (hm : MtR X id r) (ho : PE X o to) (ha : PA X (e :: es) t)
    (hbase : attributeBase o name X.env (eval o X.env) = eval o X.env := by rfl)
    (hfew : ((backTo cpos (starEach (e :: es) X.env)).all (fun x => !x.1) && (backToKw cpos (keywordEach [] X.env)).all (fun x => x.1.isSome)
      && decide ((e :: es).length + ([] : List Keyword).length + (if ([] : List Keyword).isEmpty then 0 else 1) < 30)) = true := by rfl)
    (hline : (apos.endLine == cpos.line) = true := by rfl) (hs : starEach (e :: es) X.env = (false, eval e X.env) :: starEach es X.env := by rfl) (hplain : (backTo cpos (starEach es X.env)).any (·.1) = false := by rfl) :
    PE X (.Call (.Attribute o name apos) (e :: es) [] cpos) (tBM K T r to t) := by subst h; exact pe_bm pa slot hty hm ho ha hbase hfew hline hs hplain
end
end L2

namespace L2
open PySem PySem.Spec PyProof.Rows
def relabelS (scope outer : Scope) : Scope := { scope with names := scope.names.map fun (n, k) => if (k == .free && outer.kind == .function && outer.names.lookup n == some .cell) then (n, .cell) else (n, k) }
theorem relabel_eq (scope : Scope) (env : Env) : relabel scope env = relabelS scope env.scope := rfl
def nmOk (sc : Scope) (N : List Str) (i : Nat) (x : Str) : Bool :=
  decide (N[i]? = some x) && (decide (sc.names.lookup x = some .local) || (decide (sc.names.lookup x = some .cell) || decide (sc.names.lookup x = some .free))) && !(x == ("__debug__" : Str)) && !(x == ("__classdict__" : Str))
def lcOk (sc : Scope) (x : Str) : Bool := decide (sc.names.lookup x = some .local) || decide (sc.names.lookup x = some .cell)
def glOk (sc : Scope) (x : Str) : Bool := decide (sc.names.lookup x = some .globalImplicit) && !(x == ("__debug__" : Str)) && !decide (x = ("__name__" : Str))
section
variable {sc : Scope} {N : List Str} {i : Nat} {x : Str}
theorem nm_nth (h : nmOk sc N i x = true) : N[i]? = some x := by
  unfold nmOk at h
  simp only [Bool.and_eq_true, decide_eq_true_eq] at h
  exact h.1.1.1
theorem nm_vis (h : nmOk sc N i x = true) : Vis sc x := by
  unfold nmOk at h
  simp only [Bool.and_eq_true, Bool.or_eq_true, decide_eq_true_eq] at h
  exact h.1.1.2
theorem nm_dbg (h : nmOk sc N i x = true) : (x == ("__debug__" : Str)) = false := by
  unfold nmOk at h
  simp only [Bool.and_eq_true, Bool.not_eq_true'] at h
  exact h.1.2
theorem nm_cd (h : nmOk sc N i x = true) : (x == ("__classdict__" : Str)) = false := by
  unfold nmOk at h
  simp only [Bool.and_eq_true, Bool.not_eq_true'] at h
  exact h.2
theorem lc_loc (h : lcOk sc x = true) : Loc sc x := by
  unfold lcOk at h
  simp only [Bool.or_eq_true, decide_eq_true_eq] at h
  exact h
theorem gl_kind (h : glOk sc x = true) : sc.names.lookup x = some .globalImplicit := by
  unfold glOk at h
  simp only [Bool.and_eq_true, decide_eq_true_eq] at h
  exact h.1.1
theorem gl_dbg (h : glOk sc x = true) : (x == ("__debug__" : Str)) = false := by
  unfold glOk at h
  simp only [Bool.and_eq_true, Bool.not_eq_true'] at h
  exact h.1.2
theorem gl_name (h : glOk sc x = true) : x ≠ ("__name__" : Str) := by
  unfold glOk at h
  simp only [Bool.and_eq_true, Bool.not_eq_true', decide_eq_false_iff_not] at h
  exact h.2
end
def ScIs (X : Cx) (sc : Scope) : Prop := X.env.scope = sc
section
variable {X : Cx} {sc : Scope} {N : List Str} {x : Str} {pos p : Pos}
theorem pvD (i : Nat) (h : nmOk sc N i x = true) (e1 : ScIs X sc := by rfl) (e2 : X.N = N := by rfl) : PE X (.Name x pos) (tVar i) := by
  have e1 : X.env.scope = sc := e1
  subst e1 e2
  exact pe_var (nm_nth h) (nm_vis h) (nm_dbg h) (nm_cd h)
theorem glD (h : glOk sc x = true) (e1 : ScIs X sc := by rfl) : Gl X x := by
  have e1 : X.env.scope = sc := e1
  subst e1
  exact gl_kind h
theorem ps_setD {i : Nat} {e : Expr} {te : TE} {pos' : Pos} (h : nmOk sc N i x = true) (hl : lcOk sc x = true) (nd : N.Nodup) (he : PE X e te) (e1 : ScIs X sc := by rfl) (e2 : X.N = N := by rfl) (hf : X.fn x = true ∨ X.env.scope.names.lookup x = some .local := by exact .inl rfl)
    (hs : swapsWith e (some (.Name x pos')) pos.line X.env = pure false := by rfl) : PS X (.Assign [.Name x pos'] e pos) (tAsg te (gName i)) := by
  have e1 : X.env.scope = sc := e1
  subst e1 e2
  exact ps_set nd (nm_nth h) (lc_loc hl) he hs hf
theorem pg_nameD {i : Nat} (h : nmOk sc N i x = true) (hl : lcOk sc x = true) (nd : N.Nodup) (e1 : ScIs X sc := by rfl) (e2 : X.N = N := by rfl) (hf : X.fn x = true ∨ X.env.scope.names.lookup x = some .local := by exact .inl rfl) : PG X (.Name x pos) (gName i) := by
  have e1 : X.env.scope = sc := e1
  subst e1 e2
  exact pg_name nd (nm_nth h) (lc_loc hl) hf
def loOk (sc : Scope) (x : Str) : Bool := decide (sc.names.lookup x = some .local)
theorem pg_nameC {i : Nat} (h : nmOk sc N i x = true) (hl : loOk sc x = true) (nd : X.N.Nodup) (e1 : ScIs X sc) (e2 : X.N = N := by rfl) : PG X (.Name x pos) (gName i) := by
  have e1 : X.env.scope = sc := e1
  subst e1 e2
  have hl : X.env.scope.names.lookup x = some .local := of_decide_eq_true hl
  exact pg_name nd (nm_nth h) (.inl hl) (.inr hl)
theorem pe_globD {v : V} (h : glOk sc x = true) (hm : ∃ u, X.mg x = some u ∧ RelV v u) (e1 : ScIs X sc := by rfl) : PE X (.Name x pos) (tC v) := pe_globE (glD h e1) hm (gl_dbg h)
theorem pe_bltnD {v : V} {u : Value} (h : glOk sc x = true) (hm : X.mg x = none) (hv : bootBuiltins x = some u) (r : RelV v u) (e1 : ScIs X sc := by rfl) : PE X (.Name x pos) (tC v) := pe_bltn (glD h e1) hm hv r (gl_name h) (gl_dbg h)
variable {e : Expr} {es : List Expr} {t : TA} {id T : String} {r : List V → Hp → VK → Prop} {k : Nat} {ps : List Str} {sp : Sp}
theorem pe_callBD (h : glOk sc x = true) (hc : CallR X (.builtin id) r) (hm : X.mg x = none) (hv : bootBuiltins x = some (.builtin id)) (ha : PA X (e :: es) t) (e1 : ScIs X sc := by rfl)
    (he : starEach (e :: es) X.env = (false, eval e X.env) :: starEach es X.env := by rfl) (hpl : (backTo pos (starEach es X.env)).any (·.1) = false := by rfl) : PE X (.Call (.Name x p) (e :: es) [] pos) (tCB r t) :=
  pe_callB hc (glD h e1) hm hv ha (gl_name h) (gl_dbg h) he hpl
theorem pe_callTyD (h : glOk sc x = true) (hc : CallR X (.type T) r) (hm : X.mg x = none) (hv : bootBuiltins x = some (.type T)) (ha : PA X (e :: es) t) (e1 : ScIs X sc := by rfl)
    (he : starEach (e :: es) X.env = (false, eval e X.env) :: starEach es X.env := by rfl) (hpl : (backTo pos (starEach es X.env)).any (·.1) = false := by rfl) : PE X (.Call (.Name x p) (e :: es) [] pos) (tCB r t) :=
  pe_callTy hc (glD h e1) hm hv ha (gl_name h) (gl_dbg h) he hpl
theorem pe_callFD (h : glOk sc x = true) (F : OkF X.prog X.w X.K X.mg X.base x k ps sp) (hr : Room k X.A) (ha : PA X (e :: es) t) (e1 : ScIs X sc := by rfl)
    (he : starEach (e :: es) X.env = (false, eval e X.env) :: starEach es X.env := by rfl) (hpl : (backTo pos (starEach es X.env)).any (·.1) = false := by rfl) : PE X (.Call (.Name x p) (e :: es) [] pos) (tCall sp [] E0 t) :=
  pe_callF F hr (glD h e1) ha (gl_dbg h) he hpl
theorem pe_callF0D (h : glOk sc x = true) (F : OkF X.prog X.w X.K X.mg X.base x k ps sp) (hr : Room k X.A) (e1 : ScIs X sc := by rfl) : PE X (.Call (.Name x p) [] [] pos) (tCall sp [] E0 tNil) := pe_callF0 F hr (glD h e1) (gl_dbg h)
variable {tg a b : Expr} {ta : TA}
theorem pi_range1D (h : glOk sc "range" = true) (hm : X.mg "range" = none) (ha : PA X [a] ta) (e1 : ScIs X sc := by rfl) (hs : starEach [a] X.env = [(false, eval a X.env)] := by rfl) : PI X tg (.Call (.Name "range" p) [a] [] pos) (iRng1 ta) := pi_range1 (glD h e1) hm ha hs
theorem pi_range2D (h : glOk sc "range" = true) (hm : X.mg "range" = none) (ha : PA X [a, b] ta) (e1 : ScIs X sc := by rfl) (hs : starEach [a, b] X.env = [(false, eval a X.env), (false, eval b X.env)] := by rfl) (hs2 : starEach [b] X.env = [(false, eval b X.env)] := by rfl) :
    PI X tg (.Call (.Name "range" p) [a, b] [] pos) (iRng2 ta) := pi_range2 (glD h e1) hm ha hs hs2
end
section
variable {X : Cx} {M : List Str} {scope outer : Scope} {C : Addr} {s : Shared} {H : Hp} {ex : List Addr} {x : Str} {pos p : Pos}
theorem scC (ho : ScIs X outer) : ScIs (cxC X M scope C s H ex) (relabelS scope outer) := by
  have ho : X.env.scope = outer := ho
  subst ho
  rfl
end
def constV : Expr → Option V
  | .Constant (.int i) _ _ => some (.int i)
  | .Constant (.str x) _ _ => some (.str x)
  | .Constant (.bool b) _ _ => some (.bl b)
  | .Constant .none _ _ => some .non
  | _ => none
def tVals (vs : List V) : TA := fun _ H Q => Q vs H
theorem pe_const {X : Cx} {e : Expr} {v : V} (h : constV e = some v) : PE X e (tC v) := by
  unfold constV at h
  split at h <;> cases h
  · exact pe_int
  · exact pe_str
  · exact pe_bl
  · exact pe_non
theorem star_const {e : Expr} {es : List Expr} {env : Env} {v : V} (h : constV e = some v) : starEach (e :: es) env = (false, eval e env) :: starEach es env := by
  unfold constV at h
  split at h <;> cases h <;> rfl
def constVs : List Expr → Option (List V)
  | [] => some []
  | e :: es => match constV e, constVs es with
    | some v, some vs => some (v :: vs)
    | _, _ => none
theorem pa_consts {X : Cx} : ∀ {es : List Expr} {vs : List V}, constVs es = some vs → PA X es (tVals vs)
  | [], vs, h => by
    cases h
    exact pa_nil
  | e :: es, vs, h => by
    unfold constVs at h
    split at h
    · rename_i v ws h1 h2
      cases h
      have := pa_cons (pe_const (X := X) h1) (pa_consts h2) (star_const h1)
      exact this
    · cases h
theorem scal_int {i j : Int} : (scal (.int i) (.int j) = true) = True := by simp [scal]
theorem scal_str {i j : Str} : (scal (.str i) (.str j) = true) = True := by simp [scal]
theorem scal_bl {i j : Bool} : (scal (.bl i) (.bl j) = true) = True := by simp [scal]
theorem truv_bl {K : PySem.W.Frag} {b k : Bool} {H : Hp} : TruV K (.bl b) H k = (k = b) := rfl
theorem truv_int {K : PySem.W.Frag} {i : Int} {k : Bool} {H : Hp} : TruV K (.int i) H k = (k = (i != 0)) := rfl
theorem truv_non {K : PySem.W.Frag} {k : Bool} {H : Hp} : TruV K .non H k = (k = false) := rfl
theorem lenv_str {K : PySem.W.Frag} {x : Str} {n : Nat} {H : Hp} : LenV K (.str x) H n = (x.length ≤ sizeLine ∧ n = x.length) := rfl
theorem lenv_ref {K : PySem.W.Frag} {p : Addr} {n : Nat} {H : Hp} : LenV K (.ref p) H n = ((∃ xs, SqL K H p xs ∧ n = xs.length) ∨ ∃ xs, SqT K H p xs ∧ n = xs.length) := rfl
theorem tyv_str {K : PySem.W.Frag} {T : String} {x : Str} {H : Hp} : tyV K T (.str x) H = (T = "str") := rfl
end L2

namespace L2
open PySem PySem.Spec PyProof.Rows

inductive Dt where
  | non | bl (b : Bool) | int (i : Int) | str (x : Str) | tup (l : List Dt) | lst (l : List Dt) | dct (ks : List Key) (l : List Dt) | dcT (ks : List (List Key)) (l : List Dt)

mutual
def peq : Dt → Dt → Bool
  | .non, .non => true
  | .bl a, .bl b => a == b
  | .bl a, .int j => (if a then (1 : Int) else 0) == j
  | .int i, .bl b => i == (if b then (1 : Int) else 0)
  | .int i, .int j => i == j
  | .str x, .str y => x == y
  | .tup l, .tup m => peqs l m
  | .lst l, .lst m => peqs l m
  | .dct ks l, .dct js m => decide (ks = js) && peqs l m
  | .dcT ks l, .dcT js m => decide (ks = js) && peqs l m
  | _, _ => false
def peqs : List Dt → List Dt → Bool
  | [], [] => true
  | d :: l, e :: m => peq d e && peqs l m
  | _, _ => false
end
mutual
theorem peq_self : ∀ d : Dt, peq d d = true
  | .non => by simp [peq]
  | .bl b => by simp [peq]
  | .int i => by simp [peq]
  | .str x => by simp [peq]
  | .tup l => by simp only [peq]; exact peqs_self l
  | .lst l => by simp only [peq]; exact peqs_self l
  | .dct ks l => by simp only [peq, decide_true, Bool.true_and]; exact peqs_self l
  | .dcT ks l => by simp only [peq, decide_true, Bool.true_and]; exact peqs_self l
theorem peqs_self : ∀ l : List Dt, peqs l l = true
  | [] => by simp [peqs]
  | d :: l => by simp only [peqs, peq_self d, peqs_self l, Bool.and_self]
end
mutual
def deep : Dt → Nat
  | .tup l => deeps l + 1
  | .lst l => deeps l + 1
  | _ => 0
def deeps : List Dt → Nat
  | [] => 0
  | d :: l => max (deep d) (deeps l)
end
mutual
def Rep (K : PySem.W.Frag) (H : Hp) : Dt → V → Prop
  | .non, v => v = .non
  | .bl b, v => v = .bl b
  | .int i, v => v = .int i
  | .str x, v => v = .str x
  | .tup l, v => ∃ a vs, v = .ref a ∧ SqT K H a vs ∧ Reps K H l vs
  | .lst l, v => ∃ a vs, v = .ref a ∧ SqL K H a vs ∧ Reps K H l vs
  | .dct ks l, v => ∃ a kvs, v = .ref a ∧ Rd H a (.dK kvs) ∧ kvs.map (·.1) = ks ∧ Reps K H l (kvs.map (·.2))
  | .dcT ks l, v => ∃ a kvs, v = .ref a ∧ Rd H a (.dT kvs) ∧ kvs.map (·.1) = ks ∧ Reps K H l (kvs.map (·.2))
def Reps (K : PySem.W.Frag) (H : Hp) : List Dt → List V → Prop
  | [], vs => vs = []
  | d :: l, vs => ∃ v ws, vs = v :: ws ∧ Rep K H d v ∧ Reps K H l ws
end
theorem Same.tup {K : PySem.W.Frag} {H H' : Hp} {a : Addr} {xs : List V} (e : Same H H') (h : SqT K H a xs) : SqT K H' a xs := by
  rcases h with (h | ⟨o, h⟩) | h
  · exact .inl (.inl (e _ _ h))
  · exact .inl (.inr ⟨o, e _ _ h⟩)
  · exact .inr h
theorem Same.rd {H H' : Hp} {a : Addr} {u : HO} (e : Same H H') (h : Rd H a u) : Rd H' a u := by
  rcases h with h | ⟨o, h⟩
  · exact .inl (e _ _ h)
  · exact .inr ⟨o, e _ _ h⟩
mutual
theorem Rep.same {K : PySem.W.Frag} {H H' : Hp} (e : Same H H') : ∀ {d : Dt} {v : V}, Rep K H d v → Rep K H' d v
  | .non, v, h => h
  | .bl _, v, h => h
  | .int _, v, h => h
  | .str _, v, h => h
  | .tup l, v, h => by
    unfold Rep at h ⊢
    obtain ⟨a, vs, h1, h2, h3⟩ := h
    exact ⟨a, vs, h1, e.tup h2, Reps.same e h3⟩
  | .lst l, v, h => by
    unfold Rep at h ⊢
    obtain ⟨a, vs, h1, h2, h3⟩ := h
    exact ⟨a, vs, h1, e.seq h2, Reps.same e h3⟩
  | .dct ks l, v, h => by
    unfold Rep at h ⊢
    obtain ⟨a, vs, h1, h2, h3, h4⟩ := h
    exact ⟨a, vs, h1, e.rd h2, h3, Reps.same e h4⟩
  | .dcT ks l, v, h => by
    unfold Rep at h ⊢
    obtain ⟨a, vs, h1, h2, h3, h4⟩ := h
    exact ⟨a, vs, h1, e.rd h2, h3, Reps.same e h4⟩
theorem Reps.same {K : PySem.W.Frag} {H H' : Hp} (e : Same H H') : ∀ {l : List Dt} {vs : List V}, Reps K H l vs → Reps K H' l vs
  | [], vs, h => h
  | d :: l, vs, h => by
    unfold Reps at h ⊢
    obtain ⟨v, ws, h1, h2, h3⟩ := h
    exact ⟨v, ws, h1, Rep.same e h2, Reps.same e h3⟩
end
theorem Reps.length {K : PySem.W.Frag} {H : Hp} : ∀ {l : List Dt} {vs : List V}, Reps K H l vs → vs.length = l.length
  | [], vs, h => by unfold Reps at h; rw [h]; rfl
  | d :: l, vs, h => by
    unfold Reps at h
    obtain ⟨v, ws, rfl, _, h3⟩ := h
    simp [Reps.length h3]
theorem Reps.get {K : PySem.W.Frag} {H : Hp} : ∀ {l : List Dt} {vs : List V} {i : Nat} {d : Dt}, Reps K H l vs → l[i]? = some d → ∃ v, vs[i]? = some v ∧ Rep K H d v
  | [], vs, i, d, h, e => by simp at e
  | d0 :: l, vs, 0, d, h, e => by
    unfold Reps at h
    obtain ⟨v, ws, rfl, h2, _⟩ := h
    simp at e
    subst e
    exact ⟨v, rfl, h2⟩
  | d0 :: l, vs, i + 1, d, h, e => by
    unfold Reps at h
    obtain ⟨v, ws, rfl, _, h3⟩ := h
    obtain ⟨u, e1, e2⟩ := Reps.get (i := i) h3 (by simpa using e)
    exact ⟨u, by simpa using e1, e2⟩
theorem Reps.append {K : PySem.W.Frag} {H : Hp} : ∀ {l m : List Dt} {vs ws : List V}, Reps K H l vs → Reps K H m ws → Reps K H (l ++ m) (vs ++ ws)
  | [], m, vs, ws, h, h' => by unfold Reps at h; rw [h]; exact h'
  | d :: l, m, vs, ws, h, h' => by
    unfold Reps at h
    obtain ⟨v, us, rfl, h2, h3⟩ := h
    show Reps K H (d :: (l ++ m)) (v :: (us ++ ws))
    unfold Reps
    exact ⟨v, _, rfl, h2, Reps.append h3 h'⟩
theorem Reps.one {K : PySem.W.Frag} {H : Hp} {d : Dt} {v : V} (h : Rep K H d v) : Reps K H [d] [v] := by
  unfold Reps
  exact ⟨v, [], rfl, h, by unfold Reps; rfl⟩
theorem Reps.take {K : PySem.W.Frag} {H : Hp} : ∀ {l : List Dt} {vs : List V} (n : Nat), Reps K H l vs → Reps K H (l.take n) (vs.take n)
  | _, _, 0, _ => by simp [Reps]
  | [], vs, n + 1, h => by unfold Reps at h; rw [h]; simp [Reps]
  | d :: l, vs, n + 1, h => by
    unfold Reps at h
    obtain ⟨v, us, rfl, h2, h3⟩ := h
    show Reps K H (d :: l.take n) (v :: us.take n)
    unfold Reps
    exact ⟨v, _, rfl, h2, Reps.take n h3⟩
theorem Reps.drop {K : PySem.W.Frag} {H : Hp} : ∀ {l : List Dt} {vs : List V} (n : Nat), Reps K H l vs → Reps K H (l.drop n) (vs.drop n)
  | _, _, 0, h => h
  | [], vs, n + 1, h => by unfold Reps at h; rw [h]; simp [Reps]
  | d :: l, vs, n + 1, h => by
    unfold Reps at h
    obtain ⟨v, us, rfl, h2, h3⟩ := h
    exact Reps.drop n h3
section
variable {X : Cx} {pins : List (Addr × Obj)} {σ : St} {H : Hp} {s : Shared} {K : PySem.W.Frag}
theorem Inv.notBoth {a : Addr} {xs ys : List V} (I : Inv X pins σ H s) (h : SqL X.K H a xs) (h' : SqT X.K H a ys) : False := by
  obtain ⟨its, r, pl, _⟩ := I.list h
  obtain ⟨its', r', pt, _⟩ := I.tuple h'
  obtain ⟨o, n, e, hc, _⟩ := pl
  obtain ⟨o', e', hc', _⟩ := pt
  rw [e] at e'
  cases e'
  rw [hc] at hc'
  injection hc' with z
  exact absurd z (by decide)
theorem rd_dK {a : Addr} {u w : List (Key × V)} (h : Rd H a (.dK u)) (h' : Rd H a (.dK w)) : u = w := by
  rcases h with h | ⟨o, h⟩ <;> rcases h' with h' | ⟨o', h'⟩ <;> rw [h] at h' <;> cases h' <;> rfl
theorem rd_dT {a : Addr} {u w : List (List Key × V)} (h : Rd H a (.dT u)) (h' : Rd H a (.dT w)) : u = w := by
  rcases h with h | ⟨o, h⟩ <;> rcases h' with h' | ⟨o', h'⟩ <;> rw [h] at h' <;> cases h' <;> rfl
theorem rd_some {a : Addr} {u : HO} (h : Rd H a u) : ∃ o, H a = some o := by
  rcases h with h | ⟨o, h⟩
  · exact ⟨_, h⟩
  · exact ⟨_, h⟩
theorem Inv.kNone (I : Inv X pins σ H s) {a : Addr} {o : Obj} (h : X.K.lookup a = some o) : H a = none := (I.bs a o (I.ok.mod.kin a o h)).2
theorem Inv.sqT_dK (I : Inv X pins σ H s) {a : Addr} {xs : List V} {u : List (Key × V)} (h : SqT X.K H a xs) (h' : Rd H a (.dK u)) : False := by
  rcases h with h | ⟨o, _, _, h, _⟩
  · rcases h with h | ⟨o, h⟩ <;> rcases h' with h' | ⟨o', h'⟩ <;> rw [h] at h' <;> cases h'
  · obtain ⟨o', e⟩ := rd_some h'
    rw [I.kNone h] at e
    cases e
theorem Inv.sqT_dT (I : Inv X pins σ H s) {a : Addr} {xs : List V} {u : List (List Key × V)} (h : SqT X.K H a xs) (h' : Rd H a (.dT u)) : False := by
  rcases h with h | ⟨o, _, _, h, _⟩
  · rcases h with h | ⟨o, h⟩ <;> rcases h' with h' | ⟨o', h'⟩ <;> rw [h] at h' <;> cases h'
  · obtain ⟨o', e⟩ := rd_some h'
    rw [I.kNone h] at e
    cases e
theorem Inv.sqL_dK (I : Inv X pins σ H s) {a : Addr} {xs : List V} {u : List (Key × V)} (h : SqL X.K H a xs) (h' : Rd H a (.dK u)) : False := by
  rcases h with h | ⟨o, _, _, h, _⟩
  · rcases h with h | ⟨o, h⟩ <;> rcases h' with h' | ⟨o', h'⟩ <;> rw [h] at h' <;> cases h'
  · obtain ⟨o', e⟩ := rd_some h'
    rw [I.kNone h] at e
    cases e
theorem Inv.sqL_dT (I : Inv X pins σ H s) {a : Addr} {xs : List V} {u : List (List Key × V)} (h : SqL X.K H a xs) (h' : Rd H a (.dT u)) : False := by
  rcases h with h | ⟨o, _, _, h, _⟩
  · rcases h with h | ⟨o, h⟩ <;> rcases h' with h' | ⟨o', h'⟩ <;> rw [h] at h' <;> cases h'
  · obtain ⟨o', e⟩ := rd_some h'
    rw [I.kNone h] at e
    cases e
theorem rd_dKT {a : Addr} {u : List (Key × V)} {w : List (List Key × V)} (h : Rd H a (.dK u)) (h' : Rd H a (.dT w)) : False := by
  rcases h with h | ⟨o, h⟩ <;> rcases h' with h' | ⟨o', h'⟩ <;> rw [h] at h' <;> cases h'
def kindD : Dt → Nat
  | .non => 0
  | .bl _ => 1
  | .int _ => 2
  | .str _ => 3
  | .tup _ => 4
  | .lst _ => 5
  | .dct _ _ => 6
  | .dcT _ _ => 7
theorem rep_kind (I : Inv X pins σ H s) {d e : Dt} {v : V} (h : Rep X.K H d v) (h' : Rep X.K H e v) : kindD d = kindD e := by
  cases d <;> cases e <;> first
    | rfl
    | (simp only [Rep] at h h'; subst h; cases h'; done)
    | (simp only [Rep] at h h'; obtain ⟨_, _, e, _⟩ := h'; rw [h] at e; cases e; done)
    | (simp only [Rep] at h h'; obtain ⟨_, _, e, _⟩ := h; rw [h'] at e; cases e; done)
    | (simp only [Rep] at h h'; obtain ⟨_, _, rfl, h2, _⟩ := h; obtain ⟨_, _, e, h2', _⟩ := h'; cases e
       first
         | exact (I.sqT_dK h2 h2').elim
         | exact (I.sqT_dK h2' h2).elim
         | exact (I.sqT_dT h2 h2').elim
         | exact (I.sqT_dT h2' h2).elim
         | exact (I.notBoth h2 h2').elim
         | exact (I.notBoth h2' h2).elim
         | exact (I.sqL_dK h2 h2').elim
         | exact (I.sqL_dK h2' h2).elim
         | exact (I.sqL_dT h2 h2').elim
         | exact (I.sqL_dT h2' h2).elim
         | exact (rd_dKT h2 h2').elim
         | exact (rd_dKT h2' h2).elim)
mutual
theorem rep_inj (I : Inv X pins σ H s) : ∀ (d e : Dt) (v : V), Rep X.K H d v → Rep X.K H e v → d = e := fun d => by
  match d with
  | .tup l =>
    intro e v h h'
    have hk := rep_kind I h h'
    cases e <;> first | (simp [kindD] at hk; done) | skip
    simp only [Rep] at h h'
    obtain ⟨a, vs, rfl, h2, h3⟩ := h
    obtain ⟨b, ws, e, h2', h3'⟩ := h'
    cases e
    have := I.tuple_inj h2 h2'
    subst this
    rw [reps_inj I l _ _ h3 h3']
  | .lst l =>
    intro e v h h'
    have hk := rep_kind I h h'
    cases e <;> first | (simp [kindD] at hk; done) | skip
    simp only [Rep] at h h'
    obtain ⟨a, vs, rfl, h2, h3⟩ := h
    obtain ⟨b, ws, e, h2', h3'⟩ := h'
    cases e
    have := I.list_inj h2 h2'
    subst this
    rw [reps_inj I l _ _ h3 h3']
  | .dct ks l =>
    intro e v h h'
    have hk := rep_kind I h h'
    cases e <;> first | (simp [kindD] at hk; done) | skip
    simp only [Rep] at h h'
    obtain ⟨a, vs, rfl, h2, h3, h4⟩ := h
    obtain ⟨b, ws, e, h2', h3', h4'⟩ := h'
    cases e
    have := rd_dK h2 h2'
    subst this
    subst h3 h3'
    rw [reps_inj I l _ _ h4 h4']
  | .dcT ks l =>
    intro e v h h'
    have hk := rep_kind I h h'
    cases e <;> first | (simp [kindD] at hk; done) | skip
    simp only [Rep] at h h'
    obtain ⟨a, vs, rfl, h2, h3, h4⟩ := h
    obtain ⟨b, ws, e, h2', h3', h4'⟩ := h'
    cases e
    have := rd_dT h2 h2'
    subst this
    subst h3 h3'
    rw [reps_inj I l _ _ h4 h4']
  | .non =>
    intro e v h h'
    have hk := rep_kind I h h'
    cases e <;> first | (simp [kindD] at hk; done) | rfl
  | .bl b =>
    intro e v h h'
    have hk := rep_kind I h h'
    cases e <;> first | (simp [kindD] at hk; done) | (simp only [Rep] at h h'; rw [h] at h'; cases h'; rfl)
  | .int b =>
    intro e v h h'
    have hk := rep_kind I h h'
    cases e <;> first | (simp [kindD] at hk; done) | (simp only [Rep] at h h'; rw [h] at h'; cases h'; rfl)
  | .str b =>
    intro e v h h'
    have hk := rep_kind I h h'
    cases e <;> first | (simp [kindD] at hk; done) | (simp only [Rep] at h h'; rw [h] at h'; cases h'; rfl)
theorem reps_inj (I : Inv X pins σ H s) : ∀ (l m : List Dt) (vs : List V), Reps X.K H l vs → Reps X.K H m vs → l = m := fun l => by
  match l with
  | [] =>
    intro m vs h h'
    cases m with
    | nil => rfl
    | cons e m => unfold Reps at h h'; obtain ⟨v, ws, e, _⟩ := h'; rw [h] at e; cases e
  | d :: l =>
    intro m vs h h'
    cases m with
    | nil => unfold Reps at h h'; obtain ⟨v, ws, e, _⟩ := h; rw [h'] at e; cases e
    | cons e m =>
      unfold Reps at h h'
      obtain ⟨v, ws, rfl, h2, h3⟩ := h
      obtain ⟨v', ws', e', h2', h3'⟩ := h'
      cases e'
      rw [rep_inj I d _ _ h2 h2', reps_inj I l _ _ h3 h3']
end
end
end L2

namespace L2
open PySem PySem.Spec PyProof.Rows
mutual
def cmpb : Dt → Dt → Bool
  | .tup l, .tup m => cmpbs l m
  | .lst l, .lst m => cmpbs l m
  | d, e => decide (kindD d < 4) && decide (kindD e < 4)
def cmpbs : List Dt → List Dt → Bool
  | d :: l, e :: m => cmpb d e && cmpbs l m
  | _, _ => true
end
theorem cmpbs_get : ∀ {l m : List Dt} {j : Nat} {d e : Dt}, cmpbs l m = true → l[j]? = some d → m[j]? = some e → cmpb d e = true
  | [], _, j, d, e, _, h, _ => by simp at h
  | _ :: _, [], j, d, e, _, _, h => by simp at h
  | d0 :: l, e0 :: m, 0, d, e, h, h1, h2 => by
    simp only [cmpbs, Bool.and_eq_true] at h
    simp at h1 h2
    subst h1 h2
    exact h.1
  | d0 :: l, e0 :: m, j + 1, d, e, h, h1, h2 => by
    simp only [cmpbs, Bool.and_eq_true] at h
    exact cmpbs_get (j := j) h.2 (by simpa using h1) (by simpa using h2)
theorem deep_get : ∀ {l : List Dt} {j : Nat} {d : Dt}, l[j]? = some d → deep d ≤ deeps l
  | [], j, d, h => by simp at h
  | d0 :: l, 0, d, h => by
    simp at h
    subst h
    simp only [deeps]
    exact Nat.le_max_left ..
  | d0 :: l, j + 1, d, h => by
    simp only [deeps]
    exact Nat.le_trans (deep_get (j := j) (by simpa using h)) (Nat.le_max_right ..)
def peqAt (l m : List Dt) (j : Nat) : Bool := peq (l.getD j .non) (m.getD j .non)
theorem peqs_range : ∀ (l m : List Dt), peqs l m = ((List.range (min l.length m.length)).all (peqAt l m) && l.length == m.length)
  | [], [] => by simp [peqs]
  | [], _ :: _ => by simp [peqs]
  | _ :: _, [] => by simp [peqs]
  | d :: l, e :: m => by
    have ih := peqs_range l m
    simp only [peqs, ih, List.length_cons]
    rw [show min (l.length + 1) (m.length + 1) = min l.length m.length + 1 by omega, List.range_succ_eq_map, List.all_cons, List.all_map]
    have e1 : peqAt (d :: l) (e :: m) 0 = peq d e := rfl
    have e2 : (peqAt (d :: l) (e :: m) ∘ Nat.succ) = peqAt l m := by
      funext j
      rfl
    have e3 : (l.length + 1 == m.length + 1) = (l.length == m.length) := by
      rw [Bool.eq_iff_iff]
      simp
    rw [e1, e2, e3, Bool.and_assoc]
section
variable {X : Cx} {pins : List (Addr × Obj)} {σ : St} {H : Hp} {s : Shared}
theorem items_get {l : List Dt} {vs : List V} {its : List Value} (h : Reps X.K H l vs) (r : Vals vs its) {j : Nat} (hj : j < its.length) : ∃ d v, l[j]? = some d ∧ Rep X.K H d v ∧ RelV v its[j] := by
  have hl : j < l.length := by rw [← h.length, r.length]; exact hj
  obtain ⟨v, e1, e2⟩ := h.get (i := j) (d := l[j]) (by simp [hl])
  obtain ⟨u, e3, e4⟩ := r.get e1
  have : its[j] = u := by
    have := List.getElem?_eq_getElem hj
    rw [this] at e3
    exact Option.some.inj e3
  exact ⟨l[j], v, by simp [hl], e2, by rw [this]; exact e4⟩
theorem eqAtD (I : Inv X pins σ H s) : ∀ (n : Nat) {A : Around} {d e : Dt} {v w : V} {u u' : Value}, deep d ≤ n → A.units + n < cLine → cmpb d e = true → Rep X.K H d v → Rep X.K H e w → RelV v u → RelV w u' → SeqAt.EqAt A s u u' (peq d e) := by
  intro n
  induction n with
  | zero =>
    intro A d e v w u u' hd hu hc h h' r r'
    cases d <;> cases e <;> first
      | (simp only [Rep] at h h'; subst h h'; exact eqAt_V r r' rfl rfl)
      | (simp only [deep] at hd; omega)
      | (simp [cmpb, kindD] at hc)
  | succ n ih =>
    intro A d e v w u u' hd hu hc h h' r r'
    cases d with
    | tup l =>
      cases e with
      | tup m =>
        have h0 := h
        have h0' := h'
        simp only [Rep] at h h'
        obtain ⟨a, vs, rfl, h2, h3⟩ := h
        obtain ⟨b, ws, rfl, h2', h3'⟩ := h'
        cases r
        cases r'
        by_cases hab : a = b
        · subst hab
          have := rep_inj I _ _ _ h0 h0'
          rw [this, peq_self]
          exact SeqAt.EqAt.same _
        obtain ⟨its, rv, pt, _⟩ := I.tuple h2
        obtain ⟨its', rv', pt', _⟩ := I.tuple h2'
        have n1 : its.length = l.length := by rw [← h3.length, rv.length]
        have n2 : its'.length = m.length := by rw [← h3'.length, rv'.length]
        simp only [peq]
        rw [peqs_range, ← n1, ← n2]
        simp only [deep] at hd
        simp only [cmpb] at hc
        have key := SeqAt.RcAt.tuples (A := A) (e := peqAt l m) pt pt' (by omega) (fun j h1 h2 => by
          have h1' : j < its.length := by simpa using h1
          have h2' : j < its'.length := by simpa using h2
          obtain ⟨d, v, g1, g2, g3⟩ := items_get h3 rv h1'
          obtain ⟨e, w, g1', g2', g3'⟩ := items_get h3' rv' h2'
          have : peqAt l m j = peq d e := by unfold peqAt; rw [List.getD_eq_getElem?_getD, List.getD_eq_getElem?_getD, g1, g1']; rfl
          rw [this]
          have := ih (A := A.in1) (Nat.le_trans (deep_get g1) (by omega)) (show A.units + 1 + n < cLine by omega) (cmpbs_get hc g1 g1') g2 g2' g3 g3'
          simpa using this)
        have key' : SeqAt.RcAt A s (.ref a) (.ref b) ((List.range (min its.length its'.length)).all (peqAt l m) && its.length == its'.length) := by simpa using key
        exact SeqAt.EqAt.of_refs hab key'
      | _ => exact absurd hc (by simp [cmpb, kindD])
    | lst l =>
      cases e with
      | lst m =>
        have h0 := h
        have h0' := h'
        simp only [Rep] at h h'
        obtain ⟨a, vs, rfl, h2, h3⟩ := h
        obtain ⟨b, ws, rfl, h2', h3'⟩ := h'
        cases r
        cases r'
        by_cases hab : a = b
        · subst hab
          have := rep_inj I _ _ _ h0 h0'
          rw [this, peq_self]
          exact SeqAt.EqAt.same _
        obtain ⟨its, rv, pt, _⟩ := I.list h2
        obtain ⟨its', rv', pt', _⟩ := I.list h2'
        have n1 : its.length = l.length := by rw [← h3.length, rv.length]
        have n2 : its'.length = m.length := by rw [← h3'.length, rv'.length]
        simp only [peq]
        rw [peqs_range, ← n1, ← n2]
        simp only [deep] at hd
        simp only [cmpb] at hc
        by_cases hlen : its.length = its'.length
        · have key := SeqAt.RcAt.lists (A := A) (e := peqAt l m) pt.isList pt'.isList (by simpa using hlen) (by omega) (fun j h1 h2 => by
            have h1' : j < its.length := by simpa using h1
            have h2' : j < its'.length := by simpa using h2
            obtain ⟨d, v, g1, g2, g3⟩ := items_get h3 rv h1'
            obtain ⟨e, w, g1', g2', g3'⟩ := items_get h3' rv' h2'
            have : peqAt l m j = peq d e := by unfold peqAt; rw [List.getD_eq_getElem?_getD, List.getD_eq_getElem?_getD, g1, g1']; rfl
            rw [this]
            have := ih (A := A.in1) (Nat.le_trans (deep_get g1) (by omega)) (show A.units + 1 + n < cLine by omega) (cmpbs_get hc g1 g1') g2 g2' g3 g3'
            simpa using this)
          have e1 : (its.length == its'.length) = true := by simpa using hlen
          rw [e1, Bool.and_true, show min its.length its'.length = its.length by omega]
          exact SeqAt.EqAt.of_refs hab (by simpa using key)
        · have e1 : (its.length == its'.length) = false := by simpa using hlen
          rw [e1, Bool.and_false]
          exact SeqAt.EqAt.of_refs hab (SeqAt.RcAt.lists_lengths pt.isList pt'.isList (by simpa using hlen) (by omega))
      | _ => exact absurd hc (by simp [cmpb, kindD])
    | non => cases e <;> first | (simp only [Rep] at h h'; subst h h'; exact eqAt_V r r' rfl rfl) | (simp [cmpb, kindD] at hc)
    | bl b => cases e <;> first | (simp only [Rep] at h h'; subst h h'; exact eqAt_V r r' rfl rfl) | (simp [cmpb, kindD] at hc)
    | int b => cases e <;> first | (simp only [Rep] at h h'; subst h h'; exact eqAt_V r r' rfl rfl) | (simp [cmpb, kindD] at hc)
    | str b => cases e <;> first | (simp only [Rep] at h h'; subst h h'; exact eqAt_V r r' rfl rfl) | (simp [cmpb, kindD] at hc)
    | dct ks l => cases e <;> (simp [cmpb, kindD] at hc)
    | dcT ks l => cases e <;> (simp [cmpb, kindD] at hc)
theorem rcAtD (I : Inv X pins σ H s) {A : Around} {d e : Dt} {v w : V} {u u' : Value} (hq : (∃ l m, d = .tup l ∧ e = .tup m) ∨ ∃ l m, d = .lst l ∧ e = .lst m) (hu : A.units + deep d < cLine) (hc : cmpb d e = true) (h : Rep X.K H d v) (h' : Rep X.K H e w) (r : RelV v u) (r' : RelV w u') :
    SeqAt.RcAt A s u u' (peq d e) ∧ SeqAt.RcNeAt A s u u' (!peq d e) := by
  rcases hq with ⟨l, m, rfl, rfl⟩ | ⟨l, m, rfl, rfl⟩
  · simp only [Rep] at h h'
    obtain ⟨a, vs, rfl, h2, h3⟩ := h
    obtain ⟨b, ws, rfl, h2', h3'⟩ := h'
    cases r
    cases r'
    obtain ⟨its, rv, pt, _⟩ := I.tuple h2
    obtain ⟨its', rv', pt', _⟩ := I.tuple h2'
    have n1 : its.length = l.length := by rw [← h3.length, rv.length]
    have n2 : its'.length = m.length := by rw [← h3'.length, rv'.length]
    simp only [peq]
    rw [peqs_range, ← n1, ← n2]
    simp only [deep] at hu
    simp only [cmpb] at hc
    have he : ∀ j (h1 : j < its.toArray.size) (h2 : j < its'.toArray.size), SeqAt.EqAt A.in1 s its.toArray[j] its'.toArray[j] (peqAt l m j) := fun j h1 h2 => by
      have h1' : j < its.length := by simpa using h1
      have h2' : j < its'.length := by simpa using h2
      obtain ⟨d, v, g1, g2, g3⟩ := items_get h3 rv h1'
      obtain ⟨e, w, g1', g2', g3'⟩ := items_get h3' rv' h2'
      have : peqAt l m j = peq d e := by unfold peqAt; rw [List.getD_eq_getElem?_getD, List.getD_eq_getElem?_getD, g1, g1']; rfl
      rw [this]
      have := eqAtD I (deeps l) (A := A.in1) (deep_get g1) (show A.units + 1 + deeps l < cLine by omega) (cmpbs_get hc g1 g1') g2 g2' g3 g3'
      simpa using this
    exact ⟨by simpa using SeqAt.RcAt.tuples (A := A) (e := peqAt l m) pt pt' (by omega) he, by simpa using SeqAt.RcNeAt.tuples (A := A) (e := peqAt l m) pt pt' (by omega) he⟩
  · simp only [Rep] at h h'
    obtain ⟨a, vs, rfl, h2, h3⟩ := h
    obtain ⟨b, ws, rfl, h2', h3'⟩ := h'
    cases r
    cases r'
    obtain ⟨its, rv, pt, _⟩ := I.list h2
    obtain ⟨its', rv', pt', _⟩ := I.list h2'
    have n1 : its.length = l.length := by rw [← h3.length, rv.length]
    have n2 : its'.length = m.length := by rw [← h3'.length, rv'.length]
    simp only [peq]
    rw [peqs_range, ← n1, ← n2]
    simp only [deep] at hu
    simp only [cmpb] at hc
    by_cases hlen : its.length = its'.length
    · have he : ∀ j (h1 : j < its.toArray.size) (h2 : j < its'.toArray.size), SeqAt.EqAt A.in1 s its.toArray[j] its'.toArray[j] (peqAt l m j) := fun j h1 h2 => by
        have h1' : j < its.length := by simpa using h1
        have h2' : j < its'.length := by simpa using h2
        obtain ⟨d, v, g1, g2, g3⟩ := items_get h3 rv h1'
        obtain ⟨e, w, g1', g2', g3'⟩ := items_get h3' rv' h2'
        have : peqAt l m j = peq d e := by unfold peqAt; rw [List.getD_eq_getElem?_getD, List.getD_eq_getElem?_getD, g1, g1']; rfl
        rw [this]
        have := eqAtD I (deeps l) (A := A.in1) (deep_get g1) (show A.units + 1 + deeps l < cLine by omega) (cmpbs_get hc g1 g1') g2 g2' g3 g3'
        simpa using this
      have e1 : (its.length == its'.length) = true := by simpa using hlen
      rw [e1, Bool.and_true, show min its.length its'.length = its.length by omega]
      exact ⟨by simpa using SeqAt.RcAt.lists (A := A) (e := peqAt l m) pt.isList pt'.isList (by simpa using hlen) (by omega) he, by simpa using SeqAt.RcNeAt.lists (A := A) (e := peqAt l m) pt.isList pt'.isList (by simpa using hlen) (by omega) he⟩
    · have e1 : (its.length == its'.length) = false := by simpa using hlen
      rw [e1, Bool.and_false]
      exact ⟨SeqAt.RcAt.lists_lengths pt.isList pt'.isList (by simpa using hlen) (by omega), SeqAt.RcNeAt.lists_lengths pt.isList pt'.isList (by simpa using hlen) (by omega)⟩
def rEqD (K : PySem.W.Frag) (neg : Bool) : R2 := fun x y H Q => ∃ d e, ((∃ l m, d = .tup l ∧ e = .tup m) ∨ ∃ l m, d = .lst l ∧ e = .lst m) ∧ Rep K H d x ∧ Rep K H e y ∧ cmpb d e = true ∧ deep d ≤ 60 ∧ Q (.bl (if neg then !peq d e else peq d e)) H
theorem op_eqD {K : PySem.W.Frag} {k : Nat} (hr : Room k X.A) (hK : X.K = K) : OpR X (compareOp .Eq) (rEqD K false) := by
  subst hK
  intro pins s σ H x y v u Q I rx ry h
  obtain ⟨d, e, hq, hd, he, hc, hdp, q⟩ := h
  have hu := hr.units
  exact (rcAtD I hq (by omega) hc hd he rx ry).1 _ _ _ _ ⟨.bl (peq d e), H, I, rfl, q⟩
theorem op_neD {K : PySem.W.Frag} {k : Nat} (hr : Room k X.A) (hK : X.K = K) : OpR X (compareOp .NotEq) (rEqD K true) := by
  subst hK
  intro pins s σ H x y v u Q I rx ry h
  obtain ⟨d, e, hq, hd, he, hc, hdp, q⟩ := h
  have hu := hr.units
  exact (rcAtD I hq (by omega) hc hd he rx ry).2 _ _ _ _ ⟨.bl (!peq d e), H, I, rfl, q⟩
end
end L2

namespace L2
open PySem PySem.Spec PyProof.Rows
structure Step (F H F' H' : Hp) : Prop where
  hh : Same H H'
  ff : Same F F'
  fh : Same F' H'
  nw : ∀ b o, F' b = some o → F b = some o ∨ H b = none
section
variable {F H F' H' F1 H1 : Hp} {p : Addr} {o : HO}
theorem Step.refl (h : Same F H) : Step F H F H := ⟨Same.refl _, Same.refl _, h, fun _ _ e => .inl e⟩
theorem Step.trans (a : Step F H F1 H1) (b : Step F1 H1 F' H') : Step F H F' H' :=
  ⟨a.hh.trans b.hh, a.ff.trans b.ff, b.fh, fun c o e => (b.nw c o e).elim (a.nw c o) fun z => .inr (a.hh.free z)⟩
theorem Same.upd (hp : H p = none) : Same H (upd H p o) := fun b u e => by
  rw [upd_ne (ne_of_none e hp)]
  exact e
theorem Step.new (h : Same F H) (hp : H p = none) : Step F H (upd F p o) (upd H p o) where
  hh := Same.upd hp
  ff := Same.upd (h.free hp)
  fh := fun b u e => by
    by_cases hb : b = p
    · subst hb
      rw [upd_same] at e ⊢
      exact e
    · rw [upd_ne hb] at e ⊢
      exact h _ _ e
  nw := fun b u e => by
    by_cases hb : b = p
    · subst hb
      exact .inr hp
    · rw [upd_ne hb] at e
      exact .inl e
theorem Step.made (h : Same F H) (hp : H p = none) : Step F H F (upd H p o) where
  hh := Same.upd hp
  ff := Same.refl _
  fh := h.trans (Same.upd hp)
  nw := fun b u e => .inl e
end
inductive T where
  | leaf (d : Dt) | lst (l : List Dt) | dct (l : List (Key × Dt)) | dcT (l : List (List Key × Dt))
def T.d : T → Dt
  | .leaf d => d
  | .lst l => .lst l
  | .dct l => .dct (l.map (·.1)) (l.map (·.2))
  | .dcT l => .dcT (l.map (·.1)) (l.map (·.2))
def Own (K : PySem.W.Frag) (F H : Hp) : T → V → (Addr → Prop) → Prop
  | .leaf d, v, _ => Rep K F d v
  | .lst l, v, S => ∃ a vs, v = .ref a ∧ S a ∧ H a = some (.lst vs) ∧ Reps K F l vs
  | .dct l, v, S => ∃ a kvs, v = .ref a ∧ S a ∧ H a = some (.dK kvs) ∧ kvs.map (·.1) = l.map (·.1) ∧ Reps K F (l.map (·.2)) (kvs.map (·.2))
  | .dcT l, v, S => ∃ a kvs, v = .ref a ∧ S a ∧ H a = some (.dT kvs) ∧ kvs.map (·.1) = l.map (·.1) ∧ Reps K F (l.map (·.2)) (kvs.map (·.2))
def RepB (K : PySem.W.Frag) (F H : Hp) : Dt → V → Prop
  | .lst l, v => ∃ a vs, v = .ref a ∧ SqL K H a vs ∧ Reps K F l vs
  | .dct ks l, v => ∃ a kvs, v = .ref a ∧ Rd H a (.dK kvs) ∧ kvs.map (·.1) = ks ∧ Reps K F l (kvs.map (·.2))
  | .dcT ks l, v => ∃ a kvs, v = .ref a ∧ Rd H a (.dT kvs) ∧ kvs.map (·.1) = ks ∧ Reps K F l (kvs.map (·.2))
  | .non, v => v = .non
  | .bl b, v => v = .bl b
  | .int i, v => v = .int i
  | .str x, v => v = .str x
  | .tup l, v => ∃ a vs, v = .ref a ∧ SqT K F a vs ∧ Reps K F l vs
section
variable {K : PySem.W.Frag} {F H F' H' : Hp} {t : T} {v : V} {d : Dt} {S : Addr → Prop}
theorem Own.step (ff : Same F F') (hh : ∀ b o, S b → H b = some o → H' b = some o) (h : Own K F H t v S) : Own K F' H' t v S := by
  cases t with
  | leaf d => exact Rep.same ff h
  | lst l =>
    obtain ⟨a, vs, e, hs, h1, h2⟩ := h
    exact ⟨a, vs, e, hs, hh _ _ hs h1, h2.same ff⟩
  | dct l =>
    obtain ⟨a, vs, e, hs, h1, h2, h3⟩ := h
    exact ⟨a, vs, e, hs, hh _ _ hs h1, h2, h3.same ff⟩
  | dcT l =>
    obtain ⟨a, vs, e, hs, h1, h2, h3⟩ := h
    exact ⟨a, vs, e, hs, hh _ _ hs h1, h2, h3.same ff⟩
theorem Own.grow {S' : Addr → Prop} (hs : ∀ b, S b → S' b) (h : Own K F H t v S) : Own K F H t v S' := by
  cases t with
  | leaf d => exact h
  | lst l =>
    obtain ⟨a, vs, e, q, h1⟩ := h
    exact ⟨a, vs, e, hs _ q, h1⟩
  | dct l =>
    obtain ⟨a, vs, e, q, h1⟩ := h
    exact ⟨a, vs, e, hs _ q, h1⟩
  | dcT l =>
    obtain ⟨a, vs, e, q, h1⟩ := h
    exact ⟨a, vs, e, hs _ q, h1⟩
theorem RepB.of (fh : Same F H) (h : Rep K F d v) : RepB K F H d v := by
  cases d with
  | lst l =>
    simp only [Rep] at h
    obtain ⟨a, vs, e, h1, h2⟩ := h
    exact ⟨a, vs, e, fh.seq h1, h2⟩
  | dct ks l =>
    simp only [Rep] at h
    obtain ⟨a, vs, e, h1, h2⟩ := h
    exact ⟨a, vs, e, fh.rd h1, h2⟩
  | dcT ks l =>
    simp only [Rep] at h
    obtain ⟨a, vs, e, h1, h2⟩ := h
    exact ⟨a, vs, e, fh.rd h1, h2⟩
  | tup l =>
    simp only [Rep] at h
    exact h
  | _ =>
    simp only [Rep] at h
    exact h
theorem RepB.rep (fh : Same F H) (h : RepB K F H d v) : Rep K H d v := by
  cases d with
  | lst l =>
    obtain ⟨a, vs, e, h1, h2⟩ := h
    simp only [Rep]
    exact ⟨a, vs, e, h1, h2.same fh⟩
  | dct ks l =>
    obtain ⟨a, vs, e, h1, h2, h3⟩ := h
    simp only [Rep]
    exact ⟨a, vs, e, h1, h2, h3.same fh⟩
  | dcT ks l =>
    obtain ⟨a, vs, e, h1, h2, h3⟩ := h
    simp only [Rep]
    exact ⟨a, vs, e, h1, h2, h3.same fh⟩
  | tup l =>
    obtain ⟨a, vs, e, h1, h2⟩ := h
    simp only [Rep]
    exact ⟨a, vs, e, fh.tup h1, h2.same fh⟩
  | _ =>
    simp only [Rep]
    exact h
theorem RepB.step (ff : Same F F') (hh : Same H H') (h : RepB K F H d v) : RepB K F' H' d v := by
  cases d with
  | lst l =>
    obtain ⟨a, vs, e, h1, h2⟩ := h
    exact ⟨a, vs, e, hh.seq h1, h2.same ff⟩
  | dct ks l =>
    obtain ⟨a, vs, e, h1, h2, h3⟩ := h
    exact ⟨a, vs, e, hh.rd h1, h2, h3.same ff⟩
  | dcT ks l =>
    obtain ⟨a, vs, e, h1, h2, h3⟩ := h
    exact ⟨a, vs, e, hh.rd h1, h2, h3.same ff⟩
  | tup l =>
    obtain ⟨a, vs, e, h1, h2⟩ := h
    exact ⟨a, vs, e, ff.tup h1, h2.same ff⟩
  | _ => exact h
theorem Own.repB (fh : Same F H) (h : Own K F H t v S) : RepB K F H t.d v := by
  cases t with
  | leaf d => exact RepB.of fh h
  | lst l =>
    obtain ⟨a, vs, e, _, h1, h2⟩ := h
    exact ⟨a, vs, e, SqL.of h1, h2⟩
  | dct l =>
    obtain ⟨a, vs, e, _, h1, h2⟩ := h
    exact ⟨a, vs, e, .inl h1, h2⟩
  | dcT l =>
    obtain ⟨a, vs, e, _, h1, h2⟩ := h
    exact ⟨a, vs, e, .inl h1, h2⟩
open Classical in
noncomputable def frzF (F H : Hp) (S : Addr → Prop) : Hp := fun b => if S b then H b else F b
theorem frzF_in {b : Addr} (h : S b) : frzF F H S b = H b := if_pos h
theorem frzF_out {b : Addr} (h : ¬ S b) : frzF F H S b = F b := if_neg h
theorem frzF_ff (hs : ∀ b, S b → F b = none) : Same F (frzF F H S) := fun b o e => by
  have : ¬ S b := fun z => by rw [hs b z] at e; cases e
  rw [frzF_out this]
  exact e
theorem frzF_fh (fh : Same F H) : Same (frzF F H S) H := fun b o e => by
  by_cases h : S b
  · rw [frzF_in h] at e
    exact e
  · rw [frzF_out h] at e
    exact fh _ _ e
theorem Own.freeze (hs : ∀ b, S b → F b = none) (h : Own K F H t v S) : Rep K (frzF F H S) t.d v := by
  have ff := frzF_ff (H := H) hs
  cases t with
  | leaf d => exact Rep.same ff h
  | lst l =>
    obtain ⟨a, vs, e, q, h1, h2⟩ := h
    simp only [T.d, Rep]
    exact ⟨a, vs, e, SqL.of (by rw [frzF_in q]; exact h1), h2.same ff⟩
  | dct l =>
    obtain ⟨a, vs, e, q, h1, h2, h3⟩ := h
    simp only [T.d, Rep]
    exact ⟨a, vs, e, .inl (by rw [frzF_in q]; exact h1), h2, h3.same ff⟩
  | dcT l =>
    obtain ⟨a, vs, e, q, h1, h2, h3⟩ := h
    simp only [T.d, Rep]
    exact ⟨a, vs, e, .inl (by rw [frzF_in q]; exact h1), h2, h3.same ff⟩
end
abbrev Ix := Nat
abbrev De := List (Option T)
structure Sep (K : PySem.W.Frag) (F H : Hp) (B : Addr → Prop) (L : Ix → Option (T × V)) (S : Ix → Addr → Prop) : Prop where
  own : ∀ i t v, L i = some (t, v) → Own K F H t v (S i)
  out : ∀ i b, S i b → F b = none ∧ (∃ o, H b = some o) ∧ B b
  dis : ∀ i j b, S i b → S j b → i = j
def liveS (δ : De) (σ : St) (i : Nat) : Option (T × V) := match δ[i]?, σ[i]? with
  | some (some t), some (some v) => some (t, v)
  | _, _ => none
structure Fm where
  K : PySem.W.Frag
  F0 : Hp
  H0 : Hp
  S0 : Addr → Prop
def Fm.B (Φ : Fm) (b : Addr) : Prop := Φ.H0 b = none ∨ Φ.S0 b
structure En (Φ : Fm) (δ : De) (σ : St) (F H : Hp) : Prop where
  fh : Same F H
  prot : ∀ b o, Φ.H0 b = some o → ¬ Φ.S0 b → H b = some o
  old : Same Φ.F0 F
  nw : ∀ b o, F b = some o → Φ.F0 b = some o ∨ Φ.B b
  len : δ.length = σ.length
  has : ∀ (i : Nat) (t : T), δ[i]? = some (some t) → ∃ v, σ[i]? = some (some v)
  sep : ∃ S, Sep Φ.K F H Φ.B (liveS δ σ) S
section
variable {Φ : Fm} {δ : De} {σ : St} {F H F' H' : Hp}
theorem liveS_of {i : Nat} {t : T} {v : V} (h1 : δ[i]? = some (some t)) (h2 : σ[i]? = some (some v)) : liveS δ σ i = some (t, v) := by
  unfold liveS
  rw [h1, h2]
theorem of_liveS {i : Nat} {t : T} {v : V} (h : liveS δ σ i = some (t, v)) : δ[i]? = some (some t) ∧ σ[i]? = some (some v) := by
  unfold liveS at h
  split at h
  · rename_i e1 e2
    cases h
    exact ⟨e1, e2⟩
  · cases h
theorem En.fresh (e : En Φ δ σ F H) {p : Addr} (hp : H p = none) : Φ.B p := by
  by_cases h : Φ.S0 p
  · exact .inr h
  · left
    cases q : Φ.H0 p with
    | none => rfl
    | some o => rw [e.prot p o q h] at hp; cases hp
theorem Sep.step {K : PySem.W.Frag} {B : Addr → Prop} {L : Ix → Option (T × V)} {S : Ix → Addr → Prop} (s : Sep K F H B L S) (st : Step F H F' H') : Sep K F' H' B L S where
  own := fun i t v h => (s.own i t v h).step st.ff fun b o _ e => st.hh b o e
  out := fun i b h => by
    obtain ⟨h1, ⟨o, h2⟩, h3⟩ := s.out i b h
    refine ⟨?_, ⟨o, st.hh _ _ h2⟩, h3⟩
    cases q : F' b with
    | none => rfl
    | some o' =>
      rcases st.nw b o' q with z | z
      · rw [h1] at z; cases z
      · rw [h2] at z; cases z
  dis := s.dis
theorem En.step (e : En Φ δ σ F H) (st : Step F H F' H') : En Φ δ σ F' H' where
  fh := st.fh
  prot := fun b o h1 h2 => st.hh _ _ (e.prot b o h1 h2)
  old := e.old.trans st.ff
  nw := fun b o h => by
    rcases st.nw b o h with z | z
    · exact e.nw b o z
    · exact .inr (e.fresh z)
  len := e.len
  has := e.has
  sep := let ⟨S, s⟩ := e.sep; ⟨S, s.step st⟩
theorem En.slot (e : En Φ δ σ F H) {i : Nat} {t : T} (h : δ[i]? = some (some t)) : ∃ v, σ[i]? = some (some v) ∧ RepB Φ.K F H t.d v := by
  obtain ⟨v, hv⟩ := e.has i t h
  obtain ⟨S, s⟩ := e.sep
  exact ⟨v, hv, (s.own i t v (liveS_of h hv)).repB e.fh⟩
theorem En.leaf (e : En Φ δ σ F H) {i : Nat} {d : Dt} (h : δ[i]? = some (some (.leaf d))) : ∃ v, σ[i]? = some (some v) ∧ Rep Φ.K F d v := by
  obtain ⟨v, hv⟩ := e.has i _ h
  obtain ⟨S, s⟩ := e.sep
  exact ⟨v, hv, s.own i _ v (liveS_of h hv)⟩
theorem get_set {α : Type} {l : List (Option α)} {i j : Nat} {x y : Option α} (h : (l.set i x)[j]? = some y) : (i = j ∧ y = x) ∨ (i ≠ j ∧ l[j]? = some y) := by
  by_cases hij : i = j
  · subst hij
    left
    rw [List.getElem?_set] at h
    simp only [if_true] at h
    split at h
    · cases h; exact ⟨rfl, rfl⟩
    · cases h
  · right
    rw [List.getElem?_set_ne hij] at h
    exact ⟨hij, h⟩
theorem En.put (e : En Φ δ σ F H) {t : T} {v : V} {S' : Addr → Prop} (st : Step F H F' H') (ho : Own Φ.K F' H' t v S') (hs : ∀ b, S' b → F' b = none ∧ H b = none ∧ ∃ o, H' b = some o) (i : Nat) : En Φ (δ.set i (some t)) (σ.set i (some v)) F' H' := by
  have e' := e.step st
  obtain ⟨S, s⟩ := e.sep
  have s' := s.step st
  refine ⟨e'.fh, e'.prot, e'.old, e'.nw, by simp [e.len], fun j u h => ?_, fun j b => if j = i then S' b else S j b, ?_, ?_, ?_⟩
  · rcases get_set h with ⟨rfl, z⟩ | ⟨hn, z⟩
    · have hi : i < σ.length := by
        rw [← e.len]
        have := (List.getElem?_eq_some_iff.mp h).1
        simpa using this
      exact ⟨v, by simp [hi]⟩
    · obtain ⟨w, hw⟩ := e.has j u z
      exact ⟨w, by rw [List.getElem?_set_ne hn]; exact hw⟩
  · intro j u w h
    obtain ⟨h1, h2⟩ := of_liveS h
    rcases get_set h1 with ⟨rfl, z⟩ | ⟨hn, z⟩
    · rcases get_set h2 with ⟨_, z2⟩ | ⟨hn2, _⟩
      · cases z
        cases z2
        show Own _ _ _ _ _ (fun b => if i = i then S' b else S i b)
        simp only [if_true]
        exact ho
      · exact absurd rfl hn2
    · rcases get_set h2 with ⟨z2, _⟩ | ⟨_, z2⟩
      · exact absurd z2 hn
      · have : ¬ j = i := fun q => hn q.symm
        show Own _ _ _ _ _ (fun b => if j = i then S' b else S j b)
        simp only [if_neg this]
        exact s'.own j u w (liveS_of z z2)
  · intro j b h
    split at h
    · obtain ⟨h1, h2, h3⟩ := hs b h
      exact ⟨h1, h3, e.fresh h2⟩
    · exact s'.out _ b h
  · have old : ∀ j b, S j b → ¬ S' b := fun j b h z => by
      obtain ⟨_, ⟨o, h2⟩, _⟩ := s.out j b h
      rw [(hs b z).2.1] at h2
      cases h2
    intro j k b hj hk
    split at hj <;> split at hk
    · rename_i q1 q2
      rw [q1, q2]
    · exact absurd hj (old _ b hk)
    · exact absurd hk (old _ b hj)
    · exact s.dis _ _ b hj hk
theorem En.poke (e : En Φ δ σ F H) {i : Nat} {t t' : T} {a : Addr} {o : HO} (h : δ[i]? = some (some t)) (hv : σ[i]? = some (some (.ref a))) (ht : ∀ d, t ≠ .leaf d) (ho : ∀ S : Addr → Prop, S a → Own Φ.K F (upd H a o) t' (.ref a) S) :
    En Φ (δ.set i (some t')) σ F (upd H a o) := by
  obtain ⟨S, s⟩ := e.sep
  have sa : S i a := by
    have := s.own i t _ (liveS_of h hv)
    cases t with
    | leaf d => exact absurd rfl (ht d)
    | lst l => obtain ⟨b, _, e, q, _⟩ := this; cases e; exact q
    | dct l => obtain ⟨b, _, e, q, _⟩ := this; cases e; exact q
    | dcT l => obtain ⟨b, _, e, q, _⟩ := this; cases e; exact q
  obtain ⟨fa, ⟨oa, ha⟩, ba⟩ := s.out _ a sa
  have hi : i < δ.length := (List.getElem?_eq_some_iff.mp h).1
  refine ⟨fun b u z => ?_, fun b u h1 h2 => ?_, e.old, e.nw, by simp [e.len], fun j u z => ?_, S, fun j u w z => ?_, fun j b z => ?_, s.dis⟩
  · have : b ≠ a := fun q => by rw [q, fa] at z; cases z
    rw [upd_ne this]
    exact e.fh _ _ z
  · have : b ≠ a := fun q => by
      subst q
      rcases ba with z | z
      · rw [z] at h1; cases h1
      · exact h2 z
    rw [upd_ne this]
    exact e.prot b u h1 h2
  · rcases get_set z with ⟨rfl, _⟩ | ⟨hn, z⟩
    · exact ⟨_, hv⟩
    · exact e.has j u z
  · obtain ⟨h1, h2⟩ := of_liveS z
    rcases get_set h1 with ⟨rfl, z1⟩ | ⟨hn, z1⟩
    · cases z1
      rw [hv] at h2
      cases h2
      exact ho _ sa
    · refine (s.own j u w (liveS_of z1 h2)).step (Same.refl _) fun b q hb hq => ?_
      have : b ≠ a := fun y => by
        subst y
        exact hn (s.dis _ _ _ hb sa).symm
      rw [upd_ne this]
      exact hq
  · obtain ⟨h1, ⟨q, h2⟩, h3⟩ := s.out j b z
    refine ⟨h1, ?_, h3⟩
    by_cases y : b = a
    · subst y
      exact ⟨o, upd_same⟩
    · exact ⟨q, by rw [upd_ne y]; exact h2⟩
theorem En.freeze (e : En Φ δ σ F H) {i : Nat} {t : T} (h : δ[i]? = some (some t)) : ∃ F', En Φ (δ.set i (some (.leaf t.d))) σ F' H := by
  obtain ⟨S, s⟩ := e.sep
  obtain ⟨v, hv⟩ := e.has i t h
  have so := s.own i t v (liveS_of h hv)
  have sn : ∀ b, S i b → F b = none := fun b z => (s.out _ b z).1
  have ff := frzF_ff (H := H) sn
  refine ⟨frzF F H (S i), frzF_fh e.fh, e.prot, e.old.trans ff, fun b o z => ?_, by simp [e.len], fun j u z => ?_, fun j b => S j b ∧ j ≠ i, fun j u w z => ?_, fun j b z => ?_, fun j k b h1 h2 => s.dis _ _ b h1.1 h2.1⟩
  · by_cases hb : S i b
    · exact .inr (s.out _ b hb).2.2
    · rw [frzF_out hb] at z
      exact e.nw b o z
  · rcases get_set z with ⟨rfl, _⟩ | ⟨hn, z⟩
    · exact ⟨_, hv⟩
    · exact e.has j u z
  · obtain ⟨h1, h2⟩ := of_liveS z
    rcases get_set h1 with ⟨rfl, z1⟩ | ⟨hn, z1⟩
    · cases z1
      rw [hv] at h2
      cases h2
      exact so.freeze sn
    · refine ((s.own j u w (liveS_of z1 h2)).step ff fun _ _ _ q => q).grow fun b q => ⟨q, fun y => hn y.symm⟩
  · obtain ⟨h1, h2, h3⟩ := s.out j b z.1
    refine ⟨?_, h2, h3⟩
    rw [frzF_out fun y => z.2 (s.dis _ _ b z.1 y)]
    exact h1
end
end L2

namespace L2
open PySem PySem.Spec PyProof.Rows
def KO (K : PySem.W.Frag) (F H : Hp) (t : T) (Q : VK) : Prop := ∀ v H' F' S, Step F H F' H' → Own K F' H' t v S → (∀ b, S b → F' b = none ∧ H b = none ∧ ∃ o, H' b = some o) → Q v H'
def KL (K : PySem.W.Frag) (F H : Hp) (d : Dt) (Q : VK) : Prop := ∀ v H' F', Step F H F' H' → Rep K F' d v → Q v H'
def KB (K : PySem.W.Frag) (F H : Hp) (d : Dt) (Q : VK) : Prop := ∀ v H' F', Step F H F' H' → RepB K F' H' d v → Q v H'
section
variable {K : PySem.W.Frag} {F H F1 H1 : Hp} {t : T} {d : Dt} {Q : VK}
theorem KO.step (k : KO K F H t Q) (st : Step F H F1 H1) : KO K F1 H1 t Q := fun v H' F' S s o hs => k v H' F' S (st.trans s) o fun b z => ⟨(hs b z).1, st.hh.free (hs b z).2.1, (hs b z).2.2⟩
theorem KO.leaf (k : KO K F H (.leaf d) Q) : KL K F H d Q := fun v H' F' st r => k v H' F' (fun _ => False) st r fun _ z => z.elim
theorem KL.step (k : KL K F H d Q) (st : Step F H F1 H1) : KL K F1 H1 d Q := fun v H' F' s o => k v H' F' (st.trans s) o
theorem KB.step (k : KB K F H d Q) (st : Step F H F1 H1) : KB K F1 H1 d Q := fun v H' F' s o => k v H' F' (st.trans s) o
theorem KL.here (k : KL K F H d Q) (fh : Same F H) {v : V} (r : Rep K F d v) : Q v H := k v H F (Step.refl fh) r
theorem KB.to (k : KB K F H d Q) : KL K F H d Q := fun v H' F' st r => k v H' F' st (RepB.of st.fh r)
theorem KL.to (k : KL K F H t.d Q) : KO K F H t Q := fun v H' F' S st o hs => by
  refine k v H' (frzF F' H' S) ⟨st.hh, st.ff.trans (frzF_ff fun b z => (hs b z).1), frzF_fh st.fh, fun b u z => ?_⟩ (o.freeze fun b z => (hs b z).1)
  by_cases hb : S b
  · exact .inr (hs b hb).2.1
  · rw [frzF_out hb] at z
    exact st.nw b u z
theorem KB.toO (k : KB K F H t.d Q) : KO K F H t Q := fun v H' F' S st o hs => k v H' F' st (o.repB st.fh)
end
def tO (K : PySem.W.Frag) (f : De → Option T) : TE := fun σ H Q => ∃ Φ δ F t, Fm.K Φ = K ∧ En Φ δ σ F H ∧ f δ = some t ∧ KO K F H t Q
def tL (K : PySem.W.Frag) (f : De → Option Dt) : TE := fun σ H Q => ∃ Φ δ F d, Fm.K Φ = K ∧ En Φ δ σ F H ∧ f δ = some d ∧ KL K F H d Q
def tBd (K : PySem.W.Frag) (f : De → Option Dt) : TE := fun σ H Q => ∃ Φ δ F d, Fm.K Φ = K ∧ En Φ δ σ F H ∧ f δ = some d ∧ KB K F H d Q
def tTr (K : PySem.W.Frag) (f : De → Option Bool) : TT := fun σ H Q => ∃ Φ δ F b, Fm.K Φ = K ∧ En Φ δ σ F H ∧ f δ = some b ∧ ∀ H' F', Step F H F' H' → Q b H'
def DO (X : Cx) (e : Expr) (f : De → Option T) : Prop := PE X e (tO X.K f)
def DL (X : Cx) (e : Expr) (f : De → Option Dt) : Prop := PE X e (tL X.K f)
def DB (X : Cx) (e : Expr) (f : De → Option Dt) : Prop := PE X e (tBd X.K f)
def DT (X : Cx) (e : Expr) (f : De → Option Bool) : Prop := PT X e (tTr X.K f)
def DW (X : Cx) (e : Expr) (f : De → Option Bool) : Prop := PW X e (tTr X.K f)
theorem PE.mono {X : Cx} {e : Expr} {t t' : TE} (h : PE X e t) (m : ∀ σ H Q, t' σ H Q → t σ H Q) : PE X e t' := fun pins s σ H Q I q => h pins s σ H Q I (m _ _ _ q)
theorem PT.mono {X : Cx} {e : Expr} {t t' : TT} (h : PT X e t) (m : ∀ σ H Q, t' σ H Q → t σ H Q) : PT X e t' := fun pins s σ H Q I q => h pins s σ H Q I (m _ _ _ q)
theorem PW.mono {X : Cx} {e : Expr} {t t' : TT} (h : PW X e t) (m : ∀ σ H Q, t' σ H Q → t σ H Q) : PW X e t' := fun whole pins s σ H Q I q => h whole pins s σ H Q I (m _ _ _ q)
theorem PA.mono {X : Cx} {e : List Expr} {t t' : TA} (h : PA X e t) (m : ∀ σ H Q, t' σ H Q → t σ H Q) : PA X e t' := fun pos pins s σ H Q I q => h pos pins s σ H Q I (m _ _ _ q)
theorem PI.mono {X : Cx} {tg e : Expr} {t t' : TI} (h : PI X tg e t) (m : ∀ σ H Q, t' σ H Q → t σ H Q) : PI X tg e t' := fun pins s σ H Q I q => h pins s σ H Q I (m _ _ _ q)
theorem PG.mono {X : Cx} {e : Expr} {t t' : TG} (h : PG X e t) (m : ∀ v σ H Q, t' v σ H Q → t v σ H Q) : PG X e t' := fun pins s σ H v u Q I r q => h pins s σ H v u Q I r (m _ _ _ _ q)
theorem PS.mono {X : Cx} {e : Stmt} {t t' : TS} (h : PS X e t) (m : ∀ D σ H, t' D σ H → t D σ H) : PS X e t' := fun pins s σ H Q I q => h pins s σ H Q I (m _ _ _ q)
theorem PSs.mono {X : Cx} {e : List Stmt} {t t' : TS} (h : PSs X e t) (m : ∀ D σ H, t' D σ H → t D σ H) : PSs X e t' := fun pins s σ H Q I q => h pins s σ H Q I (m _ _ _ q)
theorem PE.or {X : Cx} {e : Expr} {t t' : TE} (h : PE X e t) (h' : PE X e t') : PE X e (fun σ H Q => t σ H Q ∨ t' σ H Q) := fun pins s σ H Q I q => q.elim (h pins s σ H Q I) (h' pins s σ H Q I)
theorem PI.or {X : Cx} {tg e : Expr} {t t' : TI} (h : PI X tg e t) (h' : PI X tg e t') : PI X tg e (fun σ H Q => t σ H Q ∨ t' σ H Q) := fun pins s σ H Q I q => q.elim (h pins s σ H Q I) (h' pins s σ H Q I)
section
variable {X : Cx} {e a b c : Expr} {f : De → Option T} {g fa fb fc : De → Option Dt} {pos : Pos}
def toD (f : De → Option T) : De → Option Dt := fun δ => (f δ).map T.d
def toT (f : De → Option Dt) : De → Option T := fun δ => (f δ).map T.leaf
theorem DO.toL (h : DO X e f) : DL X e (toD f) := PE.mono h fun σ H Q ⟨Φ, δ, F, d, hK, en, hf, k⟩ => by
  unfold toD at hf
  cases ht : f δ with
  | none => rw [ht] at hf; cases hf
  | some t =>
    rw [ht] at hf
    cases hf
    exact ⟨Φ, δ, F, t, hK, en, ht, k.to⟩
theorem DO.toB (h : DO X e f) : DB X e (toD f) := PE.mono h fun σ H Q ⟨Φ, δ, F, d, hK, en, hf, k⟩ => by
  unfold toD at hf
  cases ht : f δ with
  | none => rw [ht] at hf; cases hf
  | some t =>
    rw [ht] at hf
    cases hf
    exact ⟨Φ, δ, F, t, hK, en, ht, k.toO⟩
theorem DL.toB (h : DL X e g) : DB X e g := PE.mono h fun σ H Q ⟨Φ, δ, F, d, hK, en, hf, k⟩ => ⟨Φ, δ, F, d, hK, en, hf, k.to⟩
theorem DL.toO (h : DL X e g) : DO X e (toT g) := PE.mono h fun σ H Q ⟨Φ, δ, F, t, hK, en, hf, k⟩ => by
  unfold toT at hf
  cases hd : g δ with
  | none => rw [hd] at hf; cases hf
  | some d =>
    rw [hd] at hf
    cases hf
    exact ⟨Φ, δ, F, d, hK, en, hd, k.leaf⟩
def vL (i : Nat) : De → Option Dt := fun δ => match δ[i]? with
  | some (some (.leaf d)) => some d
  | _ => none
def vB (i : Nat) : De → Option Dt := fun δ => match δ[i]? with
  | some (some t) => some t.d
  | _ => none
theorem dl_var {i : Nat} (h : PE X e (tVar i)) : DL X e (vL i) := PE.mono h fun σ H Q ⟨Φ, δ, F, d, hK, en, hf, k⟩ => by
  unfold vL at hf
  split at hf
  · rename_i q
    cases hf
    obtain ⟨v, h1, h2⟩ := en.leaf q
    exact ⟨v, h1, k.here en.fh (hK ▸ h2)⟩
  · cases hf
theorem db_var {i : Nat} (h : PE X e (tVar i)) : DB X e (vB i) := PE.mono h fun σ H Q ⟨Φ, δ, F, d, hK, en, hf, k⟩ => by
  unfold vB at hf
  split at hf
  · rename_i q
    cases hf
    obtain ⟨v, h1, h2⟩ := en.slot q
    exact ⟨v, h1, k v H F (Step.refl en.fh) (hK ▸ h2)⟩
  · cases hf
def kD (d : Dt) : De → Option Dt := fun _ => some d
theorem dl_c {v : V} {d : Dt} (h : PE X e (tC v)) (r : ∀ F, Rep X.K F d v) : DL X e (kD d) := PE.mono h fun σ H Q ⟨Φ, δ, F, d', hK, en, hf, k⟩ => by
  cases hf
  exact k.here en.fh (r F)
theorem dl_int {i : Int} {j} : DL X (.Constant (.int i) j pos) (kD (.int i)) := dl_c pe_int fun F => by simp only [Rep]
theorem dl_bl {i : Bool} {j} : DL X (.Constant (.bool i) j pos) (kD (.bl i)) := dl_c pe_bl fun F => by simp only [Rep]
theorem dl_non {j} : DL X (.Constant .none j pos) (kD .non) := dl_c pe_non fun F => by simp only [Rep]
theorem dl_str {x : Str} {j} : DL X (.Constant (.str x) j pos) (kD (.str x)) := dl_c pe_str fun F => by simp only [Rep]
def R2D (K : PySem.W.Frag) (r : R2) (g : Dt → Dt → Option T) : Prop := ∀ F H x y vx vy (Q : VK) t, Same F H → RepB K F H x vx → RepB K F H y vy → g x y = some t → KO K F H t Q → r vx vy H Q
def d2 (g : Dt → Dt → Option T) (fa fb : De → Option Dt) : De → Option T := fun δ => (fa δ).bind fun x => (fb δ).bind fun y => g x y
theorem d2_of {K : PySem.W.Frag} {r : R2} {g : Dt → Dt → Option T} (hr : R2D K r g) {σ : St} {H : Hp} {Q : VK} (h : tO K (d2 g fa fb) σ H Q) : tOp r (tBd K fa) (tBd K fb) σ H Q := by
  obtain ⟨Φ, δ, F, t, hK, en, hf, k⟩ := h
  unfold d2 at hf
  obtain ⟨x, hx, hf⟩ := Option.bind_eq_some_iff.mp hf
  obtain ⟨y, hy, hf⟩ := Option.bind_eq_some_iff.mp hf
  exact ⟨Φ, δ, F, x, hK, en, hx, fun v H1 F1 st rv => ⟨Φ, δ, F1, y, hK, en.step st, hy, fun v2 H2 F2 st2 rv2 => hr F2 H2 x y v v2 Q t st2.fh (rv.step st2.ff st2.hh) rv2 hf (k.step (st.trans st2))⟩⟩
theorem do_bin {op : Operator} {r : R2} {g : Dt → Dt → Option T} (ho : OpR X (binaryOp op) r) (hr : R2D X.K r g) (ha : DB X a fa) (hb : DB X b fb) : DO X (.BinOp a op b pos) (d2 g fa fb) := PE.mono (pe_op ho ha hb) fun σ H Q h => d2_of hr h
theorem do_cmp {op : CmpOp} {r : R2} {g : Dt → Dt → Option T} (ho : OpR X (compareOp op) r) (hr : R2D X.K r g) (ha : DB X a fa) (hb : DB X b fb) (hm : behindInMarks op b = false) : DO X (.Compare a [op] [b] pos) (d2 g fa fb) := PE.mono (pe_cmpR ho ha hb hm) fun σ H Q h => d2_of hr h
def asB : T → Option Bool
  | .leaf (.bl b) => some b
  | _ => none
def tB2 (g : Dt → Dt → Option T) (fa fb : De → Option Dt) : De → Option Bool := fun δ => (d2 g fa fb δ).bind asB
theorem asB_own {K : PySem.W.Frag} {F H : Hp} {t : T} {v : V} {S : Addr → Prop} {b : Bool} (h : asB t = some b) (o : Own K F H t v S) : v = .bl b := by
  unfold asB at h
  split at h
  · cases h
    have o : Rep K F (.bl b) v := o
    simp only [Rep] at o
    exact o
  · cases h
theorem dt_cmp {op : CmpOp} {r : R2} {g : Dt → Dt → Option T} (ho : OpR X (compareOp op) r) (hr : R2D X.K r g) (ha : DB X a fa) (hb : DB X b fb) (hm : behindInMarks op b = false) : DT X (.Compare a [op] [b] pos) (tB2 g fa fb) := PT.mono (pt_cmpR ho ha hb hm) fun σ H Q ⟨Φ, δ, F, t, hK, en, hf, k⟩ => by
  unfold tB2 at hf
  obtain ⟨z, hz, hf⟩ := Option.bind_eq_some_iff.mp hf
  refine d2_of hr ⟨Φ, δ, F, z, hK, en, hz, fun v H' F' S st o hs => ?_⟩
  exact ⟨t, asB_own hf o, k H' F' st⟩
def truD : Dt → Option Bool
  | .non => some false
  | .bl b => some b
  | .int i => some (i != 0)
  | .str x => if x.length ≤ sizeLine then some ((x.length : Int) != 0) else none
  | .tup l => some (!l.isEmpty)
  | .lst l => some (!l.isEmpty)
  | _ => none
def fTru (f : De → Option Dt) : De → Option Bool := fun δ => (f δ).bind truD
theorem isEmpty_reps {K : PySem.W.Frag} {F : Hp} {l : List Dt} {vs : List V} (h : Reps K F l vs) : l.isEmpty = vs.isEmpty := by
  cases l with
  | nil => unfold Reps at h; rw [h]; rfl
  | cons d l => unfold Reps at h; obtain ⟨v, ws, rfl, _⟩ := h; rfl
theorem truD_of {K : PySem.W.Frag} {F H : Hp} {d : Dt} {v : V} {b : Bool} (fh : Same F H) (h : RepB K F H d v) (hb : truD d = some b) : TruV K v H b := by
  cases d with
  | non => cases h; cases hb; rfl
  | bl x => cases h; cases hb; rfl
  | int x => cases h; cases hb; rfl
  | str x =>
    cases h
    simp only [truD] at hb
    split at hb
    · cases hb; exact ⟨by assumption, rfl⟩
    · cases hb
  | tup l =>
    obtain ⟨a, vs, rfl, h1, h2⟩ := h
    cases hb
    exact .inr (.inl ⟨vs, fh.tup h1, by rw [isEmpty_reps h2]⟩)
  | lst l =>
    obtain ⟨a, vs, rfl, h1, h2⟩ := h
    cases hb
    exact .inl ⟨vs, h1, by rw [isEmpty_reps h2]⟩
  | dct ks l => cases hb
  | dcT ks l => cases hb
theorem dt_truth (ha : DB X a fa) (he : ∀ whole, isTrue a X.env whole = (do let v ← whole; standAt a.pos; holding [v] (truthy v))) : DT X a (fTru fa) := PT.mono (pt_truth ha he) fun σ H Q ⟨Φ, δ, F, b, hK, en, hf, k⟩ => by
  unfold fTru at hf
  obtain ⟨d, hd, hf⟩ := Option.bind_eq_some_iff.mp hf
  exact ⟨Φ, δ, F, d, hK, en, hd, fun v H' F' st r => ⟨b, truD_of st.fh r hf, k H' F' st⟩⟩
def fNot (f : De → Option Bool) : De → Option Bool := fun δ => (f δ).map (!·)
def fAnd (f g : De → Option Bool) : De → Option Bool := fun δ => (f δ).bind fun b => if b then g δ else some false
def fOr (f g : De → Option Bool) : De → Option Bool := fun δ => (f δ).bind fun b => if b then some true else g δ
variable {ta tb tc : De → Option Bool} {rest : List Expr}
theorem dt_not (h : DT X a ta) : DT X (.UnaryOp .Not a pos) (fNot ta) := PT.mono (pt_not h) fun σ H Q ⟨Φ, δ, F, b, hK, en, hf, k⟩ => by
  unfold fNot at hf
  cases q : ta δ with
  | none => rw [q] at hf; cases hf
  | some c =>
    rw [q] at hf
    cases hf
    exact ⟨Φ, δ, F, c, hK, en, q, fun H' F' st => k H' F' st⟩
theorem dw_and1 (h : DT X a ta) : DW X (.BoolOp .And [a] pos) ta := pw_and1 h
theorem dw_or1 (h : DT X a ta) : DW X (.BoolOp .Or [a] pos) ta := pw_or1 h
theorem dw_and (h : DT X a ta) (h' : DW X (.BoolOp .And (b :: rest) pos) tb) : DW X (.BoolOp .And (a :: b :: rest) pos) (fAnd ta tb) := PW.mono (pw_and h h') fun σ H Q ⟨Φ, δ, F, t, hK, en, hf, k⟩ => by
  unfold fAnd at hf
  obtain ⟨c, hc, hf⟩ := Option.bind_eq_some_iff.mp hf
  refine ⟨Φ, δ, F, c, hK, en, hc, fun H' F' st => ?_⟩
  split at hf
  · rename_i q
    rw [if_pos q]
    exact ⟨Φ, δ, F', t, hK, en.step st, hf, fun H2 F2 s2 => k H2 F2 (st.trans s2)⟩
  · rename_i q
    rw [if_neg q]
    cases hf
    exact k H' F' st
theorem dw_or (h : DT X a ta) (h' : DW X (.BoolOp .Or (b :: rest) pos) tb) : DW X (.BoolOp .Or (a :: b :: rest) pos) (fOr ta tb) := PW.mono (pw_or h h') fun σ H Q ⟨Φ, δ, F, t, hK, en, hf, k⟩ => by
  unfold fOr at hf
  obtain ⟨c, hc, hf⟩ := Option.bind_eq_some_iff.mp hf
  refine ⟨Φ, δ, F, c, hK, en, hc, fun H' F' st => ?_⟩
  split at hf
  · rename_i q
    rw [if_pos q]
    cases hf
    exact k H' F' st
  · rename_i q
    rw [if_neg q]
    exact ⟨Φ, δ, F', t, hK, en.step st, hf, fun H2 F2 s2 => k H2 F2 (st.trans s2)⟩
theorem DW.t (h : DW X a ta) : DT X a ta := h.pt
def asBl : Dt → Option Bool
  | .bl b => some b
  | _ => none
def vNot (f : De → Option Dt) : De → Option T := fun δ => (f δ).bind fun x => (asBl x).map fun b => .leaf (.bl (!b))
def vAnd (f : De → Option Dt) (g : De → Option T) : De → Option T := fun δ => (f δ).bind fun x => (asBl x).bind fun b => if b then g δ else some (.leaf (.bl false))
def vOr (f : De → Option Dt) (g : De → Option T) : De → Option T := fun δ => (f δ).bind fun x => (asBl x).bind fun b => if b then some (.leaf (.bl true)) else g δ
def vIf (c : De → Option Bool) (f g : De → Option T) : De → Option T := fun δ => (c δ).bind fun b => if b then f δ else g δ
theorem repB_bl {K : PySem.W.Frag} {F H : Hp} {x : Dt} {v : V} {b : Bool} (h : asBl x = some b) (r : RepB K F H x v) : v = .bl b := by
  unfold asBl at h
  split at h
  · cases h; exact r
  · cases h
theorem rep_bl {K : PySem.W.Frag} {F : Hp} {b : Bool} : Rep K F (.bl b) (.bl b) := by simp only [Rep]
theorem rep_int {K : PySem.W.Frag} {F : Hp} {b : Int} : Rep K F (.int b) (.int b) := by simp only [Rep]
theorem rep_str {K : PySem.W.Frag} {F : Hp} {b : Str} : Rep K F (.str b) (.str b) := by simp only [Rep]
theorem rep_non {K : PySem.W.Frag} {F : Hp} : Rep K F .non .non := by simp only [Rep]
variable {oa ob : De → Option T}
theorem do_not (h : DB X a fa) : DO X (.UnaryOp .Not a pos) (vNot fa) := PE.mono (pe_not h) fun σ H Q ⟨Φ, δ, F, t, hK, en, hf, k⟩ => by
  unfold vNot at hf
  obtain ⟨x, hx, hf⟩ := Option.bind_eq_some_iff.mp hf
  cases q : asBl x with
  | none => rw [q] at hf; cases hf
  | some b =>
    rw [q] at hf
    cases hf
    exact ⟨Φ, δ, F, x, hK, en, hx, fun v H' F' st r => ⟨b, repB_bl q r, (k.step st).leaf.here st.fh rep_bl⟩⟩
theorem do_one {op} (h : DO X a oa) : DO X (.BoolOp op [a] pos) oa := pe_one h
theorem do_and (h : DB X a fa) (h' : DO X (.BoolOp .And (b :: rest) pos) ob) : DO X (.BoolOp .And (a :: b :: rest) pos) (vAnd fa ob) := PE.mono (pe_and h h') fun σ H Q ⟨Φ, δ, F, t, hK, en, hf, k⟩ => by
  unfold vAnd at hf
  obtain ⟨x, hx, hf⟩ := Option.bind_eq_some_iff.mp hf
  obtain ⟨b, hb, hf⟩ := Option.bind_eq_some_iff.mp hf
  refine ⟨Φ, δ, F, x, hK, en, hx, fun v H' F' st r => ⟨b, repB_bl hb r, ?_⟩⟩
  split at hf
  · rename_i q
    rw [if_pos q]
    exact ⟨Φ, δ, F', t, hK, en.step st, hf, k.step st⟩
  · rename_i q
    rw [if_neg q]
    cases hf
    exact (k.step st).leaf.here st.fh rep_bl
theorem do_or (h : DB X a fa) (h' : DO X (.BoolOp .Or (b :: rest) pos) ob) : DO X (.BoolOp .Or (a :: b :: rest) pos) (vOr fa ob) := PE.mono (pe_or h h') fun σ H Q ⟨Φ, δ, F, t, hK, en, hf, k⟩ => by
  unfold vOr at hf
  obtain ⟨x, hx, hf⟩ := Option.bind_eq_some_iff.mp hf
  obtain ⟨b, hb, hf⟩ := Option.bind_eq_some_iff.mp hf
  refine ⟨Φ, δ, F, x, hK, en, hx, fun v H' F' st r => ⟨b, repB_bl hb r, ?_⟩⟩
  split at hf
  · rename_i q
    rw [if_pos q]
    cases hf
    exact (k.step st).leaf.here st.fh rep_bl
  · rename_i q
    rw [if_neg q]
    exact ⟨Φ, δ, F', t, hK, en.step st, hf, k.step st⟩
theorem do_if (hc : DT X c tc) (h : DO X a oa) (h' : DO X b ob) : DO X (.IfExp c a b pos) (vIf tc oa ob) := PE.mono (pe_ifExp hc h h') fun σ H Q ⟨Φ, δ, F, t, hK, en, hf, k⟩ => by
  unfold vIf at hf
  obtain ⟨x, hx, hf⟩ := Option.bind_eq_some_iff.mp hf
  refine ⟨Φ, δ, F, x, hK, en, hx, fun H' F' st => ?_⟩
  split at hf
  · rename_i q
    rw [if_pos q]
    exact ⟨Φ, δ, F', t, hK, en.step st, hf, k.step st⟩
  · rename_i q
    rw [if_neg q]
    exact ⟨Φ, δ, F', t, hK, en.step st, hf, k.step st⟩
def RepBs (K : PySem.W.Frag) (F H : Hp) : List Dt → List V → Prop
  | [], vs => vs = []
  | d :: l, vs => ∃ v ws, vs = v :: ws ∧ RepB K F H d v ∧ RepBs K F H l ws
theorem RepBs.step {K : PySem.W.Frag} {F H F' H' : Hp} (ff : Same F F') (hh : Same H H') : ∀ {l : List Dt} {vs : List V}, RepBs K F H l vs → RepBs K F' H' l vs
  | [], vs, h => h
  | d :: l, vs, h => by
    obtain ⟨v, ws, e, h1, h2⟩ := h
    exact ⟨v, ws, e, h1.step ff hh, h2.step ff hh⟩
def tAL (K : PySem.W.Frag) (f : De → Option (List Dt)) : TA := fun σ H Q => ∃ Φ δ F ds, Fm.K Φ = K ∧ En Φ δ σ F H ∧ f δ = some ds ∧ ∀ vs H' F', Step F H F' H' → Reps K F' ds vs → Q vs H'
def tAB (K : PySem.W.Frag) (f : De → Option (List Dt)) : TA := fun σ H Q => ∃ Φ δ F ds, Fm.K Φ = K ∧ En Φ δ σ F H ∧ f δ = some ds ∧ ∀ vs H' F', Step F H F' H' → RepBs K F' H' ds vs → Q vs H'
structure DA (X : Cx) (es : List Expr) (f : De → Option (List Dt)) : Prop where
  len : ∀ δ ds, f δ = some ds → ds.length = es.length
  pa : PA X es (tAL X.K f)
structure DAB (X : Cx) (es : List Expr) (f : De → Option (List Dt)) : Prop where
  len : ∀ δ ds, f δ = some ds → ds.length = es.length
  pa : PA X es (tAB X.K f)
def aNil : De → Option (List Dt) := fun _ => some []
def aCons (f : De → Option Dt) (g : De → Option (List Dt)) : De → Option (List Dt) := fun δ => (f δ).bind fun d => (g δ).bind fun ds => some (d :: ds)
variable {es : List Expr} {fs : De → Option (List Dt)}
theorem aCons_len {n : Nat} {f : De → Option Dt} (h : ∀ δ ds, fs δ = some ds → ds.length = n) : ∀ δ ds, aCons f fs δ = some ds → ds.length = n + 1 := fun δ ds hf => by
  unfold aCons at hf
  obtain ⟨x, hx, hf⟩ := Option.bind_eq_some_iff.mp hf
  obtain ⟨y, hy, hf⟩ := Option.bind_eq_some_iff.mp hf
  cases hf
  simp [h δ y hy]
theorem da_nil : DA X [] aNil := ⟨fun _ _ h => by cases h; rfl, PA.mono pa_nil fun σ H Q ⟨Φ, δ, F, ds, hK, en, hf, k⟩ => by
  cases hf
  exact k [] H F (Step.refl en.fh) (by simp only [Reps])⟩
theorem dab_nil : DAB X [] aNil := ⟨fun _ _ h => by cases h; rfl, PA.mono pa_nil fun σ H Q ⟨Φ, δ, F, ds, hK, en, hf, k⟩ => by
  cases hf
  exact k [] H F (Step.refl en.fh) rfl⟩
theorem da_cons (h : DL X e g) (h' : DA X es fs) (hs : starEach (e :: es) X.env = (false, eval e X.env) :: starEach es X.env := by rfl) : DA X (e :: es) (aCons g fs) :=
  ⟨aCons_len h'.len, PA.mono (pa_cons h h'.pa hs) fun σ H Q ⟨Φ, δ, F, ds, hK, en, hf, k⟩ => by
    unfold aCons at hf
    obtain ⟨x, hx, hf⟩ := Option.bind_eq_some_iff.mp hf
    obtain ⟨y, hy, hf⟩ := Option.bind_eq_some_iff.mp hf
    cases hf
    exact ⟨Φ, δ, F, x, hK, en, hx, fun v H1 F1 st r => ⟨Φ, δ, F1, y, hK, en.step st, hy, fun vs H2 F2 s2 r2 => k (v :: vs) H2 F2 (st.trans s2) (by simp only [Reps]; exact ⟨v, vs, rfl, r.same s2.ff, r2⟩)⟩⟩⟩
theorem dab_cons (h : DB X e g) (h' : DAB X es fs) (hs : starEach (e :: es) X.env = (false, eval e X.env) :: starEach es X.env := by rfl) : DAB X (e :: es) (aCons g fs) :=
  ⟨aCons_len h'.len, PA.mono (pa_cons h h'.pa hs) fun σ H Q ⟨Φ, δ, F, ds, hK, en, hf, k⟩ => by
    unfold aCons at hf
    obtain ⟨x, hx, hf⟩ := Option.bind_eq_some_iff.mp hf
    obtain ⟨y, hy, hf⟩ := Option.bind_eq_some_iff.mp hf
    cases hf
    exact ⟨Φ, δ, F, x, hK, en, hx, fun v H1 F1 st r => ⟨Φ, δ, F1, y, hK, en.step st, hy, fun vs H2 F2 s2 r2 => k (v :: vs) H2 F2 (st.trans s2) ⟨v, vs, rfl, r.step s2.ff s2.hh, r2⟩⟩⟩⟩
def vTup (f : De → Option (List Dt)) : De → Option T := fun δ => (f δ).bind fun ds => if ds.length ≤ sizeLine then some (.leaf (.tup ds)) else none
def vLst (f : De → Option (List Dt)) : De → Option T := fun δ => (f δ).bind fun ds => if ds.length ≤ sizeLine then some (.lst ds) else none
theorem do_tup {x1} (h : DA X es fs) : DO X (.Tuple es x1 pos) (vTup fs) := PE.mono (pe_tup h.pa) fun σ H Q ⟨Φ, δ, F, t, hK, en, hf, k⟩ => by
  unfold vTup at hf
  obtain ⟨ds, hd, hf⟩ := Option.bind_eq_some_iff.mp hf
  split at hf
  · rename_i hl
    cases hf
    refine ⟨Φ, δ, F, ds, hK, en, hd, fun vs H1 F1 st r => ⟨by rw [r.length]; exact hl, fun p hp => ?_⟩⟩
    refine (k.step st).leaf _ _ _ (Step.new st.fh hp) ?_
    simp only [Rep]
    exact ⟨p, vs, rfl, SqT.of upd_same, r.same (Same.upd (st.fh.free hp))⟩
  · cases hf
theorem own_lst {K : PySem.W.Frag} {F H : Hp} {ds : List Dt} {vs : List V} {p : Addr} {Q : VK} (k : KO K F H (.lst ds) Q) (fh : Same F H) (r : Reps K F ds vs) (hp : H p = none) : Q (.ref p) (upd H p (.lst vs)) := by
  refine k _ _ F (fun b => b = p) (Step.made fh hp) ⟨p, vs, rfl, rfl, upd_same, r⟩ fun b z => ?_
  subst z
  exact ⟨fh.free hp, hp, _, upd_same⟩
theorem do_lst (h : DA X es fs) : DO X (.List es pos) (vLst fs) := PE.mono (pe_lst h.pa) fun σ H Q ⟨Φ, δ, F, t, hK, en, hf, k⟩ => by
  unfold vLst at hf
  obtain ⟨ds, hd, hf⟩ := Option.bind_eq_some_iff.mp hf
  split at hf
  · rename_i hl
    cases hf
    exact ⟨Φ, δ, F, ds, hK, en, hd, fun vs H1 F1 st r => ⟨by rw [r.length]; exact hl, fun p hp => own_lst (k.step st) st.fh r hp⟩⟩
  · cases hf
def CRD (K : PySem.W.Frag) (r : List V → Hp → VK → Prop) (g : List Dt → Option T) : Prop := ∀ F H ds vs (Q : VK) t, Same F H → RepBs K F H ds vs → g ds = some t → KO K F H t Q → r vs H Q
def vCall (g : List Dt → Option T) (f : De → Option (List Dt)) : De → Option T := fun δ => (f δ).bind g
theorem tcb_of {K : PySem.W.Frag} {r : List V → Hp → VK → Prop} {g : List Dt → Option T} (hr : CRD K r g) {σ : St} {H : Hp} {Q : VK} (h : tO K (vCall g fs) σ H Q) : tCB r (tAB K fs) σ H Q := by
  obtain ⟨Φ, δ, F, t, hK, en, hf, k⟩ := h
  unfold vCall at hf
  obtain ⟨ds, hd, hf⟩ := Option.bind_eq_some_iff.mp hf
  exact ⟨Φ, δ, F, ds, hK, en, hd, fun vs H1 F1 st r => hr F1 H1 ds vs Q t st.fh r hf (k.step st)⟩
variable {x : Str} {p : Pos} {id Ty : String} {sc : Scope} {r : List V → Hp → VK → Prop} {gg : List Dt → Option T}
theorem do_callB (h : glOk sc x = true) (hc : CallR X (.builtin id) r) (hr : CRD X.K r gg) (hm : X.mg x = none) (hv : bootBuiltins x = some (.builtin id)) (ha : DAB X (e :: es) fs) (e1 : ScIs X sc := by rfl)
    (he : starEach (e :: es) X.env = (false, eval e X.env) :: starEach es X.env := by rfl) (hpl : (backTo pos (starEach es X.env)).any (·.1) = false := by rfl) : DO X (.Call (.Name x p) (e :: es) [] pos) (vCall gg fs) :=
  PE.mono (pe_callBD h hc hm hv ha.pa e1 he hpl) fun σ H Q q => tcb_of hr q
theorem do_callT (h : glOk sc x = true) (hc : CallR X (.type Ty) r) (hr : CRD X.K r gg) (hm : X.mg x = none) (hv : bootBuiltins x = some (.type Ty)) (ha : DAB X (e :: es) fs) (e1 : ScIs X sc := by rfl)
    (he : starEach (e :: es) X.env = (false, eval e X.env) :: starEach es X.env := by rfl) (hpl : (backTo pos (starEach es X.env)).any (·.1) = false := by rfl) : DO X (.Call (.Name x p) (e :: es) [] pos) (vCall gg fs) :=
  PE.mono (pe_callTyD h hc hm hv ha.pa e1 he hpl) fun σ H Q q => tcb_of hr q
def spD (K : PySem.W.Frag) (n : Nat) (f : List Dt → Option T) : Sp := fun vs H Q _ => ∃ F ds t, Same F H ∧ ds.length = n ∧ Reps K F ds vs ∧ f ds = some t ∧ KO K F H t Q
theorem do_callF {k n : Nat} {ps : List Str} {ff : List Dt → Option T} (h : glOk sc x = true) (F : OkF X.prog X.w X.K X.mg X.base x k ps (spD X.K n ff)) (hr : Room k X.A) (ha : DA X (e :: es) fs) (hn : (e :: es).length = n := by rfl) (e1 : ScIs X sc := by rfl)
    (he : starEach (e :: es) X.env = (false, eval e X.env) :: starEach es X.env := by rfl) (hpl : (backTo pos (starEach es X.env)).any (·.1) = false := by rfl) : DO X (.Call (.Name x p) (e :: es) [] pos) (vCall ff fs) :=
  PE.mono (pe_callFD h F hr ha.pa e1 he hpl) fun σ H Q ⟨Φ, δ, Fz, t, hK, en, hf, k⟩ => by
    unfold vCall at hf
    obtain ⟨ds, hd, hf⟩ := Option.bind_eq_some_iff.mp hf
    refine ⟨Φ, δ, Fz, ds, hK, en, hd, fun vs H1 F1 st r => ?_⟩
    show spD X.K n ff (vs ++ []) H1 Q E0
    rw [List.append_nil]
    exact ⟨F1, ds, t, st.fh, (ha.len δ ds hd).trans hn, r, hf, k.step st⟩
end
end L2

namespace L2
open PySem PySem.Spec PyProof.Rows
inductive Out where
  | nx (δ : De) | rt (t : T) | bk (δ : De) | ct (δ : De)
structure Rt (Φ : Fm) (t : T) (v : V) (F H : Hp) : Prop where
  fh : Same F H
  prot : ∀ b o, Φ.H0 b = some o → ¬ Φ.S0 b → H b = some o
  old : Same Φ.F0 F
  nw : ∀ b o, F b = some o → Φ.F0 b = some o ∨ Φ.B b
  own : ∃ S, Own Φ.K F H t v S ∧ ∀ b, S b → F b = none ∧ (∃ o, H b = some o) ∧ Φ.B b
def Post (Φ : Fm) (D : Ends) : Out → Prop
  | .nx δ => ∀ σ F H, En Φ δ σ F H → D.nx σ H
  | .rt t => ∀ v F H, Rt Φ t v F H → D.rt v H
  | .bk δ => ∀ σ F H, En Φ δ σ F H → D.bk σ H
  | .ct δ => ∀ σ F H, En Φ δ σ F H → D.ct σ H
def tS (K : PySem.W.Frag) (g : De → Option Out) : TS := fun D σ H => ∃ Φ δ F o, Fm.K Φ = K ∧ En Φ δ σ F H ∧ g δ = some o ∧ Post Φ D o
def DS1 (X : Cx) (st : Stmt) (g : De → Option Out) : Prop := PS X st (tS X.K g)
def DS (X : Cx) (ss : List Stmt) (g : De → Option Out) : Prop := PSs X ss (tS X.K g)
section
variable {X : Cx} {st : Stmt} {rest a b body : List Stmt} {g g1 g2 : De → Option Out} {e c tg iter : Expr} {pos : Pos} {f : De → Option T} {fd : De → Option Dt} {tc : De → Option Bool} {i : Nat}
def sNil : De → Option Out := fun δ => some (.nx δ)
def sSeq (g1 g2 : De → Option Out) : De → Option Out := fun δ => (g1 δ).bind fun o => match o with
  | .nx δ' => g2 δ'
  | o => some o
theorem ds_nil : DS X [] sNil := PSs.mono pss_nil fun D σ H ⟨Φ, δ, F, o, hK, en, hg, k⟩ => by
  cases hg
  exact k σ F H en
theorem ds_one (h : DS1 X st g) : DS X [st] g := pss_one h
theorem ds_cons (h1 : DS1 X st g1) (h2 : DS X rest g2) : DS X (st :: rest) (sSeq g1 g2) := PSs.mono (pss_cons h1 h2) fun D σ H ⟨Φ, δ, F, o, hK, en, hg, k⟩ => by
  unfold sSeq at hg
  obtain ⟨o1, h1, hg⟩ := Option.bind_eq_some_iff.mp hg
  refine ⟨Φ, δ, F, o1, hK, en, h1, ?_⟩
  cases o1 with
  | nx δ' => exact fun σ' F' H' en' => ⟨Φ, δ', F', o, hK, en', hg, k⟩
  | rt t => cases hg; exact k
  | bk δ' => cases hg; exact k
  | ct δ' => cases hg; exact k
theorem ds_pass : DS1 X (.Pass pos) sNil := PS.mono ps_pass fun D σ H ⟨Φ, δ, F, o, hK, en, hg, k⟩ => by
  cases hg
  exact k σ F H en
def sBrk : De → Option Out := fun δ => some (.bk δ)
def sCnt : De → Option Out := fun δ => some (.ct δ)
theorem ds_break : DS1 X (.Break pos) sBrk := PS.mono ps_break fun D σ H ⟨Φ, δ, F, o, hK, en, hg, k⟩ => by
  cases hg
  exact k σ F H en
theorem ds_continue : DS1 X (.Continue pos) sCnt := PS.mono ps_continue fun D σ H ⟨Φ, δ, F, o, hK, en, hg, k⟩ => by
  cases hg
  exact k σ F H en
theorem ds_doc {x j pos pos'} : DS1 X (.Expr (.Constant (.str x) j pos) pos') sNil := PS.mono ps_doc fun D σ H ⟨Φ, δ, F, o, hK, en, hg, k⟩ => by
  cases hg
  exact k σ F H en
def sDrop (f : De → Option T) : De → Option Out := fun δ => (f δ).map fun _ => .nx δ
theorem ds_expr (h : DO X e f) (hs : swapsWith e none pos.line X.env = pure false := by rfl) : DS1 X (.Expr e pos) (sDrop f) := PS.mono (ps_expr h hs) fun D σ H ⟨Φ, δ, F, o, hK, en, hg, k⟩ => by
  unfold sDrop at hg
  obtain ⟨t, ht, hg⟩ := Option.map_eq_some_iff.mp hg
  cases hg
  exact ⟨Φ, δ, F, t, hK, en, ht, fun v H' F' S st _ _ => k σ F' H' (en.step st)⟩
def sRet (f : De → Option T) : De → Option Out := fun δ => (f δ).map .rt
theorem En.rt {Φ : Fm} {δ : De} {σ : St} {F H F' H' : Hp} {t : T} {v : V} {S : Addr → Prop} (en : En Φ δ σ F H) (st : Step F H F' H') (o : Own Φ.K F' H' t v S) (hs : ∀ b, S b → F' b = none ∧ H b = none ∧ ∃ o, H' b = some o) : Rt Φ t v F' H' := by
  have e' := en.step st
  exact ⟨e'.fh, e'.prot, e'.old, e'.nw, S, o, fun b z => ⟨(hs b z).1, (hs b z).2.2, en.fresh (hs b z).2.1⟩⟩
theorem ds_ret (h : DO X e f) : DS1 X (.Return (some e) pos) (sRet f) := PS.mono (ps_ret h) fun D σ H ⟨Φ, δ, F, o, hK, en, hg, k⟩ => by
  unfold sRet at hg
  obtain ⟨t, ht, hg⟩ := Option.map_eq_some_iff.mp hg
  cases hg
  exact ⟨Φ, δ, F, t, hK, en, ht, fun v H' F' S st o hs => k v F' H' (en.rt st (hK ▸ o) hs)⟩
theorem ds_retN : DS1 X (.Return none pos) (sRet (toT (kD .non))) := PS.mono ps_retN fun D σ H ⟨Φ, δ, F, o, hK, en, hg, k⟩ => by
  cases hg
  exact k .non F H (en.rt (Step.refl en.fh) (S := fun _ => False) (t := .leaf .non) (rep_non (K := Φ.K) (F := F)) fun _ z => z.elim)
def sRetV (i : Nat) : De → Option Out := fun δ => match δ[i]? with
  | some (some t) => some (.rt t)
  | _ => none
theorem ds_retV (h : PE X e (tVar i)) : DS1 X (.Return (some e) pos) (sRetV i) := PS.mono (ps_ret h) fun D σ H ⟨Φ, δ, F, o, hK, en, hg, k⟩ => by
  unfold sRetV at hg
  split at hg
  · rename_i t q
    cases hg
    obtain ⟨v, hv⟩ := en.has i t q
    obtain ⟨S, s⟩ := en.sep
    exact ⟨v, hv, k v F H ⟨en.fh, en.prot, en.old, en.nw, S i, s.own i t v (liveS_of q hv), fun b z => s.out i b z⟩⟩
  · cases hg
def sIf (c : De → Option Bool) (g1 g2 : De → Option Out) : De → Option Out := fun δ => (c δ).bind fun b => if b then g1 δ else g2 δ
theorem ds_if (hc : DT X c tc) (h1 : DS X a g1) (h2 : DS X b g2) : DS1 X (.If c a b pos) (sIf tc g1 g2) := PS.mono (ps_if hc h1 h2) fun D σ H ⟨Φ, δ, F, o, hK, en, hg, k⟩ => by
  unfold sIf at hg
  obtain ⟨x, hx, hg⟩ := Option.bind_eq_some_iff.mp hg
  refine ⟨Φ, δ, F, x, hK, en, hx, fun H' F' st => ?_⟩
  split at hg
  · rename_i q
    rw [if_pos q]
    exact ⟨Φ, δ, F', o, hK, en.step st, hg, k⟩
  · rename_i q
    rw [if_neg q]
    exact ⟨Φ, δ, F', o, hK, en.step st, hg, k⟩
def sSet (i : Nat) (f : De → Option T) : De → Option Out := fun δ => (f δ).map fun t => .nx (δ.set i (some t))
theorem ds_set {sc : Scope} {N : List Str} {x : Str} {pos' : Pos} (h : nmOk sc N i x = true) (hl : lcOk sc x = true) (nd : N.Nodup) (he : DO X e f) (e1 : ScIs X sc := by rfl) (e2 : X.N = N := by rfl) (hf : X.fn x = true ∨ X.env.scope.names.lookup x = some .local := by exact .inl rfl)
    (hs : swapsWith e (some (.Name x pos')) pos.line X.env = pure false := by rfl) : DS1 X (.Assign [.Name x pos'] e pos) (sSet i f) := PS.mono (ps_setD h hl nd he e1 e2 hf hs) fun D σ H ⟨Φ, δ, F, o, hK, en, hg, k⟩ => by
  unfold sSet at hg
  obtain ⟨t, ht, hg⟩ := Option.map_eq_some_iff.mp hg
  cases hg
  exact ⟨Φ, δ, F, t, hK, en, ht, fun v H' F' S st o hs => k _ F' H' (en.put st (hK ▸ o) hs i)⟩
def sFrz (i : Nat) (g : De → Option Out) : De → Option Out := fun δ => match δ[i]? with
  | some (some t) => g (δ.set i (some (.leaf t.d)))
  | _ => none
theorem frz_of {K : PySem.W.Frag} {D : Ends} {σ : St} {H : Hp} (h : tS K (sFrz i g) D σ H) : tS K g D σ H := by
  obtain ⟨Φ, δ, F, o, hK, en, hg, k⟩ := h
  unfold sFrz at hg
  split at hg
  · rename_i t q
    obtain ⟨F', en'⟩ := en.freeze q
    exact ⟨Φ, _, F', o, hK, en', hg, k⟩
  · cases hg
theorem ds_frz (h : DS X a g) : DS X a (sFrz i g) := PSs.mono h fun D σ H q => frz_of q
theorem ds1_frz (h : DS1 X st g) : DS1 X st (sFrz i g) := PS.mono h fun D σ H q => frz_of q
def gD (K : PySem.W.Frag) (ts : List Nat) (st : Dt → De → Option De) : TG := fun v σ H Q => ∃ Φ δ F d δ', Fm.K Φ = K ∧ En Φ δ σ F H ∧ Rep K F d v ∧ st d δ = some δ' ∧ ∀ σ', σ'.length = σ.length → (∀ j, j ∉ ts → σ'[j]? = σ[j]?) → En Φ δ' σ' F H → Q σ' H
def gsD (K : PySem.W.Frag) (ts : List Nat) (st : List Dt → De → Option De) : TGs := fun vs σ H Q => ∃ Φ δ F ds δ', Fm.K Φ = K ∧ En Φ δ σ F H ∧ Reps K F ds vs ∧ st ds δ = some δ' ∧ ∀ σ', σ'.length = σ.length → (∀ j, j ∉ ts → σ'[j]? = σ[j]?) → En Φ δ' σ' F H → Q σ' H
def DG (X : Cx) (tg : Expr) (ts : List Nat) (bb : Dt → De → Option De) : Prop := PG X tg (gD X.K ts bb)
def DGs (X : Cx) (tg : List Expr) (ts : List Nat) (bb : List Dt → De → Option De) : Prop := PGs X tg (gsD X.K ts bb)
def bName (i : Nat) : Dt → De → Option De := fun d δ => some (δ.set i (some (.leaf d)))
theorem En.name {Φ : Fm} {δ : De} {σ : St} {F H : Hp} (en : En Φ δ σ F H) {d : Dt} {v : V} (r : Rep Φ.K F d v) (i : Nat) : En Φ (δ.set i (some (.leaf d))) (σ.set i (some v)) F H :=
  en.put (Step.refl en.fh) (S' := fun _ => False) (t := .leaf d) r (fun _ z => z.elim) i
theorem dg_name (h : PG X tg (gName i)) : DG X tg [i] (bName i) := PG.mono h fun v σ H Q ⟨Φ, δ, F, d, δ', hK, en, r, hd, k⟩ => by
  cases hd
  refine k _ (by simp) (fun j hj => ?_) (en.name (hK ▸ r) i)
  rw [List.getElem?_set_ne fun z => hj (by simp [z])]
def bNil : List Dt → De → Option De := fun ds δ => if ds.isEmpty then some δ else none
def bCons (b : Dt → De → Option De) (bs : List Dt → De → Option De) : List Dt → De → Option De := fun ds δ => match ds with
  | d :: r => (b d δ).bind fun δ1 => bs r δ1
  | [] => none
def bTup (n : Nat) (bs : List Dt → De → Option De) : Dt → De → Option De := fun d δ => match d with
  | .tup ds => if ds.length = n then bs ds δ else none
  | _ => none
theorem dgs_nil : DGs X [] [] bNil := fun pins s σ H vs us Q I r q => pgs_nil pins s σ H vs us Q I r (by
  obtain ⟨Φ, δ, F, ds, δ', hK, en, rs, hd, k⟩ := q
  unfold bNil at hd
  cases ds with
  | nil => cases hd; simp only [Reps] at rs; exact ⟨rs, k σ rfl (fun _ _ => rfl) en⟩
  | cons d l => cases hd)
theorem dgs_cons {es : List Expr} {ts ts' : List Nat} {bb : Dt → De → Option De} {bs : List Dt → De → Option De} (h1 : DG X e ts bb) (h2 : DGs X es ts' bs)
    (hs : (assignEach (e :: es) X.env).map (·.2) = assign e X.env :: (assignEach es X.env).map (·.2) := by rfl) : DGs X (e :: es) (ts ++ ts') (bCons bb bs) := fun pins s σ H vs us Q I r q => pgs_cons h1 h2 hs pins s σ H vs us Q I r (by
  obtain ⟨Φ, δ, F, ds, δ', hK, en, rs, hd, k⟩ := q
  unfold bCons at hd
  cases ds with
  | nil => cases hd
  | cons d l =>
    simp only [Reps] at rs
    obtain ⟨v, ws, e, r1, r2⟩ := rs
    dsimp only at hd
    obtain ⟨δ1, hb, hd⟩ := Option.bind_eq_some_iff.mp hd
    refine ⟨v, ws, e, Φ, δ, F, d, δ1, hK, en, r1, hb, fun σ1 l1 k1 en1 => ⟨Φ, δ1, F, l, δ', hK, en1, r2, hd, fun σ2 l2 k2 en2 => k σ2 (l2.trans l1) (fun j hj => ?_) en2⟩⟩
    rw [k2 j fun z => hj (List.mem_append_right _ z), k1 j fun z => hj (List.mem_append_left _ z)])
theorem dg_tup {es : List Expr} {k : Nat} {n : Nat} {ts : List Nat} {bs : List Dt → De → Option De} (hc : X.calm = true) (h : DGs X es ts bs)
    (hn : (assignEach es X.env).length = n := by rfl) (hst : (assignEach es X.env).findIdx? (·.1) = none := by rfl) : DG X (.Tuple es k pos) ts (bTup n bs) := PG.mono (pg_tup hc h hn hst) fun v σ H Q ⟨Φ, δ, F, d, δ', hK, en, r, hd, q⟩ => by
  unfold bTup at hd
  split at hd
  · rename_i ds
    split at hd
    · rename_i hl
      simp only [Rep] at r
      obtain ⟨a, vs, e, h1, h2⟩ := r
      exact ⟨a, vs, e, en.fh.tup h1, by rw [h2.length]; exact hl, Φ, δ, F, ds, δ', hK, en, h2, hd, q⟩
    · cases hd
  · cases hd
def sAsg (fd : De → Option Dt) (bb : Dt → De → Option De) : De → Option Out := fun δ => (fd δ).bind fun d => (bb d δ).map .nx
theorem ds_asg {ts : List Nat} {bb : Dt → De → Option De} (he : DL X e fd) (hg : DG X tg ts bb) (hs : swapsWithSole [tg] e pos.line X.env = pure false := by rfl) (hw : swappedStores [tg] e X.env = pure none := by rfl)
    (h1 : (assignEach [tg] X.env).map (·.2) = [assign tg X.env] := by rfl) : DS1 X (.Assign [tg] e pos) (sAsg fd bb) := PS.mono (ps_asg he hg hs hw h1) fun D σ H ⟨Φ, δ, F, o, hK, en, hg, k⟩ => by
  unfold sAsg at hg
  obtain ⟨d, hd, hg⟩ := Option.bind_eq_some_iff.mp hg
  obtain ⟨δ', hb, hg⟩ := Option.map_eq_some_iff.mp hg
  cases hg
  exact ⟨Φ, δ, F, d, hK, en, hd, fun v H' F' st r => ⟨Φ, δ, F', d, δ', hK, en.step st, r, hb, fun σ' _ _ en' => k σ' F' H' en'⟩⟩
def WalkD (K : PySem.W.Frag) (F' : Hp) (J : It) (ds : List Dt) (ok : Hp → Prop) : Prop := ∀ (i : Nat) (H F : Hp), ok H → Same F H → Same F' F → (i < ds.length → J.go i H) ∧ (i = ds.length → J.stop i H) ∧ ∀ x H', i < ds.length → J.yld i H x H' → ∃ d F2, ds[i]? = some d ∧ Step F H F2 H' ∧ Rep K F2 d x
theorem Plain.walk {K : PySem.W.Frag} {F' : Hp} {J : It} {xs : List V} {ds : List Dt} {ok : Hp → Prop} (pl : Plain J xs ok) (r : Reps K F' ds xs) : WalkD K F' J ds ok := fun i H F hok fh ff => by
  obtain ⟨p1, p2, p3⟩ := pl i H hok
  have hl := r.length
  refine ⟨fun h => p1 (by omega), fun h => p2 (by omega), fun x H' hi hy => ?_⟩
  obtain ⟨rfl, hx⟩ := p3 x H' (by omega) hy
  have hd : ds[i]? = some ds[i] := by simp [hi]
  obtain ⟨v, e, rv⟩ := r.get hd
  rw [hx] at e
  cases e
  exact ⟨_, F, hd, Step.refl fh, rv.same ff⟩
def tIF (K : PySem.W.Frag) (f : De → Option (List Dt)) : TI := fun σ H R => ∃ Φ δ F ds, Fm.K Φ = K ∧ En Φ δ σ F H ∧ f δ = some ds ∧ ∀ J ok H' F', Step F H F' H' → WalkD K F' J ds ok → (∀ H2, Same F' H2 → ok H2) → R J H'
def tIB (K : PySem.W.Frag) (f : De → Option (List Dt)) : TI := fun σ H R => ∃ Φ δ F ds, Fm.K Φ = K ∧ En Φ δ σ F H ∧ f δ = some ds ∧ ∀ J ok H' F', Step F H F' H' → WalkD K F' J ds ok → (∀ H2, Same H' H2 → ok H2) → R J H'
def DIF (X : Cx) (tg iter : Expr) (f : De → Option (List Dt)) : Prop := PI X tg iter (tIF X.K f)
def DIB (X : Cx) (tg iter : Expr) (f : De → Option (List Dt)) : Prop := PI X tg iter (tIB X.K f)
theorem DIF.toB {fi : De → Option (List Dt)} (h : DIF X tg iter fi) : DIB X tg iter fi := PI.mono h fun σ H R ⟨Φ, δ, F, ds, hK, en, hf, k⟩ => ⟨Φ, δ, F, ds, hK, en, hf, fun J ok H' F' st wd ho => k J ok H' F' st wd fun H2 s => ho H2 (st.fh.trans s)⟩
end
end L2

namespace L2
open PySem PySem.Spec PyProof.Rows
section
variable {X : Cx} {st : Stmt} {rest a b body : List Stmt} {g g1 g2 : De → Option Out} {e c tg iter l : Expr} {pos : Pos} {f : De → Option T} {fd : De → Option Dt} {tc : De → Option Bool} {i : Nat} {fi : De → Option (List Dt)}
def forD (bb : Dt → De → Option De) (g : De → Option Out) : List Dt → De → Option Out
  | [], δ => some (.nx δ)
  | d :: r, δ => (bb d δ).bind fun δ1 => (g δ1).bind fun o => match o with
    | .nx δ2 => forD bb g r δ2
    | .ct δ2 => forD bb g r δ2
    | .bk δ2 => some (.nx δ2)
    | .rt t => some (.rt t)
def sFor (fi : De → Option (List Dt)) (bb : Dt → De → Option De) (g : De → Option Out) : De → Option Out := fun δ => (fi δ).bind fun ds => forD bb g ds δ
theorem Reps.same_get {K : PySem.W.Frag} {F : Hp} {ds : List Dt} {xs : List V} (r : Reps K F ds xs) {i : Nat} {x : V} (h : xs[i]? = some x) : ∃ d, ds[i]? = some d ∧ Rep K F d x := by
  have hl := r.length
  have hi : i < xs.length := (List.getElem?_eq_some_iff.mp h).1
  have hd : ds[i]? = some ds[i] := by simp [show i < ds.length by omega]
  obtain ⟨v, e, rv⟩ := r.get hd
  rw [h] at e
  cases e
  exact ⟨_, hd, rv⟩
theorem drop_of {α : Type} {l : List α} {i : Nat} {d : α} (h : l[i]? = some d) : l.drop i = d :: l.drop (i + 1) := by
  have hi : i < l.length := (List.getElem?_eq_some_iff.mp h).1
  rw [List.drop_eq_getElem_cons hi]
  congr 1
  have := (List.getElem?_eq_some_iff.mp h).2
  exact this
def Fm.at (Φ : Fm) (F1 : Hp) : Fm := { Φ with F0 := F1 }
theorem En.back {Φ : Fm} {δ δ' : De} {σ σ' : St} {F1 H1 F H : Hp} (en : En Φ δ σ F1 H1) (e : En (Φ.at F1) δ' σ' F H) : En Φ δ' σ' F H :=
  ⟨e.fh, e.prot, en.old.trans e.old, fun b o h => (e.nw b o h).elim (fun z => en.nw b o z) .inr, e.len, e.has, e.sep⟩
theorem Rt.back {Φ : Fm} {δ : De} {σ : St} {F1 H1 F H : Hp} {t : T} {v : V} (en : En Φ δ σ F1 H1) (e : Rt (Φ.at F1) t v F H) : Rt Φ t v F H :=
  ⟨e.fh, e.prot, en.old.trans e.old, fun b o h => (e.nw b o h).elim (fun z => en.nw b o z) .inr, e.own⟩
theorem En.at {Φ : Fm} {δ : De} {σ : St} {F1 H1 : Hp} (en : En Φ δ σ F1 H1) : En (Φ.at F1) δ σ F1 H1 :=
  ⟨en.fh, en.prot, Same.refl _, fun b o h => .inl h, en.len, en.has, en.sep⟩
theorem Post.at {Φ : Fm} {D : Ends} {o : Out} {δ : De} {σ : St} {F1 H1 : Hp} (en : En Φ δ σ F1 H1) (k : Post Φ D o) : Post (Φ.at F1) D o := by
  cases o with
  | nx δ' => exact fun σ' F H e => k σ' F H (en.back e)
  | bk δ' => exact fun σ' F H e => k σ' F H (en.back e)
  | ct δ' => exact fun σ' F H e => k σ' F H (en.back e)
  | rt t => exact fun v F H e => k v F H (Rt.back en e)
theorem for_walk {n : Nat} {g : TG} {tb : TS} {D : Ends} {J : It} {σ : St} {H1 : Hp} (Pv : Nat → St → Hp → Prop) (h0 : Pv 0 σ H1) (hgo : ∀ i σ H, Pv i σ H → (i < n → J.go i H) ∧ (i = n → J.stop i H))
    (hs : ∀ i x σ H H', i < n → Pv i σ H → J.yld i H x H' → g x σ H' fun σ2 H2 => tb { D with nx := Pv (i + 1), ct := Pv (i + 1), bk := D.nx } σ2 H2) (hd : ∀ σ H, Pv n σ H → D.nx σ H) : ForW g tb D J σ H1 := by
  refine ⟨fun i m σ H => m = n - i ∧ i ≤ n ∧ Pv i σ H, ⟨n, by simp, Nat.zero_le _, h0⟩, ?_⟩
  rintro i m σ H ⟨rfl, hi, p⟩
  obtain ⟨p1, p2⟩ := hgo i σ H p
  by_cases hlt : i < n
  · exact .inr ⟨p1 hlt, Pv (i + 1), fun σ' H' p' => ⟨n - (i + 1), by omega, rfl, hlt, p'⟩, fun x H' y => hs i x σ H H' hlt p y⟩
  · have e : i = n := by omega
    subst e
    exact .inl ⟨p2 rfl, hd σ H p⟩
theorem ds_for {ts : List Nat} {bb : Dt → De → Option De} (hp : PassesOwn (model X.prog X.w) X.A X.env X.xe) (hc : X.calm = true) (hi : DIF X tg iter fi) (hg : DG X tg ts bb) (hb : DS X body g)
    (hs : ∀ x, foldedSetIterable iter X.env x = pure x := by intro _; rfl) : DS1 X (.For tg iter body [] pos) (sFor fi bb g) := PS.mono (ps_for hp hc hi hg hb hs) fun D σ H ⟨Φ, δ, F, o, hK, en, hg, k⟩ => by
  unfold sFor at hg
  obtain ⟨ds, hd, hg⟩ := Option.bind_eq_some_iff.mp hg
  rw [tFor_eq]
  refine ⟨Φ, δ, F, ds, hK, en, hd, fun J ok H1 F1 st1 wd ho => ?_⟩
  have en1 := en.step st1
  have k1 := Post.at en1 k
  refine for_walk (n := ds.length) (fun i σ' H' => ∃ δ' F', En (Φ.at F1) δ' σ' F' H' ∧ forD bb g (ds.drop i) δ' = some o) ⟨δ, F1, en1.at, by simpa using hg⟩ (fun i σ' H' ⟨δ', F', en', _⟩ => ?_) ?_ ?_
  · obtain ⟨p1, p2, _⟩ := wd i H' F' (ho H' (en'.old.trans en'.fh)) en'.fh en'.old
    exact ⟨p1, p2⟩
  · rintro i x σ' H' H'' hi ⟨δ', F', en', hgo⟩ hy
    obtain ⟨_, _, p3⟩ := wd i H' F' (ho H' (en'.old.trans en'.fh)) en'.fh en'.old
    obtain ⟨d, F2, hd', st2, rd⟩ := p3 x H'' hi hy
    rw [drop_of hd'] at hgo
    unfold forD at hgo
    obtain ⟨δ1, h1, hgo⟩ := Option.bind_eq_some_iff.mp hgo
    obtain ⟨o1, h2, hgo⟩ := Option.bind_eq_some_iff.mp hgo
    refine ⟨Φ.at F1, δ', F2, d, δ1, hK, en'.step st2, rd, h1, fun σ1 _ _ en1 => ⟨Φ.at F1, δ1, F2, o1, hK, en1, h2, ?_⟩⟩
    cases o1 with
    | nx δ2 => exact fun σ2 F2 H2 en2 => ⟨δ2, F2, en2, hgo⟩
    | ct δ2 => exact fun σ2 F2 H2 en2 => ⟨δ2, F2, en2, hgo⟩
    | bk δ2 => cases hgo; exact fun σ2 F2 H2 en2 => k1 σ2 F2 H2 en2
    | rt t => cases hgo; exact fun v F2 H2 q => k1 v F2 H2 q
  · rintro σ' H' ⟨δ', F', en', hgo⟩
    rw [List.drop_length] at hgo
    cases hgo
    exact k1 σ' F' H' en'
def whileD (c : De → Option Bool) (g : De → Option Out) : Nat → De → Option Out
  | 0, _ => none
  | n + 1, δ => (c δ).bind fun b => if b then (g δ).bind fun o => match o with
    | .nx δ2 => whileD c g n δ2
    | .ct δ2 => whileD c g n δ2
    | .bk δ2 => some (.nx δ2)
    | .rt t => some (.rt t) else some (.nx δ)
theorem ds_while (n : Nat) (hp : PassesOwn (model X.prog X.w) X.A X.env X.xe) (hc : DT X c tc) (hb : DS X body g) : DS1 X (.While c body [] pos) (whileD tc g n) := PS.mono (ps_while hp hc hb) fun D σ H ⟨Φ, δ, F, o, hK, en, hg, k⟩ => by
  refine ⟨fun m σ' H' => ∃ δ' F', En Φ δ' σ' F' H' ∧ whileD tc g m δ' = some o, ⟨n, δ, F, en, hg⟩, ?_⟩
  rintro m σ' H' ⟨δ', F', en', hgo⟩
  cases m with
  | zero => cases hgo
  | succ m =>
    unfold whileD at hgo
    obtain ⟨x, hx, hgo⟩ := Option.bind_eq_some_iff.mp hgo
    refine ⟨Φ, δ', F', x, hK, en', hx, fun H1 F1 st => ?_⟩
    split at hgo
    · rename_i q
      rw [if_pos q]
      obtain ⟨o1, h2, hgo⟩ := Option.bind_eq_some_iff.mp hgo
      refine ⟨fun σ2 H2 => ∃ δ2 F2, En Φ δ2 σ2 F2 H2 ∧ whileD tc g m δ2 = some o, fun σ2 H2 z => ⟨m, Nat.lt_succ_self m, z⟩, Φ, δ', F1, o1, hK, en'.step st, h2, ?_⟩
      cases o1 with
      | nx δ2 => exact fun σ2 F2 H2 en2 => ⟨δ2, F2, en2, hgo⟩
      | ct δ2 => exact fun σ2 F2 H2 en2 => ⟨δ2, F2, en2, hgo⟩
      | bk δ2 => cases hgo; exact fun σ2 F2 H2 en2 => k σ2 F2 H2 en2
      | rt t => cases hgo; exact fun v F2 H2 q => k v F2 H2 q
    · rename_i q
      rw [if_neg q]
      cases hgo
      exact k σ' F1 H1 (en'.step st)
def signD (x : Str) : List Dt := x.cps.toList.map fun c => .str ⟨#[c]⟩
def rangeD (lo : Int) (n : Nat) : List Dt := (List.range n).map fun (i : Nat) => .int (lo + i)
theorem Reps.map {K : PySem.W.Frag} {F : Hp} {α : Type} {f : α → Dt} {g : α → V} (h : ∀ x, Rep K F (f x) (g x)) : ∀ l : List α, Reps K F (l.map f) (l.map g)
  | [] => by simp [Reps]
  | x :: l => by
    simp only [List.map_cons, Reps]
    exact ⟨_, _, rfl, h x, Reps.map h l⟩
def itD : Dt → Option (List Dt)
  | .lst l => some l
  | .tup l => some l
  | .str x => some (signD x)
  | _ => none
def fIt (f : De → Option Dt) : De → Option (List Dt) := fun δ => (f δ).bind itD
theorem di_seq (h : DL X l fd) : DIF X tg l (fIt fd) := PI.mono (PI.or (pi_list h) (PI.or (pi_tup h) (pi_str h))) fun σ H R ⟨Φ, δ, F, ds, hK, en, hf, k⟩ => by
  unfold fIt at hf
  obtain ⟨d, hd, hf⟩ := Option.bind_eq_some_iff.mp hf
  cases d with
  | lst l =>
    cases hf
    refine .inl ⟨Φ, δ, F, _, hK, en, hd, fun v H' F' st r => ?_⟩
    simp only [Rep] at r
    obtain ⟨a, vs, rfl, h1, h2⟩ := r
    exact ⟨a, rfl, ⟨vs, st.fh.seq h1⟩, k _ _ H' F' st (plain_list.walk h2) fun H2 s => s.seq h1⟩
  | tup l =>
    cases hf
    refine .inr (.inl ⟨Φ, δ, F, _, hK, en, hd, fun v H' F' st r => ?_⟩)
    simp only [Rep] at r
    obtain ⟨a, vs, rfl, h1, h2⟩ := r
    exact ⟨a, rfl, ⟨vs, st.fh.tup h1⟩, k _ _ H' F' st (plain_tup.walk h2) fun H2 s => s.tup h1⟩
  | str x =>
    cases hf
    refine .inr (.inr ⟨Φ, δ, F, _, hK, en, hd, fun v H' F' st r => ?_⟩)
    simp only [Rep] at r
    exact ⟨x, r, k _ _ H' F' st (plain_str.walk (Reps.map (fun c => rep_str) _)) fun _ _ => trivial⟩
  | _ => cases hf
theorem dib_seq (h : DB X l fd) : DIB X tg l (fIt fd) := PI.mono (PI.or (pi_list h) (PI.or (pi_tup h) (pi_str h))) fun σ H R ⟨Φ, δ, F, ds, hK, en, hf, k⟩ => by
  unfold fIt at hf
  obtain ⟨d, hd, hf⟩ := Option.bind_eq_some_iff.mp hf
  cases d with
  | lst l =>
    cases hf
    refine .inl ⟨Φ, δ, F, _, hK, en, hd, fun v H' F' st r => ?_⟩
    obtain ⟨a, vs, rfl, h1, h2⟩ := r
    exact ⟨a, rfl, ⟨vs, h1⟩, k _ _ H' F' st (plain_list.walk h2) fun H2 s => s.seq h1⟩
  | tup l =>
    cases hf
    refine .inr (.inl ⟨Φ, δ, F, _, hK, en, hd, fun v H' F' st r => ?_⟩)
    obtain ⟨a, vs, rfl, h1, h2⟩ := r
    exact ⟨a, rfl, ⟨vs, st.fh.tup h1⟩, k _ _ H' F' st (plain_tup.walk h2) fun H2 s => s.tup (st.fh.tup h1)⟩
  | str x =>
    cases hf
    refine .inr (.inr ⟨Φ, δ, F, _, hK, en, hd, fun v H' F' st r => ?_⟩)
    exact ⟨x, r, k _ _ H' F' st (plain_str.walk (Reps.map (fun c => rep_str) _)) fun _ _ => trivial⟩
  | _ => cases hf
def rngOk (j : Int) : Bool := decide (-(2 ^ 62) ≤ j) && decide (j < 2 ^ 62)
def rng1 : List Dt → Option (List Dt)
  | [.int j] => if rngOk j then some (rangeD 0 j.toNat) else none
  | _ => none
def rng2 : List Dt → Option (List Dt)
  | [.int i, .int j] => if rngOk i && rngOk j then some (rangeD i (j - i).toNat) else none
  | _ => none
def fRng (r : List Dt → Option (List Dt)) (f : De → Option (List Dt)) : De → Option (List Dt) := fun δ => (f δ).bind r
variable {p : Pos} {sc : Scope} {x y : Expr} {fs : De → Option (List Dt)}
theorem rngOk_iff {j : Int} (h : rngOk j = true) : -(2 ^ 62) ≤ j ∧ j < 2 ^ 62 := by
  unfold rngOk at h
  simpa using h
theorem reps_range {K : PySem.W.Frag} {F : Hp} (lo : Int) (n : Nat) : Reps K F (rangeD lo n) (rangeV lo n) := Reps.map (fun _ => rep_int) _
theorem di_range1 (h : glOk sc "range" = true) (hm : X.mg "range" = none) (ha : DA X [x] fs) (e1 : ScIs X sc := by rfl) (hs : starEach [x] X.env = [(false, eval x X.env)] := by rfl) : DIF X tg (.Call (.Name "range" p) [x] [] pos) (fRng rng1 fs) :=
  PI.mono (pi_range1D h hm ha.pa e1 hs) fun σ H R ⟨Φ, δ, F, ds, hK, en, hf, k⟩ => by
    unfold fRng at hf
    obtain ⟨as, hd, hf⟩ := Option.bind_eq_some_iff.mp hf
    refine ⟨Φ, δ, F, as, hK, en, hd, fun vs H' F' st r => ?_⟩
    unfold rng1 at hf
    split at hf
    · rename_i j
      split at hf
      · rename_i hj
        cases hf
        simp only [Reps, Rep] at r
        obtain ⟨v, ws, rfl, rfl, rfl⟩ := r
        exact ⟨j, rfl, (rngOk_iff hj).1, (rngOk_iff hj).2, k _ _ H' F' st (plain_range.walk (reps_range _ _)) fun _ _ => trivial⟩
      · cases hf
    · cases hf
theorem di_range2 (h : glOk sc "range" = true) (hm : X.mg "range" = none) (ha : DA X [x, y] fs) (e1 : ScIs X sc := by rfl) (hs : starEach [x, y] X.env = [(false, eval x X.env), (false, eval y X.env)] := by rfl) (hs2 : starEach [y] X.env = [(false, eval y X.env)] := by rfl) :
    DIF X tg (.Call (.Name "range" p) [x, y] [] pos) (fRng rng2 fs) :=
  PI.mono (pi_range2D h hm ha.pa e1 hs hs2) fun σ H R ⟨Φ, δ, F, ds, hK, en, hf, k⟩ => by
    unfold fRng at hf
    obtain ⟨as, hd, hf⟩ := Option.bind_eq_some_iff.mp hf
    refine ⟨Φ, δ, F, as, hK, en, hd, fun vs H' F' st r => ?_⟩
    unfold rng2 at hf
    split at hf
    · rename_i i j
      split at hf
      · rename_i hj
        rw [Bool.and_eq_true] at hj
        cases hf
        simp only [Reps, Rep] at r
        obtain ⟨v, ws, rfl, rfl, w, us, rfl, rfl, rfl⟩ := r
        exact ⟨i, j, rfl, ⟨(rngOk_iff hj.1).1, (rngOk_iff hj.1).2, (rngOk_iff hj.2).1, (rngOk_iff hj.2).2⟩, k _ _ H' F' st (plain_range.walk (reps_range _ _)) fun _ _ => trivial⟩
      · cases hf
    · cases hf
end
end L2

namespace L2
open PySem PySem.Spec PyProof.Rows
def dC (src : List (Option Nat)) (δ : De) : De := src.map fun o => o.bind fun j => (δ[j]?).join
def compL (bb : Dt → De → Option De) (ft : De → Option Bool) (fe : De → Option Dt) (δ : De) : List Dt → Option (List Dt)
  | [] => some []
  | d :: r => (bb d δ).bind fun δ1 => (ft δ1).bind fun b => if b then (fe δ1).bind fun y => (compL bb ft fe δ r).bind fun ys => some (y :: ys) else compL bb ft fe δ r
def vComp (src : List (Option Nat)) (fi : De → Option (List Dt)) (bb : Dt → De → Option De) (ft : De → Option Bool) (fe : De → Option Dt) : De → Option T := fun δ =>
  (fi δ).bind fun ds => (compL bb ft fe (dC src δ) ds).bind fun ys => if ys.length ≤ sizeLine then some (.lst ys) else none
def tYesD : De → Option Bool := fun _ => some true
def DTs (X : Cx) (ifs : List Expr) (f : De → Option Bool) : Prop := PTs X ifs (tTr X.K f)
theorem dts_nil {X : Cx} : DTs X [] tYesD := fun pins s σ H Q I h => pts_nil pins s σ H Q I (by
  obtain ⟨Φ, δ, F, b, hK, en, hf, k⟩ := h
  cases hf
  exact k H F (Step.refl en.fh))
theorem dts_one {X : Cx} {c : Expr} {f : De → Option Bool} (h : DT X c f) : DTs X [c] f := pts_one h
section
variable {X : Cx} {elt tg iter : Expr} {ifs : List Expr} {scope : Scope} {pos : Pos} {M : List Str} {src : List (Option Nat)} {fi : De → Option (List Dt)} {ft : De → Option Bool} {fe : De → Option Dt}
theorem src_inj (S : CmpScope X.N X.env.scope scope M src) {k l j : Nat} (hk : src[k]? = some (some j)) (hl : src[l]? = some (some j)) : k = l := by
  have nm : ∀ k, src[k]? = some (some j) → ∃ x, M[k]? = some x ∧ X.N[j]? = some x := fun k h => by
    have hlt : k < M.length := by rw [S.len]; exact (List.getElem?_eq_some_iff.mp h).1
    have hm : M[k]? = some M[k] := by simp [hlt]
    have hz : (M.zip src)[k]? = some (M[k], some j) := by rw [List.getElem?_zip_eq_some]; exact ⟨hm, h⟩
    exact ⟨_, hm, (S.src _ (List.mem_of_getElem? hz) j rfl).1⟩
  obtain ⟨x, h1, h2⟩ := nm k hk
  obtain ⟨y, h3, h4⟩ := nm l hl
  rw [h2] at h4
  cases h4
  exact (List.getElem?_inj (List.getElem?_eq_some_iff.mp h1).1 S.nd).mp (h1.trans h3.symm)
theorem dC_get {δ : De} {k : Nat} {t : T} (h : (dC src δ)[k]? = some (some t)) : ∃ j, src[k]? = some (some j) ∧ δ[j]? = some (some t) := by
  unfold dC at h
  rw [List.getElem?_map] at h
  cases e : src[k]? with
  | none => rw [e] at h; cases h
  | some o =>
    rw [e] at h
    cases o with
    | none => cases h
    | some j =>
      simp only [Option.map_some, Option.bind_some, Option.some.injEq] at h
      refine ⟨j, rfl, ?_⟩
      cases q : δ[j]? with
      | none => rw [q] at h; cases h
      | some u => rw [q] at h; simp only [Option.join_some] at h; rw [h]
theorem stC_get {σ : St} {k j : Nat} {v : V} (h1 : src[k]? = some (some j)) (h2 : σ[j]? = some (some v)) : (stC src σ)[k]? = some (some v) := by
  unfold stC
  rw [List.getElem?_map, h1]
  simp [h2]
theorem of_stC {σ : St} {k : Nat} {v : V} (h : (stC src σ)[k]? = some (some v)) : ∃ j, src[k]? = some (some j) ∧ σ[j]? = some (some v) := by
  unfold stC at h
  rw [List.getElem?_map] at h
  cases e : src[k]? with
  | none => rw [e] at h; cases h
  | some o =>
    rw [e] at h
    cases o with
    | none => cases h
    | some j =>
      simp only [Option.map_some, Option.bind_some, Option.some.injEq] at h
      refine ⟨j, rfl, ?_⟩
      cases q : σ[j]? with
      | none => rw [q] at h; cases h
      | some u => rw [q] at h; simp only [Option.join_some] at h; rw [h]
theorem En.comp {Φ : Fm} {δ : De} {σ : St} {F H : Hp} (S : CmpScope X.N X.env.scope scope M src) (en : En Φ δ σ F H) : En Φ (dC src δ) (stC src σ) F H := by
  refine ⟨en.fh, en.prot, en.old, en.nw, by simp [dC, stC], fun k t h => ?_, ?_⟩
  · obtain ⟨j, h1, h2⟩ := dC_get h
    obtain ⟨v, hv⟩ := en.has j t h2
    exact ⟨v, stC_get h1 hv⟩
  · obtain ⟨Z, s⟩ := en.sep
    refine ⟨fun k b => ∃ j, src[k]? = some (some j) ∧ Z j b, fun k t v h => ?_, fun k b ⟨j, _, z⟩ => s.out j b z, fun k l b ⟨j, h1, z⟩ ⟨j', h2, z'⟩ => ?_⟩
    · obtain ⟨h1, h2⟩ := of_liveS h
      obtain ⟨j, e1, e2⟩ := dC_get h1
      obtain ⟨j', e3, e4⟩ := of_stC h2
      rw [e1] at e3
      cases e3
      exact (s.own j t v (liveS_of e2 e4)).grow fun b z => ⟨j, e1, z⟩
    · have := s.dis _ _ b z z'
      subst this
      exact src_inj S h1 h2
theorem compL_le {bb : Dt → De → Option De} {δ : De} : ∀ (ds ys : List Dt), compL bb ft fe δ ds = some ys → ys.length ≤ ds.length
  | [], ys, h => by cases h; exact Nat.le_refl _
  | d :: r, ys, h => by
    unfold compL at h
    obtain ⟨δ1, _, h⟩ := Option.bind_eq_some_iff.mp h
    obtain ⟨b, _, h⟩ := Option.bind_eq_some_iff.mp h
    split at h
    · obtain ⟨y, _, h⟩ := Option.bind_eq_some_iff.mp h
      obtain ⟨zs, hz, h⟩ := Option.bind_eq_some_iff.mp h
      cases h
      have := compL_le r zs hz
      simp only [List.length_cons]
      omega
    · have := compL_le r ys h
      simp only [List.length_cons]
      omega
theorem comp_walk {n : Nat} {g : TG} {tt : TT} {te : TE} {σ : St} {J : It} {H1 : Hp} {Q : VK} {D : Addr} (Pv : Nat → Hp → Prop) (h0 : Pv 0 (upd H1 D (.lst []))) (hgo : ∀ i H, Pv i H → (i < n → J.go i H) ∧ (i = n → J.stop i H))
    (hs : ∀ i x H H', i < n → Pv i H → J.yld i H x H' → g x (stC src σ) H' fun σ2 H2 => Wk (stC src σ) σ2 ∧ tt σ2 H2 fun b H3 => if b = true then te σ2 H3 fun v H4 => ∃ ys, H4 D = some (.lst ys) ∧ ys.length < sizeLine ∧ Pv (i + 1) (upd H4 D (.lst (ys ++ [v]))) else Pv (i + 1) H3)
    (hd : ∀ H, Pv n H → Q (.ref D) H) : CompW src g tt te σ J H1 Q D := by
  refine ⟨fun i m H => m = n - i ∧ i ≤ n ∧ Pv i H, ⟨n, by simp, Nat.zero_le _, h0⟩, ?_⟩
  rintro i m H ⟨rfl, hi, p⟩
  obtain ⟨p1, p2⟩ := hgo i H p
  by_cases hlt : i < n
  · exact .inr ⟨p1 hlt, Pv (i + 1), fun H' p' => ⟨n - (i + 1), by omega, rfl, hlt, p'⟩, fun x H' y => hs i x H H' hlt p y⟩
  · have e : i = n := by omega
    subst e
    exact .inl ⟨p2 rfl, hd H p⟩
theorem comp_of {ts : List Nat} {bb : Dt → De → Option De} (S : CmpScope X.N X.env.scope scope M src) (hts : (ts.all fun k => decide (src[k]? = some none)) = true) : ∀ (σ : St) (H : Hp) (Q : VK), tO X.K (vComp src fi bb ft fe) σ H Q → tComp src (tIB X.K fi) (gD X.K ts bb) (tTr X.K ft) (tL X.K fe) σ H Q := fun σ H Q ⟨Φ, δ, F, t, hK, en, hf, k⟩ => by
  unfold vComp at hf
  obtain ⟨ds, hd, hf⟩ := Option.bind_eq_some_iff.mp hf
  obtain ⟨all, ha, hf⟩ := Option.bind_eq_some_iff.mp hf
  split at hf
  case isFalse => cases hf
  rename_i hz
  cases hf
  rw [tComp_eq]
  refine ⟨Φ, δ, F, ds, hK, en, hd, fun J ok H1 F1 st1 wd ho D hD => ?_⟩
  have en1 := en.step st1
  have k1 := k.step st1
  have wk : ∀ {σ2 : St}, σ2.length = (stC src σ).length → (∀ j, j ∉ ts → σ2[j]? = (stC src σ)[j]?) → Wk (stC src σ) σ2 := fun {σ2} h1 h2 => by
    refine ⟨h1.symm, fun j v hj => ?_⟩
    by_cases hm : j ∈ ts
    · have := List.all_eq_true.mp hts j hm
      have hn : src[j]? = some none := of_decide_eq_true this
      obtain ⟨i, e, _⟩ := of_stC hj
      rw [hn] at e
      cases e
    · rw [h2 j hm]
      exact hj
  have ok' : ∀ {F H : Hp}, Step F1 H1 F H → ok H := fun st => ho _ st.hh
  refine comp_walk (n := ds.length) (fun i H => ∃ F ys done rest', Step F1 H1 F H ∧ H D = some (.lst ys) ∧ F D = none ∧ Reps X.K F done ys ∧ compL bb ft fe (dC src δ) (ds.drop i) = some rest' ∧ done ++ rest' = all) ?_ ?_ ?_ ?_
  · exact ⟨F1, [], [], all, Step.made st1.fh hD, upd_same, st1.fh.free hD, by simp [Reps], by simpa using ha, rfl⟩
  · rintro i H' ⟨F', ys, done, rest', st, _⟩
    obtain ⟨p1, p2, _⟩ := wd i H' F' (ok' st) st.fh st.ff
    exact ⟨p1, p2⟩
  · rintro i x H0' H' hi ⟨F0', ys, done, rest', st0, hD0, hFD0, rys0, hgo, hall⟩ hy0
    obtain ⟨_, _, p3⟩ := wd i H0' F0' (ok' st0) st0.fh st0.ff
    obtain ⟨d, F', hd', stw, rd⟩ := p3 x H' hi hy0
    have st := st0.trans stw
    have hD' : H' D = some (.lst ys) := stw.hh _ _ hD0
    have hFD : F' D = none := by
      cases q : F' D with
      | none => rfl
      | some o =>
        rcases stw.nw D o q with z | z
        · rw [hFD0] at z; cases z
        · rw [hD0] at z; cases z
    have rys := rys0.same stw.ff
    rw [drop_of hd'] at hgo
    unfold compL at hgo
    obtain ⟨δ1, h1, hgo⟩ := Option.bind_eq_some_iff.mp hgo
    obtain ⟨b, h2, hgo⟩ := Option.bind_eq_some_iff.mp hgo
    refine ⟨Φ, dC src δ, F', d, δ1, hK, (en1.step st).comp S, rd, h1, fun σ2 l2 k2 en2 => ⟨wk l2 k2, Φ, δ1, F', b, hK, en2, h2, fun H3 F3 st3 => ?_⟩⟩
    have hD3 : H3 D = some (.lst ys) := st3.hh _ _ hD'
    have hF3 : F3 D = none := by
      cases q : F3 D with
      | none => rfl
      | some o =>
        rcases st3.nw D o q with z | z
        · rw [hFD] at z; cases z
        · rw [hD'] at z; cases z
    dsimp only
    split at hgo
    · rename_i q
      rw [if_pos q]
      obtain ⟨y, hy, hgo⟩ := Option.bind_eq_some_iff.mp hgo
      obtain ⟨zs, hzs, hgo⟩ := Option.bind_eq_some_iff.mp hgo
      cases hgo
      refine ⟨Φ, δ1, F3, y, hK, en2.step st3, hy, fun v H4 F4 st4 rv => ?_⟩
      have hD4 : H4 D = some (.lst ys) := st4.hh _ _ hD3
      have hF4 : F4 D = none := by
        cases q : F4 D with
        | none => rfl
        | some o =>
          rcases st4.nw D o q with z | z
          · rw [hF3] at z; cases z
          · rw [hD3] at z; cases z
      have s14 := (st.trans st3).trans st4
      refine ⟨ys, hD4, ?_, F4, ys ++ [v], done ++ [y], zs, ?_, upd_same, hF4, (rys.same (st3.ff.trans st4.ff)).append (Reps.one rv), hzs, by rw [← hall]; simp⟩
      · have e1 := rys.length
        have e2 : all.length = done.length + (zs.length + 1) := by rw [← hall]; simp
        omega
      · refine ⟨fun c o e => ?_, s14.ff, fun c o e => ?_, s14.nw⟩
        · rw [upd_ne (ne_of_none e hD)]
          exact s14.hh _ _ e
        · rw [upd_ne (ne_of_none e hF4)]
          exact s14.fh _ _ e
    · rename_i q
      rw [if_neg q]
      exact ⟨F3, ys, done, rest', st.trans st3, hD3, hF3, rys.same st3.ff, hgo, hall⟩
  · rintro H' ⟨F', ys, done, rest', st, hD', hFD, rys, hgo, hall⟩
    rw [List.drop_length] at hgo
    cases hgo
    rw [List.append_nil] at hall
    subst hall
    exact k1 (.ref D) H' F' (fun b => b = D) st ⟨D, ys, rfl, rfl, hD', rys⟩ fun b z => by
      subst z
      exact ⟨hFD, hD, _, hD'⟩
theorem do_comp {ts : List Nat} {bb : Dt → De → Option De} (S : CmpScope X.N X.env.scope scope M src) (hc : X.calm = true) (hi : DIB X tg iter fi) (hg : M.Nodup → ∀ C s H ex, DG (cxC X M scope C s H ex) tg ts bb)
    (ht : ∀ C s H ex, DTs (cxC X M scope C s H ex) ifs ft) (he : ∀ C s H ex, DL (cxC X M scope C s H ex) elt fe) (hts : (ts.all fun k => decide (src[k]? = some none)) = true) (hs : ∀ x, foldedSetIterable iter X.env x = pure x := by intro _; rfl) :
    DO X (.ListComp elt [⟨tg, iter, ifs, 0⟩] scope pos) (vComp src fi bb ft fe) := PE.mono (pe_lcomp (g := gD X.K ts bb) (tt := tTr X.K ft) (te := tL X.K fe) S hc hi (fun nd C s H ex => hg nd C s H ex) (fun C s H ex => ht C s H ex) (fun C s H ex => he C s H ex) hs) (comp_of S hts)
end
def runD (m : Nat) (g : De → Option Out) : List Dt → Option T := fun ds => match g (ds.map (fun d => some (T.leaf d)) ++ List.replicate (m - ds.length) none) with
  | some (.rt t) => some t
  | some (.nx _) => some (.leaf .non)
  | _ => none
theorem start_en {K : PySem.W.Frag} {F H : Hp} {ds : List Dt} {vs : List V} {N : List Str} (fh : Same F H) (r : Reps K F ds vs) :
    En ⟨K, F, H, fun _ => False⟩ (ds.map (fun d => some (T.leaf d)) ++ List.replicate (N.length - ds.length) none) (start N vs) F H := by
  have hl := r.length
  have key : ∀ (i : Nat) (t : T), (ds.map (fun d => some (T.leaf d)) ++ List.replicate (N.length - ds.length) none)[i]? = some (some t) → ∃ d v, t = T.leaf d ∧ vs[i]? = some v ∧ Rep K F d v ∧ (start N vs)[i]? = some (some v) := fun i t h => by
    by_cases hi : i < ds.length
    · rw [List.getElem?_append_left (by simpa using hi), List.getElem?_map] at h
      have hd : ds[i]? = some ds[i] := by simp [hi]
      rw [hd] at h
      cases h
      obtain ⟨v, hv, rv⟩ := r.get hd
      refine ⟨_, v, rfl, hv, rv, ?_⟩
      unfold start
      rw [List.getElem?_append_left (by simp; omega), List.getElem?_map, hv]
      rfl
    · rw [List.getElem?_append_right (by simpa using hi)] at h
      rw [List.getElem?_replicate] at h
      split at h <;> cases h
  refine ⟨fh, fun b o h _ => h, Same.refl _, fun b o h => .inl h, by simp [start, hl], fun i t h => ?_, fun _ _ => False, fun i t v h => ?_, fun _ _ z => z.elim, fun _ _ _ z => z.elim⟩
  · obtain ⟨d, v, _, _, _, e⟩ := key i t h
    exact ⟨v, e⟩
  · obtain ⟨h1, h2⟩ := of_liveS h
    obtain ⟨d, w, rfl, _, rv, e⟩ := key i t h1
    rw [h2] at e
    cases e
    exact rv
section
variable {P : Program} {w : World} {K : PySem.W.Frag} {mg : Str → Option Value} {base : Heap}
theorem Rt.step {F H : Hp} {t : T} {v : V} {F' H' : Hp} (h : Rt ⟨K, F, H, fun _ => False⟩ t v F' H') {Q : VK} (k : KO K F H t Q) : Q v H' := by
  obtain ⟨fh, prot, old, nw, S, o, hs⟩ := h
  refine k v H' F' S ⟨fun b u e => prot b u e id, old, fh, fun b u e => (nw b u e).elim .inl fun z => z.elim .inr False.elim⟩ o fun b z => ?_
  obtain ⟨h1, h2, h3⟩ := hs b z
  exact ⟨h1, h3.elim id False.elim, h2⟩
theorem mk_ok {x : Str} {st : Stmt} {N ps : List Str} {k n : Nat} {g : De → Option Out} (D : DefF K mg x st ps) (S : FnScope N ps (defScope st)) (hn : ps.length = n)
    (hbody : ∀ (f : Addr) (cdv : Value) (A : Around) (outer : List Env) (s : Shared) (H : Hp) (E : XK), Room k (A.deeper (envOfC x (defScope st) s.heap.objs.size f cdv)) → DS (cxOf CX0 P w K mg base N x (defScope st) f cdv A outer s H E).nox (defBody st) g) :
    OkF P w K mg base x (k + 1) ps (spD K n (runD N.length g)) := by
  refine D.ok S (fun vs H Q E h => ?_) (fun f cdv A outer s H vs Q E hr h => ?_)
  · obtain ⟨F, ds, t, _, hl, r, _⟩ := h
    rw [r.length, hl, hn]
  · obtain ⟨F, ds, t, fh, hl, r, hf, kq⟩ := h
    refine ⟨_, hbody f cdv A outer s H E hr, ?_⟩
    unfold runD at hf
    split at hf
    · rename_i t' q
      cases hf
      exact ⟨⟨K, F, H, fun _ => False⟩, _, F, _, rfl, start_en fh r, q, fun v F' H' z => z.step kq⟩
    · rename_i δ' q
      cases hf
      exact ⟨⟨K, F, H, fun _ => False⟩, _, F, _, rfl, start_en fh r, q, fun σ' F' H' z => (z.rt (Step.refl z.fh) (t := .leaf .non) (S := fun _ => False) (rep_non (K := K) (F := F')) fun _ y => y.elim).step kq⟩
    · cases hf
theorem fn_ok {x : Str} {st : Stmt} {N ps : List Str} {k n : Nat} {g : De → Option Out} {f : Addr} {fd : FuncData} (D : Fun K x x st f fd) (S : FnScope N ps (defScope st)) (hn : ps.length = n)
    (hbody : ∀ (cdv : Value) (A : Around) (outer : List Env) (s : Shared) (H : Hp) (E : XK), Room k (A.deeper (envOfC x (defScope st) s.heap.objs.size f cdv)) → DS (cxOf CX0 P w K mg base N x (defScope st) f cdv A outer s H E).nox (defBody st) g) :
    FnOk P w K mg base CX0 (k + 1) f fd ps (spD K n (runD N.length g)) := by
  refine D.ok S (fun vs H Q E h => ?_) (fun cdv A outer s H vs Q E hr h => ?_)
  · obtain ⟨F, ds, t, _, hl, r, _⟩ := h
    rw [r.length, hl, hn]
  · obtain ⟨F, ds, t, fh, hl, r, hf, kq⟩ := h
    refine ⟨_, hbody cdv A outer s H E hr, ?_⟩
    unfold runD at hf
    split at hf
    · rename_i t' q
      cases hf
      exact ⟨⟨K, F, H, fun _ => False⟩, _, F, _, rfl, start_en fh r, q, fun v F' H' z => z.step kq⟩
    · rename_i δ' q
      cases hf
      exact ⟨⟨K, F, H, fun _ => False⟩, _, F, _, rfl, start_en fh r, q, fun σ' F' H' z => (z.rt (Step.refl z.fh) (t := .leaf .non) (S := fun _ => False) (rep_non (K := K) (F := F')) fun _ y => y.elim).step kq⟩
    · cases hf
end
end L2

namespace L2
open PySem PySem.Spec PyProof.Rows
section
variable {K : PySem.W.Frag} {F H : Hp} {Q : VK}
theorem KO.int {i : Int} (k : KO K F H (.leaf (.int i)) Q) (fh : Same F H) : Q (.int i) H := k.leaf.here fh rep_int
theorem KO.bl {i : Bool} (k : KO K F H (.leaf (.bl i)) Q) (fh : Same F H) : Q (.bl i) H := k.leaf.here fh rep_bl
theorem KO.str {i : Str} (k : KO K F H (.leaf (.str i)) Q) (fh : Same F H) : Q (.str i) H := k.leaf.here fh rep_str
theorem KO.non (k : KO K F H (.leaf .non) Q) (fh : Same F H) : Q .non H := k.leaf.here fh rep_non
theorem KO.tup {l : List Dt} {vs : List V} {p : Addr} (k : KO K F H (.leaf (.tup l)) Q) (fh : Same F H) (r : Reps K F l vs) (hp : H p = none) : Q (.ref p) (upd H p (.tup vs)) := by
  refine k.leaf _ _ _ (Step.new fh hp) ?_
  simp only [Rep]
  exact ⟨p, vs, rfl, SqT.of upd_same, r.same (Same.upd (fh.free hp))⟩
end
def mulOk (i j : Int) : Bool := (decide (-(2 ^ 64) < i) && decide (i < 2 ^ 64)) || (decide (-(2 ^ 64) < j) && decide (j < 2 ^ 64))
theorem mulOk_c {i j : Int} (h : mulOk i j = true) : CMul i j := by
  unfold mulOk at h
  simp only [Bool.or_eq_true, Bool.and_eq_true, decide_eq_true_eq] at h
  exact h
theorem mulOk_l {i j : Int} (h1 : -1000000000000000000 < i) (h2 : i < 1000000000000000000) : mulOk i j = true := by
  unfold mulOk
  simp only [Bool.or_eq_true, Bool.and_eq_true, decide_eq_true_eq]
  left
  omega
theorem mulOk_r {i j : Int} (h1 : -1000000000000000000 < j) (h2 : j < 1000000000000000000) : mulOk i j = true := by
  unfold mulOk
  simp only [Bool.or_eq_true, Bool.and_eq_true, decide_eq_true_eq]
  right
  omega
def powOk (i j : Int) : Bool := decide (0 ≤ j) && decide (j ≤ 1000000) && decide (i.natAbs < 2 ^ 64)
theorem powOk_c {i j : Int} (h : powOk i j = true) : CPow i j := by
  unfold powOk at h
  simp only [Bool.and_eq_true, decide_eq_true_eq] at h
  exact ⟨h.1.1, h.1.2, h.2⟩
def divOk (j : Int) : Bool := decide (0 < j) && decide (j < 1073741824)
theorem divOk_c {i j : Int} (h : divOk j = true) : CDiv i j := by
  unfold divOk at h
  simp only [Bool.and_eq_true, decide_eq_true_eq] at h
  exact h
def gAdd : Dt → Dt → Option T
  | .int i, .int j => some (.leaf (.int (i + j)))
  | .str a, .str b => if a.length + b.length ≤ sizeLine then some (.leaf (.str (a ++ b))) else none
  | .lst l, .lst m => if l.length + m.length ≤ sizeLine then some (.lst (l ++ m)) else none
  | .tup l, .tup m => if l.length + m.length ≤ sizeLine ∧ l ≠ [] ∧ m ≠ [] then some (.leaf (.tup (l ++ m))) else none
  | _, _ => none
def gSubD : Dt → Dt → Option T
  | .int i, .int j => some (.leaf (.int (i - j)))
  | _, _ => none
def gMul : Dt → Dt → Option T
  | .int i, .int j => if mulOk i j then some (.leaf (.int (i * j))) else none
  | _, _ => none
def gDiv : Dt → Dt → Option T
  | .int i, .int j => if divOk j then some (.leaf (.int (i / j))) else none
  | _, _ => none
def gMod : Dt → Dt → Option T
  | .int i, .int j => if 0 < j then some (.leaf (.int (i % j))) else none
  | _, _ => none
def gPow : Dt → Dt → Option T
  | .int i, .int j => if powOk i j then some (.leaf (.int (i ^ j.toNat))) else none
  | _, _ => none
def gBit (f : Int → Int → Int) : Dt → Dt → Option T
  | .int i, .int j => some (.leaf (.int (f i j)))
  | _, _ => none
def gCmp (f : Int → Int → Bool) : Dt → Dt → Option T
  | .int i, .int j => some (.leaf (.bl (f i j)))
  | _, _ => none
section
variable {X : Cx}
theorem op_catR : OpR X (binaryOp .Add) (fun x y H Q => ∃ l b xs zs, x = .ref l ∧ y = .ref b ∧ SqL X.K H l xs ∧ SqL X.K H b zs ∧ xs.length + zs.length ≤ sizeLine ∧ ∀ p, H p = none → Q (.ref p) (upd H p (.lst (xs ++ zs)))) := by
  intro pins s σ H x y v u Q I rx ry h
  obtain ⟨l, b, xs, zs, rfl, rfl, hH, hB, hz, q⟩ := h
  cases rx
  cases ry
  obtain ⟨its, r, pl, _⟩ := I.list hH
  obtain ⟨its2, r2, pl2, _⟩ := I.list hB
  obtain ⟨⟨cls, dd, data, sl⟩, n, ho, hc, hd0, hd⟩ := pl
  obtain ⟨⟨cls2, dd2, data2, sl2⟩, n2, ho2, hc2, hd02, hd2⟩ := pl2
  simp only at hc hd hc2 hd2
  subst hc hd hc2 hd2
  have e : its.toArray ++ its2.toArray = (its ++ its2).toArray := by simp
  refine concat_meets ⟨_, ho, rfl⟩ ⟨_, ho2, rfl⟩ noFill_list_add seq_list_add PySem.F.slot_list_add PySem.F.entry_list_add (PySem.F.args_list_add_2 _ _) (list_addW l b its.toArray its2.toArray n n2 dd dd2 sl sl2 (by rw [List.size_toArray, List.size_toArray, ← r.length, ← r2.length]; exact hz)) ⟨ho, ho2, ?_⟩
  rw [e]
  exact ⟨.ref _, _, I.lnew (t' := s.toks) (r.append r2) (by rw [List.length_append]; exact hz), rfl, q _ I.fresh⟩
abbrev rAddD (K : PySem.W.Frag) : R2 := fun x y H Q => (rI0 (fun i j => .int (i + j)) x y H Q) ∨ (∃ i j, x = .str i ∧ y = .str j ∧ i.length + j.length ≤ sizeLine ∧ Q (.str (i ++ j)) H) ∨
  (∃ l b xs zs, x = .ref l ∧ y = .ref b ∧ SqL K H l xs ∧ SqL K H b zs ∧ xs.length + zs.length ≤ sizeLine ∧ ∀ p, H p = none → Q (.ref p) (upd H p (.lst (xs ++ zs)))) ∨ rCatT K x y H Q
theorem op_addD : OpR X (binaryOp .Add) (rAddD X.K) := OpR.or op_add (OpR.or op_add_str (OpR.or op_catR op_catT))
theorem r_add {K : PySem.W.Frag} : R2D K (rAddD K) gAdd := by
  intro F H x y vx vy Q t fh rx ry hg k
  unfold gAdd at hg
  split at hg <;> first | (cases hg; done) | skip
  · cases hg; cases rx; cases ry; exact .inl ⟨_, _, rfl, rfl, k.int fh⟩
  · split at hg
    · cases hg; cases rx; cases ry; exact .inr (.inl ⟨_, _, rfl, rfl, by assumption, k.str fh⟩)
    · cases hg
  · split at hg
    · rename_i hl
      cases hg
      obtain ⟨a, vs, rfl, h1, h2⟩ := rx
      obtain ⟨b, ws, rfl, h3, h4⟩ := ry
      exact .inr (.inr (.inl ⟨a, b, vs, ws, rfl, rfl, h1, h3, by rw [h2.length, h4.length]; exact hl, fun p hp => own_lst k fh (h2.append h4) hp⟩))
    · cases hg
  · split at hg
    · rename_i hl
      cases hg
      obtain ⟨a, vs, rfl, h1, h2⟩ := rx
      obtain ⟨b, ws, rfl, h3, h4⟩ := ry
      obtain ⟨hl, n1, n2⟩ := hl
      refine .inr (.inr (.inr ⟨a, b, vs, ws, rfl, rfl, fh.tup h1, fh.tup h3, fun z => ?_, by rw [h2.length, h4.length]; exact hl, fun z => ?_, fun _ p hp => k.tup fh (h2.append h4) hp⟩))
      · subst z
        have := h2.length
        exact n1 (List.eq_nil_of_length_eq_zero this.symm)
      · subst z
        have := h4.length
        exact absurd (List.eq_nil_of_length_eq_zero this.symm) n2
    · cases hg
theorem r_int0 {K : PySem.W.Frag} {f : Int → Int → Int} : R2D K (rI0 fun i j => .int (f i j)) (gBit f) := by
  intro F H x y vx vy Q t fh rx ry hg k
  unfold gBit at hg
  split at hg <;> first | (cases hg; done) | skip
  cases hg; cases rx; cases ry; exact ⟨_, _, rfl, rfl, k.int fh⟩
theorem r_sub {K : PySem.W.Frag} : R2D K (rI0 fun i j => .int (i - j)) gSubD := by
  intro F H x y vx vy Q t fh rx ry hg k
  unfold gSubD at hg
  split at hg <;> first | (cases hg; done) | skip
  cases hg; cases rx; cases ry; exact ⟨_, _, rfl, rfl, k.int fh⟩
theorem r_mul {K : PySem.W.Frag} : R2D K (rI CMul fun i j => .int (i * j)) gMul := by
  intro F H x y vx vy Q t fh rx ry hg k
  unfold gMul at hg
  split at hg <;> first | (cases hg; done) | skip
  split at hg
  · cases hg; cases rx; cases ry; exact ⟨_, _, rfl, rfl, mulOk_c (by assumption), k.int fh⟩
  · cases hg
theorem r_div {K : PySem.W.Frag} : R2D K (rI CDiv fun i j => .int (i / j)) gDiv := by
  intro F H x y vx vy Q t fh rx ry hg k
  unfold gDiv at hg
  split at hg <;> first | (cases hg; done) | skip
  split at hg
  · cases hg; cases rx; cases ry; exact ⟨_, _, rfl, rfl, divOk_c (by assumption), k.int fh⟩
  · cases hg
theorem r_mod {K : PySem.W.Frag} : R2D K (rI (fun _ j => 0 < j) fun i j => .int (i % j)) gMod := by
  intro F H x y vx vy Q t fh rx ry hg k
  unfold gMod at hg
  split at hg <;> first | (cases hg; done) | skip
  split at hg
  · cases hg; cases rx; cases ry; exact ⟨_, _, rfl, rfl, by assumption, k.int fh⟩
  · cases hg
theorem r_pow {K : PySem.W.Frag} : R2D K (rI CPow fun i j => .int (i ^ j.toNat)) gPow := by
  intro F H x y vx vy Q t fh rx ry hg k
  unfold gPow at hg
  split at hg <;> first | (cases hg; done) | skip
  split at hg
  · cases hg; cases rx; cases ry; exact ⟨_, _, rfl, rfl, powOk_c (by assumption), k.int fh⟩
  · cases hg
theorem r_cmp {K : PySem.W.Frag} {f : Int → Int → Bool} : R2D K (rI0 fun i j => .bl (f i j)) (gCmp f) := by
  intro F H x y vx vy Q t fh rx ry hg k
  unfold gCmp at hg
  split at hg <;> first | (cases hg; done) | skip
  cases hg; cases rx; cases ry; exact ⟨_, _, rfl, rfl, k.bl fh⟩
def eqD : Dt → Dt → Option Bool
  | .non, .non => some true
  | .non, .int _ => some false
  | .non, .bl _ => some false
  | .non, .str _ => some false
  | .int _, .non => some false
  | .bl _, .non => some false
  | .str _, .non => some false
  | .int i, .int j => some (decide (i = j))
  | .bl i, .bl j => some (decide (i = j))
  | .str i, .str j => some (decide (i = j))
  | .int _, .str _ => some false
  | .str _, .int _ => some false
  | .bl _, .str _ => some false
  | .str _, .bl _ => some false
  | .tup l, .tup m => if cmpbs l m && decide (deeps l ≤ 59) then some (peqs l m) else none
  | .lst l, .lst m => if cmpbs l m && decide (deeps l ≤ 59) then some (peqs l m) else none
  | _, _ => none
def gEq (neg : Bool) (x y : Dt) : Option T := (eqD x y).map fun b => .leaf (.bl (if neg then !b else b))
abbrev rEqA (K : PySem.W.Frag) : R2 := fun x y H Q => rEq x y H Q ∨ rEqD K false x y H Q
abbrev rNeA (K : PySem.W.Frag) : R2 := fun x y H Q => rNe x y H Q ∨ rEqD K true x y H Q
theorem op_eqA {k : Nat} (hr : Room k X.A) : OpR X (compareOp .Eq) (rEqA X.K) := OpR.or op_eq (op_eqD hr rfl)
theorem op_neA {k : Nat} (hr : Room k X.A) : OpR X (compareOp .NotEq) (rNeA X.K) := OpR.or op_ne (op_neD hr rfl)
theorem eqD_of {K : PySem.W.Frag} {F H : Hp} {x y : Dt} {vx vy : V} {b : Bool} (fh : Same F H) (rx : RepB K F H x vx) (ry : RepB K F H y vy) (h : eqD x y = some b) :
    (scal vx vy = true ∧ b = decide (vx = vy)) ∨ (((∃ l m, x = .tup l ∧ y = .tup m) ∨ ∃ l m, x = .lst l ∧ y = .lst m) ∧ cmpb x y = true ∧ deep x ≤ 60 ∧ b = peq x y) := by
  unfold eqD at h
  split at h <;> first
    | (cases h; done)
    | (cases h; cases rx; cases ry; left; refine ⟨rfl, ?_⟩; simp; done)
    | skip
  · right
    split at h
    · rename_i q
      simp only [Bool.and_eq_true, decide_eq_true_eq] at q
      cases h
      exact ⟨.inl ⟨_, _, rfl, rfl⟩, by simp only [cmpb]; exact q.1, by simp only [deep]; omega, by simp only [peq]⟩
    · cases h
  · right
    split at h
    · rename_i q
      simp only [Bool.and_eq_true, decide_eq_true_eq] at q
      cases h
      exact ⟨.inr ⟨_, _, rfl, rfl⟩, by simp only [cmpb]; exact q.1, by simp only [deep]; omega, by simp only [peq]⟩
    · cases h
theorem r_eq {K : PySem.W.Frag} : R2D K (rEqA K) (gEq false) := by
  intro F H x y vx vy Q t fh rx ry hg k
  unfold gEq at hg
  obtain ⟨b, hb, hg⟩ := Option.map_eq_some_iff.mp hg
  cases hg
  have kk : Q (.bl b) H := k.bl fh
  rcases eqD_of fh rx ry hb with ⟨h1, rfl⟩ | ⟨h1, h2, h3, rfl⟩
  · exact .inl ⟨h1, kk⟩
  · exact .inr ⟨x, y, h1, rx.rep fh, ry.rep fh, h2, h3, kk⟩
theorem r_ne {K : PySem.W.Frag} : R2D K (rNeA K) (gEq true) := by
  intro F H x y vx vy Q t fh rx ry hg k
  unfold gEq at hg
  obtain ⟨b, hb, hg⟩ := Option.map_eq_some_iff.mp hg
  cases hg
  have kk : Q (.bl (!b)) H := k.bl fh
  rcases eqD_of fh rx ry hb with ⟨h1, rfl⟩ | ⟨h1, h2, h3, rfl⟩
  · exact .inl ⟨h1, kk⟩
  · exact .inr ⟨x, y, h1, rx.rep fh, ry.rep fh, h2, h3, kk⟩
def isNon : Dt → Bool
  | .non => true
  | _ => false
def gIs (neg : Bool) (x y : Dt) : Option T := match y with
  | .non => some (.leaf (.bl (if neg then !isNon x else isNon x)))
  | _ => none
theorem isNon_of {K : PySem.W.Frag} {F H : Hp} {x : Dt} {v : V} (r : RepB K F H x v) : isNon x = decide (v = .non) := by
  cases x <;> first
    | (cases r; rfl)
    | (obtain ⟨a, vs, rfl, _⟩ := r; rfl)
theorem r_is {K : PySem.W.Frag} : R2D K (fun x y H Q => y = .non ∧ Q (.bl (decide (x = .non))) H) (gIs false) := by
  intro F H x y vx vy Q t fh rx ry hg k
  cases y <;> first | cases hg; done | skip
  cases hg; cases ry
  refine ⟨rfl, ?_⟩
  rw [← isNon_of rx]
  exact k.bl fh
theorem r_isnot {K : PySem.W.Frag} : R2D K (fun x y H Q => y = .non ∧ Q (.bl (!decide (x = .non))) H) (gIs true) := by
  intro F H x y vx vy Q t fh rx ry hg k
  cases y <;> first | cases hg; done | skip
  cases hg; cases ry
  refine ⟨rfl, ?_⟩
  rw [← isNon_of rx]
  exact k.bl fh
def flatD : Dt → Bool
  | .non => true
  | .bl _ => true
  | .int _ => true
  | .str _ => true
  | _ => false
def eqF : Dt → Dt → Bool
  | .non, .non => true
  | .bl a, .bl b => a == b
  | .bl a, .int b => (if a then 1 else 0) == b
  | .int a, .bl b => a == (if b then 1 else 0)
  | .int a, .int b => a == b
  | .str a, .str b => a == b
  | _, _ => false
def inS (j i : Str) : Bool := !(Builtin.Str.occurrences j i 0 j.length 1).isEmpty
def inD : Dt → Dt → Option Bool
  | .str i, .str j => some (inS j i)
  | x, .lst l => if flatD x && l.all flatD then some (l.any fun y => eqF y x) else none
  | x, .tup l => if flatD x && l.all flatD then some (l.any fun y => eqF y x) else none
  | _, _ => none
def gIn (neg : Bool) (x y : Dt) : Option T := (inD x y).map fun b => .leaf (.bl (if neg then !b else b))
theorem flat_of {K : PySem.W.Frag} {F : Hp} {d : Dt} {v : V} (r : Rep K F d v) (h : flatD d = true) : flatV v = true := by
  cases d <;> simp only [Rep] at r <;> first
    | (subst r; rfl)
    | cases h
theorem eqF_of {K : PySem.W.Frag} {F F' : Hp} {d e : Dt} {v w : V} (r : Rep K F d v) (r' : Rep K F' e w) (h : flatD d = true) (h' : flatD e = true) : eqF d e = eqV v w := by
  cases d <;> first | cases h; done | skip
  all_goals cases e <;> first | cases h'; done | skip
  all_goals simp only [Rep] at r r'; subst r r'; rfl
theorem flats_of {K : PySem.W.Frag} {F : Hp} : ∀ {l : List Dt} {vs : List V}, Reps K F l vs → l.all flatD = true → vs.all flatV = true
  | [], vs, r, _ => by simp only [Reps] at r; subst r; rfl
  | d :: l, vs, r, h => by
    simp only [Reps] at r
    obtain ⟨v, ws, rfl, h1, h2⟩ := r
    rw [List.all_cons, Bool.and_eq_true] at h ⊢
    exact ⟨flat_of h1 h.1, flats_of h2 h.2⟩
theorem any_of {K : PySem.W.Frag} {F F' : Hp} {x : Dt} {w : V} (r' : Rep K F' x w) (hx : flatD x = true) : ∀ {l : List Dt} {vs : List V}, Reps K F l vs → l.all flatD = true → (l.any fun y => eqF y x) = inV w vs
  | [], vs, r, _ => by simp only [Reps] at r; subst r; rfl
  | d :: l, vs, r, h => by
    simp only [Reps] at r
    obtain ⟨v, ws, rfl, h1, h2⟩ := r
    rw [List.all_cons, Bool.and_eq_true] at h
    unfold inV
    rw [List.any_cons, List.any_cons, eqF_of h1 r' h.1 hx, any_of r' hx h2 h.2]
    rfl
abbrev rInA (K : PySem.W.Frag) (neg : Bool) : R2 := fun x y H Q => (∃ i j, x = .str i ∧ y = .str j ∧ Q (.bl (if neg then !inS j i else inS j i)) H) ∨ rIn K neg x y H Q
theorem op_inA : OpR X (compareOp .In) (rInA X.K false) := OpR.or op_in_str op_in_seq
theorem op_notInA : OpR X (compareOp .NotIn) (rInA X.K true) := OpR.or op_notIn_str op_notIn_seq
theorem r_in {K : PySem.W.Frag} (neg : Bool) : R2D K (rInA K neg) (gIn neg) := by
  intro F H x y vx vy Q t fh rx ry hg k
  unfold gIn at hg
  obtain ⟨b, hb, hg⟩ := Option.map_eq_some_iff.mp hg
  cases hg
  have kk := k.bl fh
  unfold inD at hb
  split at hb <;> first | (cases hb; done) | skip
  · cases hb; cases rx; cases ry
    exact .inl ⟨_, _, rfl, rfl, kk⟩
  · split at hb
    · rename_i q
      rw [Bool.and_eq_true] at q
      cases hb
      obtain ⟨a, vs, rfl, h1, h2⟩ := ry
      have rx' := rx.rep fh
      rw [any_of rx' q.1 h2 q.2] at kk
      exact .inr ⟨a, vs, rfl, .inl h1, flat_of rx' q.1, flats_of h2 q.2, kk⟩
    · cases hb
  · split at hb
    · rename_i q
      rw [Bool.and_eq_true] at q
      cases hb
      obtain ⟨a, vs, rfl, h1, h2⟩ := ry
      have rx' := rx.rep fh
      rw [any_of rx' q.1 h2 q.2] at kk
      exact .inr ⟨a, vs, rfl, .inr (fh.tup h1), flat_of rx' q.1, flats_of h2 q.2, kk⟩
    · cases hb
theorem atI_reps {K : PySem.W.Frag} {F : Hp} {l : List Dt} {vs : List V} {i : Int} {d : Dt} (r : Reps K F l vs) (h : atI l i = some d) : ∃ v, atI vs i = some v ∧ Rep K F d v := by
  unfold atI at h ⊢
  rw [r.length]
  obtain ⟨j, hj, h⟩ := Option.bind_eq_some_iff.mp h
  obtain ⟨v, e, rv⟩ := r.get h
  exact ⟨v, by rw [hj]; exact e, rv⟩
def gIx : Dt → Dt → Option T
  | .lst l, .int i => (atI l i).map .leaf
  | .tup l, .int i => (atI l i).map .leaf
  | .str x, .int i => if x.length ≤ sizeLine then (atI x.cps.toList i).map fun c => .leaf (.str ⟨#[c]⟩) else none
  | _, _ => none
theorem r_ix {K : PySem.W.Frag} : R2D K (rIx K) gIx := by
  intro F H x y vx vy Q t fh rx ry hg k
  unfold gIx at hg
  split at hg <;> first | (cases hg; done) | skip
  · obtain ⟨d, hd, hg⟩ := Option.map_eq_some_iff.mp hg
    cases hg; cases ry
    obtain ⟨a, vs, rfl, h1, h2⟩ := rx
    obtain ⟨v, e, rv⟩ := atI_reps h2 hd
    exact .inl ⟨a, vs, _, v, rfl, rfl, h1, e, k.leaf.here fh rv⟩
  · obtain ⟨d, hd, hg⟩ := Option.map_eq_some_iff.mp hg
    cases hg; cases ry
    obtain ⟨a, vs, rfl, h1, h2⟩ := rx
    obtain ⟨v, e, rv⟩ := atI_reps h2 hd
    exact .inr (.inl ⟨a, vs, _, v, rfl, rfl, fh.tup h1, e, k.leaf.here fh rv⟩)
  · split at hg
    · rename_i hl
      obtain ⟨c, hc, hg⟩ := Option.map_eq_some_iff.mp hg
      cases hg; cases rx; cases ry
      exact .inr (.inr ⟨_, _, c, rfl, rfl, hl, hc, k.str fh⟩)
    · cases hg
variable {a b c : Expr} {fa fb fc : De → Option Dt} {pos : Pos}
theorem do_ix (ha : DB X a fa) (hb : DB X b fb) (hs : PlainIx b) : DO X (.Subscript a b pos) (d2 gIx fa fb) := PE.mono (pe_ix ix_seq ha hb hs) fun σ H Q h => d2_of r_ix h
def vChain (g g' : Dt → Dt → Option T) (fa fb fc : De → Option Dt) : De → Option T := fun δ => (fa δ).bind fun x => (fb δ).bind fun y => (g x y).bind fun z => (asB z).bind fun k => if k then (fc δ).bind fun w => g' y w else some (.leaf (.bl false))
theorem chain_of {K : PySem.W.Frag} {r r' : R2} {g g' : Dt → Dt → Option T} (hr : R2D K r g) (hr' : R2D K r' g') {σ : St} {H : Hp} {Q : VK} (h : tO K (vChain g g' fa fb fc) σ H Q) : tChain r r' (tBd K fa) (tBd K fb) (tBd K fc) σ H Q := by
  obtain ⟨Φ, δ, F, t, hK, en, hf, k⟩ := h
  unfold vChain at hf
  obtain ⟨x, hx, hf⟩ := Option.bind_eq_some_iff.mp hf
  obtain ⟨y, hy, hf⟩ := Option.bind_eq_some_iff.mp hf
  obtain ⟨z, hz, hf⟩ := Option.bind_eq_some_iff.mp hf
  obtain ⟨b, hb, hf⟩ := Option.bind_eq_some_iff.mp hf
  refine ⟨Φ, δ, F, x, hK, en, hx, fun v H1 F1 st rv => ⟨Φ, δ, F1, y, hK, en.step st, hy, fun v2 H2 F2 st2 rv2 => hr F2 H2 x y v v2 _ z st2.fh (rv.step st2.ff st2.hh) rv2 hz fun v3 H3 F3 S st3 o hs => ⟨b, asB_own hb o, ?_⟩⟩⟩
  have s3 := (st.trans st2).trans st3
  split at hf
  · rename_i q
    rw [if_pos q]
    obtain ⟨w, hw, hf⟩ := Option.bind_eq_some_iff.mp hf
    exact ⟨Φ, δ, F3, w, hK, en.step s3, hw, fun v4 H4 F4 st4 rv4 => hr' F4 H4 y w v2 v4 Q t st4.fh (rv2.step (st3.ff.trans st4.ff) (st3.hh.trans st4.hh)) rv4 hf (k.step (s3.trans st4))⟩
  · rename_i q
    rw [if_neg q]
    cases hf
    exact (k.step s3).bl st3.fh
theorem do_chain {op op' : CmpOp} {r r' : R2} {g g' : Dt → Dt → Option T} (ho : OpR X (compareOp op) r) (hr : R2D X.K r g) (ho' : OpR X (compareOp op') r') (hr' : R2D X.K r' g') (ha : DB X a fa) (hb : DB X b fb) (hc : DB X c fc)
    (hm : lastMarks [op, op'] [b, c] = false := by with_unfolding_all rfl) : DO X (.Compare a [op, op'] [b, c] pos) (vChain g g' fa fb fc) := PE.mono (pe_chain ho ho' ha hb hc hm) fun σ H Q h => chain_of hr hr' h
def asBf (f : De → Option T) : De → Option Bool := fun δ => (f δ).bind asB
theorem dt_chain {op op' : CmpOp} {r r' : R2} {g g' : Dt → Dt → Option T} (ho : OpR X (compareOp op) r) (hr : R2D X.K r g) (ho' : OpR X (compareOp op') r') (hr' : R2D X.K r' g') (ha : DB X a fa) (hb : DB X b fb) (hc : DB X c fc)
    (hm : lastMarks [op, op'] [b, c] = false := by with_unfolding_all rfl) : DT X (.Compare a [op, op'] [b, c] pos) (asBf (vChain g g' fa fb fc)) := PT.mono (pt_chain ho ho' ha hb hc hm) fun σ H Q ⟨Φ, δ, F, t, hK, en, hf, k⟩ => by
  unfold asBf at hf
  obtain ⟨z, hz, hf⟩ := Option.bind_eq_some_iff.mp hf
  exact chain_of hr hr' ⟨Φ, δ, F, z, hK, en, hz, fun v H' F' S st o hs => ⟨t, asB_own hf o, k H' F' st⟩⟩
def cutD (l : List Dt) (lo hi : Option Int) : List Dt := (l.drop (HT.sIx l.length 0 lo)).take (HT.sIx l.length l.length hi - HT.sIx l.length 0 lo)
def gSl : Dt → Option Int → Option Int → Option T
  | .str x, lo, hi => if x.length ≤ sizeLine then some (.leaf (.str (Txt.slice x lo hi))) else none
  | .lst l, lo, hi => some (.lst (cutD l lo hi))
  | .tup l, lo, hi => if HT.sIx l.length 0 lo = 0 ∧ HT.sIx l.length l.length hi = l.length then none else some (.leaf (.tup (cutD l lo hi)))
  | _, _, _ => none
abbrev rSlA (K : PySem.W.Frag) : V → Option Int → Option Int → Hp → VK → Prop := fun x lo hi H Q => rSlS x lo hi H Q ∨ rSlL K x lo hi H Q ∨ rSlT K x lo hi H Q
theorem sl_all : SlR X (rSlA X.K) := SlR.or sl_str (SlR.or sl_list sl_tup)
theorem cut_reps {K : PySem.W.Frag} {F : Hp} {l : List Dt} {vs : List V} (r : Reps K F l vs) (lo hi : Option Int) : Reps K F (cutD l lo hi) (cutV vs lo hi) := by
  unfold cutD cutV
  rw [r.length]
  exact (r.drop _).take _
theorem r_sl {K : PySem.W.Frag} {F H : Hp} {x : Dt} {v : V} {lo hi : Option Int} {Q : VK} {t : T} (fh : Same F H) (rx : RepB K F H x v) (hg : gSl x lo hi = some t) (k : KO K F H t Q) : rSlA K v lo hi H Q := by
  unfold gSl at hg
  split at hg <;> first | (cases hg; done) | skip
  · split at hg
    · cases hg; cases rx
      exact .inl ⟨_, rfl, by assumption, k.str fh⟩
    · cases hg
  · obtain ⟨a, vs, rfl, h1, h2⟩ := rx
    cases hg
    exact .inr (.inl ⟨a, vs, rfl, h1, fun p hp => own_lst k fh (cut_reps h2 _ _) hp⟩)
  · obtain ⟨a, vs, rfl, h1, h2⟩ := rx
    split at hg
    · cases hg
    · rename_i hn
      cases hg
      rw [← h2.length] at hn
      exact .inr (.inr ⟨a, vs, rfl, fh.tup h1, hn, fun p hp => k.tup fh (cut_reps h2 _ _) hp⟩)
def tOD (K : PySem.W.Frag) (f : De → Option (Option Int)) : TO := fun σ H Q => ∃ Φ δ F d, Fm.K Φ = K ∧ En Φ δ σ F H ∧ f δ = some d ∧ ∀ H' F', Step F H F' H' → Q d H'
def oNone : De → Option (Option Int) := fun _ => some none
def asI : Dt → Option Int
  | .int i => some i
  | _ => none
def oSome (f : De → Option Dt) : De → Option (Option Int) := fun δ => (f δ).bind fun d => (asI d).map some
theorem repB_int {K : PySem.W.Frag} {F H : Hp} {x : Dt} {v : V} {b : Int} (h : asI x = some b) (r : RepB K F H x v) : v = .int b := by
  cases x <;> first | cases h; done | skip
  cases h; exact r
def DP (X : Cx) (e : Option Expr) (f : De → Option (Option Int)) : Prop := PO X e (tOD X.K f)
theorem dp_none : DP X none oNone := fun pins s σ H Q I h => po_none pins s σ H Q I (by
  obtain ⟨Φ, δ, F, d, hK, en, hf, k⟩ := h
  cases hf
  exact k H F (Step.refl en.fh))
theorem dp_some {e : Expr} {f : De → Option Dt} (h : DB X e f) : DP X (some e) (oSome f) := fun pins s σ H Q I q => po_some h pins s σ H Q I (by
  obtain ⟨Φ, δ, F, d, hK, en, hf, k⟩ := q
  unfold oSome at hf
  obtain ⟨x, hx, hf⟩ := Option.bind_eq_some_iff.mp hf
  obtain ⟨i, hi, hf⟩ := Option.map_eq_some_iff.mp hf
  cases hf
  exact ⟨Φ, δ, F, x, hK, en, hx, fun v H' F' st r => ⟨i, repB_int hi r, k H' F' st⟩⟩)
def vSl (fa : De → Option Dt) (fl fh : De → Option (Option Int)) : De → Option T := fun δ => (fa δ).bind fun x => (fl δ).bind fun l => (fh δ).bind fun h => gSl x l h
theorem do_slice {e : Expr} {lo hi : Option Expr} {p2 : Pos} {f : De → Option Dt} {fl fh : De → Option (Option Int)} (he : DB X e f) (hl : DP X lo fl) (hh : DP X hi fh) : DO X (.Subscript e (.Slice lo hi none p2) pos) (vSl f fl fh) :=
  PE.mono (pe_slice sl_all he hl hh) fun σ H Q ⟨Φ, δ, F, t, hK, en, hf, k⟩ => by
    unfold vSl at hf
    obtain ⟨x, hx, hf⟩ := Option.bind_eq_some_iff.mp hf
    obtain ⟨l, hl, hf⟩ := Option.bind_eq_some_iff.mp hf
    obtain ⟨h, hh, hf⟩ := Option.bind_eq_some_iff.mp hf
    exact ⟨Φ, δ, F, x, hK, en, hx, fun v H1 F1 s1 r1 => ⟨Φ, δ, F1, l, hK, en.step s1, hl, fun H2 F2 s2 => ⟨Φ, δ, F2, h, hK, en.step (s1.trans s2), hh, fun H3 F3 s3 => r_sl s3.fh (r1.step (s2.ff.trans s3.ff) (s2.hh.trans s3.hh)) hf (k.step ((s1.trans s2).trans s3))⟩⟩⟩
def vNeg (f : De → Option Dt) : De → Option T := fun δ => (f δ).bind fun d => (asI d).map fun i => .leaf (.int (-i))
theorem do_neg (h : DB X a fa) : DO X (.UnaryOp .USub a pos) (vNeg fa) := PE.mono (pe_un un_neg h) fun σ H Q ⟨Φ, δ, F, t, hK, en, hf, k⟩ => by
  unfold vNeg at hf
  obtain ⟨x, hx, hf⟩ := Option.bind_eq_some_iff.mp hf
  obtain ⟨i, hi, hf⟩ := Option.map_eq_some_iff.mp hf
  cases hf
  exact ⟨Φ, δ, F, x, hK, en, hx, fun v H' F' st r => ⟨i, repB_int hi r, (k.step st).int st.fh⟩⟩
def gLen : List Dt → Option T
  | [.str x] => if x.length ≤ sizeLine then some (.leaf (.int x.length)) else none
  | [.tup l] => some (.leaf (.int l.length))
  | [.lst l] => some (.leaf (.int l.length))
  | _ => none
theorem repBs1 {K : PySem.W.Frag} {F H : Hp} {d : Dt} {vs : List V} (r : RepBs K F H [d] vs) : ∃ v, vs = [v] ∧ RepB K F H d v := by
  obtain ⟨v, ws, rfl, h1, h2⟩ := r
  cases h2
  exact ⟨v, rfl, h1⟩
theorem repBs2 {K : PySem.W.Frag} {F H : Hp} {d e : Dt} {vs : List V} (r : RepBs K F H [d, e] vs) : ∃ v w, vs = [v, w] ∧ RepB K F H d v ∧ RepB K F H e w := by
  obtain ⟨v, ws, rfl, h1, w, us, rfl, h2, h3⟩ := r
  cases h3
  exact ⟨v, w, rfl, h1, h2⟩
theorem c_len {K : PySem.W.Frag} : CRD K (fun xs H Q => ∃ x n, xs = [x] ∧ LenV K x H n ∧ Q (.int n) H) gLen := by
  intro F H ds vs Q t fh r hg k
  unfold gLen at hg
  split at hg <;> first | (cases hg; done) | skip
  · split at hg
    · rename_i hl
      cases hg
      obtain ⟨v, rfl, rv⟩ := repBs1 r
      cases rv
      exact ⟨_, _, rfl, ⟨hl, rfl⟩, k.int fh⟩
    · cases hg
  · cases hg
    obtain ⟨v, rfl, rv⟩ := repBs1 r
    obtain ⟨a, vs, rfl, h1, h2⟩ := rv
    rw [← h2.length] at k
    exact ⟨_, _, rfl, .inr ⟨vs, fh.tup h1, rfl⟩, k.int fh⟩
  · cases hg
    obtain ⟨v, rfl, rv⟩ := repBs1 r
    obtain ⟨a, vs, rfl, h1, h2⟩ := rv
    rw [← h2.length] at k
    exact ⟨_, _, rfl, .inl ⟨vs, h1, rfl⟩, k.int fh⟩
def asBls : List Dt → Option (List Bool)
  | [] => some []
  | .bl b :: r => (asBls r).map (b :: ·)
  | _ => none
theorem asBls_of {K : PySem.W.Frag} {F : Hp} : ∀ {l : List Dt} {vs : List V} {bs : List Bool}, Reps K F l vs → asBls l = some bs → vs = bs.map V.bl
  | [], vs, bs, r, h => by cases h; simp only [Reps] at r; exact r
  | d :: l, vs, bs, r, h => by
    cases d <;> first | cases h; done | skip
    simp only [asBls] at h
    obtain ⟨cs, hc, h⟩ := Option.map_eq_some_iff.mp h
    cases h
    simp only [Reps, Rep] at r
    obtain ⟨v, ws, rfl, rfl, r2⟩ := r
    rw [asBls_of r2 hc]
    rfl
def gAll (f : List Bool → Bool) : List Dt → Option T
  | [.lst l] => (asBls l).map fun bs => .leaf (.bl (f bs))
  | _ => none
theorem c_all {K : PySem.W.Frag} {f : List Bool → Bool} : CRD K (fun xs H Q => ∃ (a : Addr) (bs : List Bool), xs = [.ref a] ∧ SqL K H a (bs.map V.bl) ∧ Q (.bl (f bs)) H) (gAll f) := by
  intro F H ds vs Q t fh r hg k
  unfold gAll at hg
  split at hg <;> first | (cases hg; done) | skip
  obtain ⟨bs, hb, hg⟩ := Option.map_eq_some_iff.mp hg
  cases hg
  obtain ⟨v, rfl, rv⟩ := repBs1 r
  obtain ⟨a, vs, rfl, h1, h2⟩ := rv
  have := asBls_of h2 hb
  subst this
  exact ⟨a, bs, rfl, h1, k.bl fh⟩
def logOk (i : Int) : Bool := decide (i.natAbs.log2 < 1920)
def gStr : List Dt → Option T
  | [.int i] => if logOk i then some (.leaf (.str (toString i))) else none
  | _ => none
theorem c_str {K : PySem.W.Frag} : CRD K (fun xs H Q => ∃ i, xs = [.int i] ∧ i.natAbs.log2 < 1920 ∧ Q (.str (toString i)) H) gStr := by
  intro F H ds vs Q t fh r hg k
  unfold gStr at hg
  split at hg <;> first | (cases hg; done) | skip
  split at hg
  · rename_i h
    cases hg
    obtain ⟨v, rfl, rv⟩ := repBs1 r
    cases rv
    exact ⟨_, rfl, of_decide_eq_true h, k.str fh⟩
  · cases hg
def gInt : List Dt → Option T
  | [.int i] => some (.leaf (.int i))
  | [.bl b] => some (.leaf (.int (if b then 1 else 0)))
  | [.str x] => (PySem.intText? x).bind fun n => if x.length ≤ 640 then some (.leaf (.int n)) else none
  | _ => none
abbrev rIntA : List V → Hp → VK → Prop := fun xs H Q => ((∃ i, xs = [.int i] ∧ Q (.int i) H) ∨ ∃ k, xs = [.bl k] ∧ Q (.int (if k then 1 else 0)) H) ∨ ∃ x n, xs = [.str x] ∧ PySem.intText? x = some n ∧ x.length ≤ 640 ∧ Q (.int n) H
theorem call_intA : CallR X (.type "int") rIntA := CallR.or call_int1 call_int_str
theorem c_int {K : PySem.W.Frag} : CRD K rIntA gInt := by
  intro F H ds vs Q t fh r hg k
  unfold gInt at hg
  split at hg <;> first | (cases hg; done) | skip
  · cases hg
    obtain ⟨v, rfl, rv⟩ := repBs1 r
    cases rv
    exact .inl (.inl ⟨_, rfl, k.int fh⟩)
  · cases hg
    obtain ⟨v, rfl, rv⟩ := repBs1 r
    cases rv
    exact .inl (.inr ⟨_, rfl, k.int fh⟩)
  · obtain ⟨n, hn, hg⟩ := Option.bind_eq_some_iff.mp hg
    split at hg
    · cases hg
      obtain ⟨v, rfl, rv⟩ := repBs1 r
      cases rv
      exact .inr ⟨_, n, rfl, hn, by assumption, k.int fh⟩
    · cases hg
def gTuple : List Dt → Option T
  | [.lst l] => some (.leaf (.tup l))
  | [.tup l] => some (.leaf (.tup l))
  | _ => none
theorem c_tuple {K : PySem.W.Frag} : CRD K (fun xs H Q => ∃ p ys, xs = [.ref p] ∧ ((SqL K H p ys ∧ ∀ l, H l = none → Q (.ref l) (upd H l (.tup ys))) ∨ (SqT K H p ys ∧ Q (.ref p) H))) gTuple := by
  intro F H ds vs Q t fh r hg k
  unfold gTuple at hg
  split at hg <;> first | (cases hg; done) | skip
  · cases hg
    obtain ⟨v, rfl, rv⟩ := repBs1 r
    obtain ⟨a, vs, rfl, h1, h2⟩ := rv
    exact ⟨a, vs, rfl, .inl ⟨h1, fun p hp => k.tup fh h2 hp⟩⟩
  · cases hg
    obtain ⟨v, rfl, rv⟩ := repBs1 r
    rename_i l
    have rv' : Rep K F (.tup l) v := by simp only [Rep]; exact rv
    obtain ⟨a, vs, rfl, h1, h2⟩ := rv
    exact ⟨a, vs, rfl, .inr ⟨fh.tup h1, k.leaf.here fh rv'⟩⟩
def gList : List Dt → Option T
  | [.lst l] => some (.lst l)
  | [.tup l] => some (.lst l)
  | _ => none
theorem c_list {K : PySem.W.Frag} : CRD K (fun xs H Q => ∃ p ys, xs = [.ref p] ∧ (SqL K H p ys ∨ SqT K H p ys) ∧ ∀ l, H l = none → Q (.ref l) (upd H l (.lst ys))) gList := by
  intro F H ds vs Q t fh r hg k
  unfold gList at hg
  split at hg <;> first | (cases hg; done) | skip
  · cases hg
    obtain ⟨v, rfl, rv⟩ := repBs1 r
    obtain ⟨a, vs, rfl, h1, h2⟩ := rv
    exact ⟨a, vs, rfl, .inl h1, fun p hp => own_lst k fh h2 hp⟩
  · cases hg
    obtain ⟨v, rfl, rv⟩ := repBs1 r
    obtain ⟨a, vs, rfl, h1, h2⟩ := rv
    exact ⟨a, vs, rfl, .inr (fh.tup h1), fun p hp => own_lst k fh h2 hp⟩
end
end L2

namespace L2
open PySem PySem.Spec PyProof.Rows
section
variable {X : Cx} {o a b e c : Expr} {es : List Expr} {fa fb fo fe : De → Option Dt} {fs : De → Option (List Dt)} {pos apos cpos p : Pos} {x : Str} {sc : Scope} {i : Nat}
def GlobD (K : PySem.W.Frag) (mg : Str → Option Value) (x : Str) (d : Dt) : Prop := ∃ v, (∃ u, mg x = some u ∧ RelV v u) ∧ ∀ F, Rep K F d v
theorem dl_glob {d : Dt} (h : glOk sc x = true) (hm : GlobD X.K X.mg x d) (e1 : ScIs X sc := by rfl) : DL X (.Name x pos) (kD d) := by
  obtain ⟨v, h1, h2⟩ := hm
  exact dl_c (pe_globD h h1 e1) h2
theorem glob_int {K : PySem.W.Frag} {mg : Str → Option Value} {i : Int} (h : ∃ u, mg x = some u ∧ RelV (.int i) u) : GlobD K mg x (.int i) := ⟨_, h, fun _ => rep_int⟩
theorem glob_str {K : PySem.W.Frag} {mg : Str → Option Value} {i : Str} (h : ∃ u, mg x = some u ∧ RelV (.str i) u) : GlobD K mg x (.str i) := ⟨_, h, fun _ => rep_str⟩
def tyD : Dt → String
  | .non => "NoneType"
  | .bl _ => "bool"
  | .int _ => "int"
  | .str _ => "str"
  | .tup _ => "tuple"
  | .lst _ => "list"
  | .dct _ _ => "dict"
  | .dcT _ _ => "dict"
def instD (c : String) : Dt → Bool
  | .non => c == "NoneType"
  | .bl _ => c == "bool" || c == "int"
  | .int _ => c == "int"
  | .str _ => c == "str"
  | .tup _ => c == "tuple"
  | .lst _ => c == "list"
  | .dct _ _ => c == "dict"
  | .dcT _ _ => c == "dict"
theorem isinst_rep {pins : List (Addr × Obj)} {σ : St} {H : Hp} {s : Shared} {A : Around} {E : Value → Shared → Prop} {Q : Value → Shared → Prop} {c : Value} {b : Bool} {v : V} {u : Value} {d : Dt} (I : Inv X pins σ H s) (rx : RelV v u) (r : Rep X.K H d v) (e : PySem.W.kitOne X.K (.type (tyD d)) c = some b) (h : ∀ tk, Q (.bool b) { s with toks := tk }) :
    wpAny (model X.prog X.w) A (call (.builtin "isinstance") [u, c]) Q E s := by
  cases d with
  | non => simp only [Rep] at r; subst r; exact isinst_ok I rx .non e h
  | bl y => simp only [Rep] at r; subst r; exact isinst_ok I rx (.bl y) e h
  | int y => simp only [Rep] at r; subst r; exact isinst_ok I rx (.int y) e h
  | str y => simp only [Rep] at r; subst r; exact isinst_ok I rx (.str y) e h
  | tup l =>
    simp only [Rep] at r
    obtain ⟨a, vs, rfl, h1, h2⟩ := r
    cases rx
    obtain ⟨its, _, pl, _⟩ := I.tuple h1
    obtain ⟨o, e1, e2, _⟩ := pl
    exact PySem.W.kia_one PySem.W.kitx_tuple I.kIn ⟨o, e1, e2⟩ e (fun z => nomatch z) h
  | lst l =>
    simp only [Rep] at r
    obtain ⟨a, vs, rfl, h1, h2⟩ := r
    cases rx
    obtain ⟨its, _, pl, _⟩ := I.list h1
    obtain ⟨o, n, e1, e2, _⟩ := pl
    exact PySem.W.kia_one PySem.W.kitx_list I.kIn ⟨o, e1, e2⟩ e (fun z => nomatch z) h
  | dct ks l =>
    simp only [Rep] at r
    obtain ⟨a, kvs, rfl, h1, _⟩ := r
    cases rx
    obtain ⟨_, _, vs, _, p⟩ := dk_rd I.hok h1
    obtain ⟨o, es, ep, e1, e2, _⟩ := p
    exact PySem.W.kia_one PySem.W.kitx_dict I.kIn ⟨o, e1, e2.1⟩ e (fun z => nomatch z) h
  | dcT ks l =>
    simp only [Rep] at r
    obtain ⟨a, kvs, rfl, h1, _⟩ := r
    cases rx
    obtain ⟨_, _, xs, _, o, es, ep, e1, e2, _⟩ := (show ObjOk X.prog X.w H s.heap a (.dT kvs) from h1.ok I.hok)
    exact PySem.W.kia_one PySem.W.kitx_dict I.kIn ⟨o, e1, e2.1⟩ e (fun z => nomatch z) h
def KindsD (K : PySem.W.Frag) (c : String) : Prop := ∀ d : Dt, PySem.W.kitOne K (.type (tyD d)) (.type c) = some (instD c d)
theorem call_instD : CallR X (.builtin "isinstance") (fun xs H Q => ∃ v c d b, xs = [v, .ty c] ∧ Rep X.K H d v ∧ PySem.W.kitOne X.K (.type (tyD d)) (.type c) = some b ∧ Q (.bl b) H) := by
  intro pins s σ H xs us Q I r h
  obtain ⟨v, c, d, b, rfl, rd, e, q⟩ := h
  obtain ⟨u, w', rfl, ru, rw'⟩ := vals2 r
  cases rw'
  exact isinst_rep I ru rd e fun tk => ⟨.bl b, H, I.tok _, rfl, q⟩
def vInst (c : String) (f : De → Option Dt) : De → Option T := fun δ => (f δ).map fun d => .leaf (.bl (instD c d))
theorem do_isinst {cn : Str} {cs : String} {p1 p2 : Pos} (h : glOk sc "isinstance" = true) (hcn : glOk sc cn = true) (hm : X.mg "isinstance" = none) (hmc : X.mg cn = none) (hv : bootBuiltins cn = some (.type cs)) (hk : KindsD X.K cs) (ha : DB X a fa) (e1 : ScIs X sc := by rfl)
    (he : starEach [a, .Name cn p2] X.env = (false, eval a X.env) :: starEach [.Name cn p2] X.env := by rfl) (he2 : starEach [.Name cn p2] X.env = (false, eval (.Name cn p2) X.env) :: starEach [] X.env := by rfl) (hpl : (backTo pos (starEach [.Name cn p2] X.env)).any (·.1) = false := by rfl) :
    DO X (.Call (.Name "isinstance" p1) [a, .Name cn p2] [] pos) (vInst cs fa) :=
  PE.mono (pe_callBD h call_instD hm bt_isinstance (pa_cons ha (pa_cons (pe_bltnD (v := .ty cs) hcn hmc hv rfl e1) pa_nil he2) he) e1 he hpl) fun σ H Q ⟨Φ, δ, F, t, hK, en, hf, k⟩ => by
    unfold vInst at hf
    obtain ⟨d, hd, hf⟩ := Option.map_eq_some_iff.mp hf
    cases hf
    exact ⟨Φ, δ, F, d, hK, en, hd, fun v H' F' st r => ⟨v, cs, d, _, rfl, r.rep st.fh, hk d, (k.step st).bl st.fh⟩⟩
def MRD (K : PySem.W.Frag) (r : V → List V → Hp → VK → Prop) (g : Dt → List Dt → Option T) : Prop := ∀ F H d v ds vs (Q : VK) t, Same F H → RepB K F H d v → RepBs K F H ds vs → g d ds = some t → KO K F H t Q → r v vs H Q
def vMeth (g : Dt → List Dt → Option T) (fo : De → Option Dt) (fs : De → Option (List Dt)) : De → Option T := fun δ => (fo δ).bind fun d => (fs δ).bind fun ds => g d ds
theorem do_bmS {name : Str} {id : String} {r : V → List V → Hp → VK → Prop} {g : Dt → List Dt → Option T} (slot : Slot "str" name id) (hty : typeOf (.builtin id) = pure (.type "method_descriptor")) (hm : MtR X id r) (hr : MRD X.K r g) (hg : ∀ d ds t, g d ds = some t → ∃ z, d = .str z)
    (ho : DB X o fo) (ha : DAB X (e :: es) fs)
    (hbase : attributeBase o name X.env (eval o X.env) = eval o X.env := by rfl)
    (hfew : ((backTo cpos (starEach (e :: es) X.env)).all (fun x => !x.1) && (backToKw cpos (keywordEach [] X.env)).all (fun x => x.1.isSome)
      && decide ((e :: es).length + ([] : List Keyword).length + (if ([] : List Keyword).isEmpty then 0 else 1) < 30)) = true := by rfl)
    (hline : (apos.endLine == cpos.line) = true := by rfl) (hs : starEach (e :: es) X.env = (false, eval e X.env) :: starEach es X.env := by rfl) (hplain : (backTo cpos (starEach es X.env)).any (·.1) = false := by rfl) :
    DO X (.Call (.Attribute o name apos) (e :: es) [] cpos) (vMeth g fo fs) := PE.mono (pe_bm PySem.F.plainAttrs_str slot hty hm ho ha.pa hbase hfew hline hs hplain) fun σ H Q ⟨Φ, δ, F, t, hK, en, hf, k⟩ => by
  unfold vMeth at hf
  obtain ⟨d, hd, hf⟩ := Option.bind_eq_some_iff.mp hf
  obtain ⟨ds, hds, hf⟩ := Option.bind_eq_some_iff.mp hf
  refine ⟨Φ, δ, F, d, hK, en, hd, fun v H1 F1 st rv => ⟨?_, Φ, δ, F1, ds, hK, en.step st, hds, fun vs H2 F2 st2 rvs => hr F2 H2 d v ds vs Q t st2.fh (rv.step st2.ff st2.hh) rvs hf (k.step (st.trans st2))⟩⟩
  obtain ⟨z, rfl⟩ := hg d ds t hf
  cases rv
  rfl
def asStrs : List Dt → Option (List Str)
  | [] => some []
  | .str b :: r => (asStrs r).map (b :: ·)
  | _ => none
theorem asStrs_of {K : PySem.W.Frag} {F : Hp} : ∀ {l : List Dt} {vs : List V} {bs : List Str}, Reps K F l vs → asStrs l = some bs → vs = bs.map V.str
  | [], vs, bs, r, h => by cases h; simp only [Reps] at r; exact r
  | d :: l, vs, bs, r, h => by
    cases d <;> first | cases h; done | skip
    simp only [asStrs] at h
    obtain ⟨cs, hc, h⟩ := Option.map_eq_some_iff.mp h
    cases h
    simp only [Reps, Rep] at r
    obtain ⟨v, ws, rfl, rfl, r2⟩ := r
    rw [asStrs_of r2 hc]
    rfl
def g_join : Dt → List Dt → Option T
  | .str a, [.lst l] => (asStrs l).bind fun ts => if JoinOk a ts then some (.leaf (.str (Txt.join a ts))) else none
  | _, _ => none
theorem m_joinD {K : PySem.W.Frag} : MRD K (fun x vs H Q => ∃ (a : Str) (l : Addr) (ts : List Str), x = .str a ∧ vs = [.ref l] ∧ SqL K H l (ts.map V.str) ∧ JoinOk a ts = true ∧ Q (.str (Txt.join a ts)) H) g_join := by
  intro F H d v ds vs Q t fh rd rs hg k
  unfold g_join at hg
  split at hg <;> first | cases hg; done | skip
  obtain ⟨ts, ht, hg⟩ := Option.bind_eq_some_iff.mp hg
  split at hg
  · rename_i hj
    cases hg
    cases rd
    obtain ⟨v, rfl, rv⟩ := repBs1 rs
    obtain ⟨a, vs, rfl, h1, h2⟩ := rv
    have := asStrs_of h2 ht
    subst this
    exact ⟨_, a, ts, rfl, rfl, h1, hj, k.str fh⟩
  · cases hg
theorem g_join_str : ∀ d ds t, g_join d ds = some t → ∃ z, d = .str z := fun d ds t h => by
  unfold g_join at h
  split at h
  · exact ⟨_, rfl⟩
  · cases h
theorem do_join (ho : DB X o fo) (ha : DAB X (e :: es) fs)
    (hbase : attributeBase o "join" X.env (eval o X.env) = eval o X.env := by rfl)
    (hfew : ((backTo cpos (starEach (e :: es) X.env)).all (fun x => !x.1) && (backToKw cpos (keywordEach [] X.env)).all (fun x => x.1.isSome)
      && decide ((e :: es).length + ([] : List Keyword).length + (if ([] : List Keyword).isEmpty then 0 else 1) < 30)) = true := by rfl)
    (hline : (apos.endLine == cpos.line) = true := by rfl) (hs : starEach (e :: es) X.env = (false, eval e X.env) :: starEach es X.env := by rfl) (hplain : (backTo cpos (starEach es X.env)).any (·.1) = false := by rfl) :
    DO X (.Call (.Attribute o "join" apos) (e :: es) [] cpos) (vMeth g_join fo fs) := do_bmS PySem.F.slot_str_join PySem.F.type_str_join mt_join m_joinD g_join_str ho ha hbase hfew hline hs hplain
def g_startswith : Dt → List Dt → Option T
  | .str a, [.str b] => some (.leaf (.bl (Txt.startswith a b)))
  | _, _ => none
theorem m_startswithD {K : PySem.W.Frag} : MRD K (fun x vs H Q => ∃ a b, x = .str a ∧ vs = [.str b] ∧ Q (.bl (Txt.startswith a b)) H) g_startswith := by
  intro F H d v ds vs Q t fh rd rs hg k
  unfold g_startswith at hg
  split at hg <;> first | cases hg; done | skip
  cases hg
  cases rd
  obtain ⟨v, rfl, rv⟩ := repBs1 rs
  cases rv
  exact ⟨_, _, rfl, rfl, k.bl fh⟩
theorem g_startswith_str : ∀ d ds t, g_startswith d ds = some t → ∃ z, d = .str z := fun d ds t h => by
  unfold g_startswith at h
  split at h
  · exact ⟨_, rfl⟩
  · cases h
theorem do_startswith (ho : DB X o fo) (ha : DAB X (e :: es) fs)
    (hbase : attributeBase o "startswith" X.env (eval o X.env) = eval o X.env := by rfl)
    (hfew : ((backTo cpos (starEach (e :: es) X.env)).all (fun x => !x.1) && (backToKw cpos (keywordEach [] X.env)).all (fun x => x.1.isSome)
      && decide ((e :: es).length + ([] : List Keyword).length + (if ([] : List Keyword).isEmpty then 0 else 1) < 30)) = true := by rfl)
    (hline : (apos.endLine == cpos.line) = true := by rfl) (hs : starEach (e :: es) X.env = (false, eval e X.env) :: starEach es X.env := by rfl) (hplain : (backTo cpos (starEach es X.env)).any (·.1) = false := by rfl) :
    DO X (.Call (.Attribute o "startswith" apos) (e :: es) [] cpos) (vMeth g_startswith fo fs) := do_bmS PySem.F.slot_str_startswith PySem.F.type_str_startswith mt_startswith m_startswithD g_startswith_str ho ha hbase hfew hline hs hplain
def g_find : Dt → List Dt → Option T
  | .str a, [.str b] => some (.leaf (.int (Txt.find a b)))
  | _, _ => none
theorem m_findD {K : PySem.W.Frag} : MRD K (fun x vs H Q => ∃ a b, x = .str a ∧ vs = [.str b] ∧ Q (.int (Txt.find a b)) H) g_find := by
  intro F H d v ds vs Q t fh rd rs hg k
  unfold g_find at hg
  split at hg <;> first | cases hg; done | skip
  cases hg
  cases rd
  obtain ⟨v, rfl, rv⟩ := repBs1 rs
  cases rv
  exact ⟨_, _, rfl, rfl, k.int fh⟩
theorem g_find_str : ∀ d ds t, g_find d ds = some t → ∃ z, d = .str z := fun d ds t h => by
  unfold g_find at h
  split at h
  · exact ⟨_, rfl⟩
  · cases h
theorem do_find (ho : DB X o fo) (ha : DAB X (e :: es) fs)
    (hbase : attributeBase o "find" X.env (eval o X.env) = eval o X.env := by rfl)
    (hfew : ((backTo cpos (starEach (e :: es) X.env)).all (fun x => !x.1) && (backToKw cpos (keywordEach [] X.env)).all (fun x => x.1.isSome)
      && decide ((e :: es).length + ([] : List Keyword).length + (if ([] : List Keyword).isEmpty then 0 else 1) < 30)) = true := by rfl)
    (hline : (apos.endLine == cpos.line) = true := by rfl) (hs : starEach (e :: es) X.env = (false, eval e X.env) :: starEach es X.env := by rfl) (hplain : (backTo cpos (starEach es X.env)).any (·.1) = false := by rfl) :
    DO X (.Call (.Attribute o "find" apos) (e :: es) [] cpos) (vMeth g_find fo fs) := do_bmS PySem.F.slot_str_find PySem.F.type_str_find mt_find m_findD g_find_str ho ha hbase hfew hline hs hplain
def s_append (i : Nat) (f : De → Option Dt) : De → Option Out := fun δ => match δ[i]? with
  | some (some (.lst l)) => (f δ).bind fun d => if l.length < sizeLine then some (.nx (δ.set i (some (.lst (l ++ [d]))))) else none
  | _ => none
theorem En.ownL {Φ : Fm} {δ : De} {σ : St} {F H : Hp} (en : En Φ δ σ F H) {l : List Dt} (h : δ[i]? = some (some (.lst l))) : ∃ a vs, σ[i]? = some (some (.ref a)) ∧ H a = some (.lst vs) ∧ Reps Φ.K F l vs := by
  obtain ⟨v, hv⟩ := en.has i _ h
  obtain ⟨S, s⟩ := en.sep
  obtain ⟨a, vs, rfl, _, h1, h2⟩ := s.own i _ v (liveS_of h hv)
  exact ⟨a, vs, hv, h1, h2⟩
theorem ds_append (hx : PE X o (tVar i)) (he : DL X e fe)
    (hbase : attributeBase o "append" X.env (eval o X.env) = eval o X.env := by rfl)
    (hfew : ((backTo cpos (starEach [e] X.env)).all (fun x => !x.1) && (backToKw cpos (keywordEach [] X.env)).all (fun x => x.1.isSome)
      && decide ([e].length + ([] : List Keyword).length + (if ([] : List Keyword).isEmpty then 0 else 1) < 30)) = true := by rfl)
    (hline : (apos.endLine == cpos.line) = true := by rfl) (hs : starEach [e] X.env = (false, eval e X.env) :: starEach [] X.env := by rfl) (hplain : (backTo cpos (starEach [] X.env)).any (·.1) = false := by rfl)
    (hsw : swapsWith (.Call (.Attribute o "append" apos) [e] [] cpos) none pos.line X.env = pure false := by rfl) :
    DS1 X (.Expr (.Call (.Attribute o "append" apos) [e] [] cpos) pos) (s_append i fe) :=
  PS.mono (ps_expr (pe_bm PySem.F.plainAttrs_list PySem.F.slot_list_append PySem.F.type_list_append mt_append hx (pa_cons he pa_nil hs) hbase hfew hline hs hplain) hsw) fun D σ H ⟨Φ, δ, F, ot, hK, en, hg, k⟩ => by
    unfold s_append at hg
    split at hg <;> first | cases hg; done | skip
    rename_i l hl
    obtain ⟨d, hd, hg⟩ := Option.bind_eq_some_iff.mp hg
    split at hg <;> first | cases hg; done | skip
    rename_i hz
    cases hg
    obtain ⟨a, vs, hv, h1, h2⟩ := en.ownL hl
    refine ⟨.ref a, hv, .inl ⟨rfl, vs, .inl (.inl h1)⟩, Φ, δ, F, d, hK, en, hd, fun v H1 F1 st rv => ?_⟩
    have en1 := en.step st
    have h1' := st.hh _ _ h1
    refine ⟨a, vs, v, rfl, rfl, h1', by rw [h2.length]; exact hz, ?_⟩
    refine k σ F1 _ (en1.poke hl hv (fun d z => nomatch z) fun S sa => ⟨a, vs ++ [v], rfl, sa, upd_same, (h2.same st.ff).append (Reps.one (hK ▸ rv))⟩)
def s_clear (i : Nat) : De → Option Out := fun δ => match δ[i]? with
  | some (some (.lst _)) => some (.nx (δ.set i (some (.lst []))))
  | _ => none
theorem ds_clear (hx : PE X o (tVar i)) (hbase : attributeBase o "clear" X.env (eval o X.env) = eval o X.env := by rfl) (hline : (apos.endLine == cpos.line) = true := by rfl)
    (hsw : swapsWith (.Call (.Attribute o "clear" apos) [] [] cpos) none pos.line X.env = pure false := by rfl) :
    DS1 X (.Expr (.Call (.Attribute o "clear" apos) [] [] cpos) pos) (s_clear i) :=
  PS.mono (ps_expr (pe_bm0 PySem.F.plainAttrs_list PySem.F.slot_list_clear PySem.F.type_list_clear mt_clear hx hbase hline) hsw) fun D σ H ⟨Φ, δ, F, ot, hK, en, hg, k⟩ => by
    unfold s_clear at hg
    split at hg <;> first | cases hg; done | skip
    rename_i l hl
    cases hg
    obtain ⟨a, vs, hv, h1, h2⟩ := en.ownL hl
    refine ⟨.ref a, hv, .inl ⟨rfl, vs, .inl (.inl h1)⟩, a, vs, rfl, rfl, h1, ?_⟩
    exact k σ F _ (en.poke hl hv (fun d z => nomatch z) fun S sa => ⟨a, [], rfl, sa, upd_same, by simp only [Reps]⟩)
def sPutL (i : Nat) (fk fe : De → Option Dt) : De → Option Out := fun δ => (fe δ).bind fun d => (fk δ).bind fun k => match δ[i]?, k with
  | some (some (.lst l)), .int n => (ixN l.length n).map fun j => .nx (δ.set i (some (.lst (l.set j d))))
  | _, _ => none
theorem Reps.set {K : PySem.W.Frag} {F : Hp} {d : Dt} {v : V} (h : Rep K F d v) : ∀ {l : List Dt} {vs : List V} (j : Nat), Reps K F l vs → Reps K F (l.set j d) (vs.set j v)
  | [], vs, j, r => by simp only [Reps] at r; subst r; simp [Reps]
  | e :: l, vs, 0, r => by
    simp only [Reps] at r
    obtain ⟨w, ws, rfl, _, r2⟩ := r
    simp only [List.set_cons_zero, Reps]
    exact ⟨v, ws, rfl, h, r2⟩
  | e :: l, vs, j + 1, r => by
    simp only [Reps] at r
    obtain ⟨w, ws, rfl, r1, r2⟩ := r
    simp only [List.set_cons_succ, Reps]
    exact ⟨w, _, rfl, r1, Reps.set h j r2⟩
def sAug (f : Int → Int → Int) (i : Nat) (fe : De → Option Dt) : De → Option Out := fun δ => match δ[i]? with
  | some (some (.leaf (.int n))) => (fe δ).bind fun d => (asI d).map fun m => .nx (δ.set i (some (.leaf (.int (f n m)))))
  | _ => none
theorem aug_of {f : Int → Int → Int} {D : Ends} {σ : St} {H : Hp} {K : PySem.W.Frag} (h : tS K (sAug f i fe) D σ H) : tAug i (tBd K fe) (ipI f) D σ H := by
  obtain ⟨Φ, δ, F, ot, hK, en, hg, k⟩ := h
  unfold sAug at hg
  split at hg <;> first | cases hg; done | skip
  rename_i n hn
  obtain ⟨d, hd, hg⟩ := Option.bind_eq_some_iff.mp hg
  obtain ⟨m, hm, hg⟩ := Option.map_eq_some_iff.mp hg
  cases hg
  obtain ⟨v, hv, rv⟩ := en.leaf hn
  simp only [Rep] at rv
  subst rv
  exact ⟨_, hv, Φ, δ, F, d, hK, en, hd, fun w H1 F1 st r => ⟨n, m, rfl, repB_int hm r, k _ F1 H1 ((en.step st).name rep_int i)⟩⟩
theorem ds_aug_add {N : List Str} {pos' : Pos} (h : nmOk sc N i x = true) (hl : lcOk sc x = true) (nd : N.Nodup) (he : DB X e fe) (e1 : ScIs X sc := by rfl) (e2 : X.N = N := by rfl) (hf : X.fn x = true ∨ X.env.scope.names.lookup x = some .local := by exact .inl rfl) :
    DS1 X (.AugAssign (.Name x pos') .Add e pos) (sAug (fun i j => i + j) i fe) := by
  have e1 : X.env.scope = sc := e1
  subst e1 e2
  exact PS.mono (ps_aug nd (nm_nth h) (lc_loc hl) he ip_add hf) fun D σ H q => aug_of q
theorem ds_aug_sub {N : List Str} {pos' : Pos} (h : nmOk sc N i x = true) (hl : lcOk sc x = true) (nd : N.Nodup) (he : DB X e fe) (e1 : ScIs X sc := by rfl) (e2 : X.N = N := by rfl) (hf : X.fn x = true ∨ X.env.scope.names.lookup x = some .local := by exact .inl rfl) :
    DS1 X (.AugAssign (.Name x pos') .Sub e pos) (sAug (fun i j => i - j) i fe) := by
  have e1 : X.env.scope = sc := e1
  subst e1 e2
  exact PS.mono (ps_aug nd (nm_nth h) (lc_loc hl) he ip_sub hf) fun D σ H q => aug_of q
end
end L2

namespace L2
open PySem PySem.Spec PyProof.Rows
def lookZ {κ : Type} [DecidableEq κ] : List κ → List Dt → κ → Option Dt
  | k' :: ks, d :: l, k => if k' = k then some d else lookZ ks l k
  | _, _, _ => none
theorem look_some {κ : Type} [DecidableEq κ] {K : PySem.W.Frag} {F : Hp} {k : κ} : ∀ {kvs : List (κ × V)} {l : List Dt} {d : Dt}, Reps K F l (kvs.map (·.2)) → lookZ (kvs.map (·.1)) l k = some d → ∃ v, valV kvs k = some v ∧ Rep K F d v
  | [], l, d, r, h => by cases l <;> cases h
  | p :: kvs, [], d, r, h => by cases h
  | p :: kvs, e :: l, d, r, h => by
    simp only [List.map_cons, Reps] at r
    obtain ⟨v, ws, hv, r1, r2⟩ := r
    cases hv
    simp only [List.map_cons, lookZ] at h
    by_cases hk : p.1 = k
    · rw [if_pos hk] at h
      cases h
      exact ⟨p.2, valV_pos hk, r1⟩
    · rw [if_neg hk] at h
      rw [valV_neg hk]
      exact look_some r2 h
theorem look_none {κ : Type} [DecidableEq κ] {K : PySem.W.Frag} {F : Hp} {k : κ} : ∀ {kvs : List (κ × V)} {l : List Dt}, Reps K F l (kvs.map (·.2)) → lookZ (kvs.map (·.1)) l k = none → valV kvs k = none
  | [], l, r, h => rfl
  | p :: kvs, [], r, h => by
    simp only [List.map_cons, Reps] at r
    cases r
  | p :: kvs, e :: l, r, h => by
    simp only [List.map_cons, Reps] at r
    obtain ⟨v, ws, hv, r1, r2⟩ := r
    cases hv
    simp only [List.map_cons, lookZ] at h
    by_cases hk : p.1 = k
    · rw [if_pos hk] at h
      cases h
    · rw [if_neg hk] at h
      rw [valV_neg hk]
      exact look_none r2 h
def keyD : Dt → Option Key
  | .int i => some (.inl i)
  | .str x => some (.inr x)
  | _ => none
theorem keyD_of {K : PySem.W.Frag} {F H : Hp} {d : Dt} {v : V} {k : Key} (r : RepB K F H d v) (h : keyD d = some k) : v = kV k := by
  unfold keyD at h
  split at h <;> first | (cases h; done) | skip
  · cases h; exact r
  · cases h; exact r
def gIxA : Dt → Dt → Option T
  | .dct ks l, k => (keyD k).bind fun k => (lookZ ks l k).map .leaf
  | x, y => gIx x y
section
variable {X : Cx} {o a b e c : Expr} {es : List Expr} {fa fb fo fe fk : De → Option Dt} {fs : De → Option (List Dt)} {pos apos cpos p : Pos} {x : Str} {sc : Scope} {i : Nat}
theorem do_ixA {k : Nat} (hr : Room k X.A) (ha : DB X a fa) (hb : DB X b fb) (hs : PlainIx b := by exact fun _ _ => rfl) (hn : NoSl b := by exact fun _ _ => rfl) : DO X (.Subscript a b pos) (d2 gIxA fa fb) :=
  PE.mono (PE.or (pe_ix ix_seq ha hb hs) (pe_dget (hu_of hr) ha hb hn)) fun σ H Q ⟨Φ, δ, F, t, hK, en, hf, k⟩ => by
    unfold d2 at hf
    obtain ⟨x, hx, hf⟩ := Option.bind_eq_some_iff.mp hf
    obtain ⟨y, hy, hf⟩ := Option.bind_eq_some_iff.mp hf
    unfold gIxA at hf
    split at hf
    · rename_i ks l _
      obtain ⟨kk, hk, hf⟩ := Option.bind_eq_some_iff.mp hf
      obtain ⟨d, hd, hf⟩ := Option.map_eq_some_iff.mp hf
      cases hf
      refine .inr ⟨Φ, δ, F, _, hK, en, hx, fun v H1 F1 st rv => ⟨Φ, δ, F1, y, hK, en.step st, hy, fun v2 H2 F2 st2 rv2 => ?_⟩⟩
      obtain ⟨ad, kvs, rfl, h1, h2, h3⟩ := rv
      subst h2
      obtain ⟨w, hw, rw'⟩ := look_some h3 hd
      have := keyD_of rv2 hk
      subst this
      exact ⟨ad, w, rfl, .inl ⟨kvs, kk, st2.hh.rd h1, rfl, hw.symm⟩, (k.step (st.trans st2)).leaf.here st2.fh (rw'.same st2.ff)⟩
    · exact .inl (d2_of r_ix ⟨Φ, δ, F, t, hK, en, by unfold d2; rw [hx, hy]; exact hf, k⟩)
def gInA (neg : Bool) : Dt → Dt → Option T
  | k, .dct ks l => (keyD k).map fun k => .leaf (.bl (if neg then !(lookZ ks l k).isSome else (lookZ ks l k).isSome))
  | x, y => gIn neg x y
theorem look_is {κ : Type} [DecidableEq κ] {K : PySem.W.Frag} {F : Hp} {k : κ} {kvs : List (κ × V)} {l : List Dt} (r : Reps K F l (kvs.map (·.2))) : (lookZ (kvs.map (·.1)) l k).isSome = (valV kvs k).isSome := by
  cases h : lookZ (kvs.map (·.1)) l k with
  | none => rw [look_none r h]; rfl
  | some d =>
    obtain ⟨v, e, _⟩ := look_some r h
    rw [e]
    rfl
theorem in_of {K : PySem.W.Frag} {σ : St} {H : Hp} {Q : VK} (h : tO K (d2 (gInA false) fa fb) σ H Q) : tOp (rInA K false) (tBd K fa) (tBd K fb) σ H Q ∨ tDIn (tBd K fa) (tBd K fb) σ H Q := by
  obtain ⟨Φ, δ, F, t, hK, en, hf, k⟩ := h
  unfold d2 at hf
  obtain ⟨x, hx, hf⟩ := Option.bind_eq_some_iff.mp hf
  obtain ⟨y, hy, hf⟩ := Option.bind_eq_some_iff.mp hf
  unfold gInA at hf
  split at hf
  · rename_i ks l
    obtain ⟨kk, hk, hf⟩ := Option.map_eq_some_iff.mp hf
    cases hf
    refine .inr ⟨Φ, δ, F, x, hK, en, hx, fun v H1 F1 st rv => ⟨Φ, δ, F1, _, hK, en.step st, hy, fun v2 H2 F2 st2 rv2 => ?_⟩⟩
    obtain ⟨ad, kvs, rfl, h1, h2, h3⟩ := rv2
    subst h2
    have := keyD_of rv hk
    subst this
    refine ⟨ad, _, rfl, .inl ⟨kvs, kk, h1, rfl, rfl⟩, ?_⟩
    rw [← look_is h3]
    exact (k.step (st.trans st2)).bl st2.fh
  · exact .inl (d2_of (r_in false) ⟨Φ, δ, F, t, hK, en, by unfold d2; rw [hx, hy]; exact hf, k⟩)
theorem notin_of {K : PySem.W.Frag} {σ : St} {H : Hp} {Q : VK} (h : tO K (d2 (gInA true) fa fb) σ H Q) : tOp (rInA K true) (tBd K fa) (tBd K fb) σ H Q ∨ tDNotIn (tBd K fa) (tBd K fb) σ H Q := by
  obtain ⟨Φ, δ, F, t, hK, en, hf, k⟩ := h
  unfold d2 at hf
  obtain ⟨x, hx, hf⟩ := Option.bind_eq_some_iff.mp hf
  obtain ⟨y, hy, hf⟩ := Option.bind_eq_some_iff.mp hf
  unfold gInA at hf
  split at hf
  · rename_i ks l
    obtain ⟨kk, hk, hf⟩ := Option.map_eq_some_iff.mp hf
    cases hf
    refine .inr ⟨Φ, δ, F, x, hK, en, hx, fun v H1 F1 st rv => ⟨Φ, δ, F1, _, hK, en.step st, hy, fun v2 H2 F2 st2 rv2 => ?_⟩⟩
    obtain ⟨ad, kvs, rfl, h1, h2, h3⟩ := rv2
    subst h2
    have := keyD_of rv hk
    subst this
    refine ⟨ad, _, rfl, .inl ⟨kvs, kk, h1, rfl, rfl⟩, ?_⟩
    rw [← look_is h3]
    exact (k.step (st.trans st2)).bl st2.fh
  · exact .inl (d2_of (r_in true) ⟨Φ, δ, F, t, hK, en, by unfold d2; rw [hx, hy]; exact hf, k⟩)
theorem do_in {k : Nat} (hr : Room k X.A) (ha : DB X a fa) (hb : DB X b fb) (hm : behindInMarks .In b = false := by with_unfolding_all rfl) : DO X (.Compare a [.In] [b] pos) (d2 (gInA false) fa fb) :=
  PE.mono (PE.or (pe_cmpR op_inA ha hb hm) (pe_cmp (pc_din (hu_of hr) ha hb) hm)) fun σ H Q h => in_of h
theorem do_notin {k : Nat} (hr : Room k X.A) (ha : DB X a fa) (hb : DB X b fb) (hm : behindInMarks .NotIn b = false := by with_unfolding_all rfl) : DO X (.Compare a [.NotIn] [b] pos) (d2 (gInA true) fa fb) :=
  PE.mono (PE.or (pe_cmpR op_notInA ha hb hm) (pe_cmp (pc_dnotin (hu_of hr) ha hb) hm)) fun σ H Q h => notin_of h
theorem PT.or {X : Cx} {e : Expr} {t t' : TT} (h : PT X e t) (h' : PT X e t') : PT X e (fun σ H Q => t σ H Q ∨ t' σ H Q) := fun pins s σ H Q I q => q.elim (h pins s σ H Q I) (h' pins s σ H Q I)
theorem tTr_o {K : PySem.W.Frag} {g : Dt → Dt → Option T} {σ : St} {H : Hp} {Q : Bool → Hp → Prop} (h : tTr K (tB2 g fa fb) σ H Q) : tO K (d2 g fa fb) σ H (fun v H' => ∃ c, v = .bl c ∧ Q c H') := by
  obtain ⟨Φ, δ, F, t, hK, en, hf, k⟩ := h
  unfold tB2 at hf
  obtain ⟨z, hz, hf⟩ := Option.bind_eq_some_iff.mp hf
  exact ⟨Φ, δ, F, z, hK, en, hz, fun v H' F' S st o hs => ⟨t, asB_own hf o, k H' F' st⟩⟩
theorem dt_in {k : Nat} (hr : Room k X.A) (ha : DB X a fa) (hb : DB X b fb) (hm : behindInMarks .In b = false := by with_unfolding_all rfl) : DT X (.Compare a [.In] [b] pos) (tB2 (gInA false) fa fb) :=
  PT.mono (PT.or (pt_cmpR op_inA ha hb hm) (pt_cmp (pc_din (hu_of hr) ha hb) hm)) fun σ H Q h => in_of (tTr_o h)
theorem dt_notin {k : Nat} (hr : Room k X.A) (ha : DB X a fa) (hb : DB X b fb) (hm : behindInMarks .NotIn b = false := by with_unfolding_all rfl) : DT X (.Compare a [.NotIn] [b] pos) (tB2 (gInA true) fa fb) :=
  PT.mono (PT.or (pt_cmpR op_notInA ha hb hm) (pt_cmp (pc_dnotin (hu_of hr) ha hb) hm)) fun σ H Q h => notin_of (tTr_o h)
def vDnew : De → Option T := fun _ => some (.dct [])
theorem do_dnew : DO X (.Dict [] [] pos) vDnew := PE.mono pe_dnewK fun σ H Q ⟨Φ, δ, F, t, hK, en, hf, k⟩ => by
  cases hf
  intro p hp
  refine k _ _ F (fun b => b = p) (Step.made en.fh hp) ⟨p, [], rfl, rfl, upd_same, rfl, by simp [Reps]⟩ fun b z => ?_
  subst z
  exact ⟨en.fh.free hp, hp, _, upd_same⟩
def putD {κ : Type} [DecidableEq κ] : List (κ × Dt) → κ → Dt → List (κ × Dt)
  | [], k, d => [(k, d)]
  | p :: l, k, d => if p.1 = k then (p.1, d) :: l else p :: putD l k d
def sPut (i : Nat) (fk fe : De → Option Dt) : De → Option Out := fun δ => (fe δ).bind fun d => (fk δ).bind fun k => match δ[i]? with
  | some (some (.lst l)) => (asI k).bind fun n => (ixN l.length n).map fun j => .nx (δ.set i (some (.lst (l.set j d))))
  | some (some (.dct l)) => (keyD k).bind fun k => if l.length < sizeLine ∧ (l.map (·.1)).Nodup then some (.nx (δ.set i (some (.dct (putD l k d))))) else none
  | _ => none
theorem putK_eq {κ : Type} [DecidableEq κ] (k : κ) (v : V) : ∀ (kvs : List (κ × V)) (l : List (κ × Dt)) (d : Dt), (kvs.map (·.1)).Nodup → kvs.map (·.1) = l.map (·.1) → (putK kvs k v).map (·.1) = (putD l k d).map (·.1) ∧
    ∀ (K : PySem.W.Frag) (F : Hp), Rep K F d v → Reps K F (l.map (·.2)) (kvs.map (·.2)) → Reps K F ((putD l k d).map (·.2)) ((putK kvs k v).map (·.2)) := by
  have key : ∀ (kvs : List (κ × V)), (kvs.map (·.1)).Nodup → putK kvs k v = match kvs with | [] => [(k, v)] | p :: r => if p.1 = k then (p.1, v) :: r else p :: putK r k v := fun kvs hn => by
    cases kvs with
    | nil => rfl
    | cons p r =>
      dsimp only
      by_cases hp : p.1 = k
      · rw [if_pos hp]
        unfold putK
        rw [if_pos (by simp [hp])]
        simp only [List.map_cons, if_pos hp]
        congr 1
        have hk : ∀ q ∈ r, ¬ q.1 = k := fun q hq z => by
          have := (List.nodup_cons.mp hn).1
          exact this (show p.1 ∈ r.map (·.1) by rw [hp, ← z]; exact List.mem_map_of_mem hq)
        exact (List.map_congr_left fun q hq => if_neg (hk q hq)).trans (List.map_id' r)
      · rw [if_neg hp]
        unfold putK
        have e : (p :: r).any (fun kv => decide (kv.1 = k)) = r.any fun kv => decide (kv.1 = k) := by simp [hp]
        rw [e]
        split
        · simp only [List.map_cons, if_neg hp]
        · rfl
  intro kvs
  induction kvs with
  | nil =>
    intro l d hn he
    cases l with
    | nil => exact ⟨rfl, fun K F r _ => by simpa [putD, putK] using Reps.one r⟩
    | cons q l => cases he
  | cons p r ih =>
    intro l d hn he
    cases l with
    | nil => cases he
    | cons q l =>
      simp only [List.map_cons, List.cons.injEq] at he
      have hn' := (List.nodup_cons.mp hn).2
      rw [key _ hn]
      simp only [putD]
      rw [← he.1]
      by_cases hp : p.1 = k
      · rw [if_pos hp, if_pos hp]
        refine ⟨by simp [he.2], fun K F rd rs => ?_⟩
        simp only [List.map_cons, Reps] at rs ⊢
        obtain ⟨w, ws, hw, r1, r2⟩ := rs
        cases hw
        exact ⟨_, _, rfl, rd, r2⟩
      · rw [if_neg hp, if_neg hp]
        obtain ⟨i1, i2⟩ := ih l d hn' he.2
        refine ⟨by simp [he.1, i1], fun K F rd rs => ?_⟩
        simp only [List.map_cons, Reps] at rs ⊢
        obtain ⟨w, ws, hw, r1, r2⟩ := rs
        cases hw
        exact ⟨_, _, rfl, r1, i2 K F rd r2⟩
theorem PS.or {X : Cx} {e : Stmt} {t t' : TS} (h : PS X e t) (h' : PS X e t') : PS X e (fun σ H Q => t σ H Q ∨ t' σ H Q) := fun pins s σ H Q I q => q.elim (h pins s σ H Q I) (h' pins s σ H Q I)
theorem En.ownD {Φ : Fm} {δ : De} {σ : St} {F H : Hp} (en : En Φ δ σ F H) {l : List (Key × Dt)} (h : δ[i]? = some (some (.dct l))) : ∃ a kvs, σ[i]? = some (some (.ref a)) ∧ H a = some (.dK kvs) ∧ kvs.map (·.1) = l.map (·.1) ∧ Reps Φ.K F (l.map (·.2)) (kvs.map (·.2)) := by
  obtain ⟨v, hv⟩ := en.has i _ h
  obtain ⟨S, s⟩ := en.sep
  obtain ⟨a, vs, rfl, _, h1, h2, h3⟩ := s.own i _ v (liveS_of h hv)
  exact ⟨a, vs, hv, h1, h2, h3⟩
theorem ds_put {k : Nat} {ox ik : Expr} (hr : Room k X.A) (hx : PE X ox (tVar i)) (hk : DB X ik fk) (he : DL X e fe)
    (hs : swapsWith e (some (.Subscript ox ik apos)) pos.line X.env = pure false := by rfl)
    (hs1 : swapsWithSole [.Subscript ox ik apos] e pos.line X.env = pure false := by rfl) (hw : swappedStores [.Subscript ox ik apos] e X.env = pure none := by rfl)
    (h1 : (assignEach [.Subscript ox ik apos] X.env).map (·.2) = [assign (.Subscript ox ik apos) X.env] := by rfl)
    (ha : ∀ v, assign (.Subscript ox ik apos) X.env v = (do
      let ov ← holding [v] (eval ox X.env)
      let iv ← holding [v, ov] (eval ik X.env)
      standAt apos
      holding [v, ov, iv] (setItem ov iv v)
      release [v, ov, iv] []) := by intro _; rfl) : DS1 X (.Assign [.Subscript ox ik apos] e pos) (sPut i fk fe) :=
  PS.mono (PS.or (ps_asg he (pg_sub hx hk set_list ha) hs1 hw h1) (ps_dput (hu_of hr) hx hk he hs)) fun D σ H ⟨Φ, δ, F, ot, hK, en, hg, k⟩ => by
    unfold sPut at hg
    obtain ⟨d, hd, hg⟩ := Option.bind_eq_some_iff.mp hg
    obtain ⟨kd, hkd, hg⟩ := Option.bind_eq_some_iff.mp hg
    split at hg <;> first | (cases hg; done) | skip
    · rename_i l hl
      obtain ⟨n, hn, hg⟩ := Option.bind_eq_some_iff.mp hg
      obtain ⟨j, hj, hg⟩ := Option.map_eq_some_iff.mp hg
      cases hg
      refine .inl ⟨Φ, δ, F, d, hK, en, hd, fun v H1 F1 st rv => ?_⟩
      have en1 := en.step st
      obtain ⟨a, vs, hv, h1, h2⟩ := en1.ownL hl
      refine ⟨.ref a, hv, Φ, δ, F1, kd, hK, en1, hkd, fun w H2 F2 st2 rw' => ?_⟩
      have en2 := en1.step st2
      refine ⟨a, vs, n, j, rfl, repB_int hn rw', st2.hh _ _ h1, by rw [h2.length]; exact hj, ?_⟩
      exact k σ F2 _ (en2.poke hl hv (fun d z => nomatch z) fun S sa => ⟨a, _, rfl, sa, upd_same, Reps.set (hK ▸ rv.same st2.ff) j (h2.same st2.ff)⟩)
    · rename_i l hl
      obtain ⟨kk, hkk, hg⟩ := Option.bind_eq_some_iff.mp hg
      split at hg <;> first | (cases hg; done) | skip
      rename_i hc
      cases hg
      refine .inr ⟨Φ, δ, F, d, hK, en, hd, fun v H1 F1 st rv => ?_⟩
      have en1 := en.step st
      obtain ⟨a, kvs, hv, h1, h2, h3⟩ := en1.ownD hl
      refine ⟨.ref a, hv, Φ, δ, F1, kd, hK, en1, hkd, fun w H2 F2 st2 rw' => ?_⟩
      have en2 := en1.step st2
      have := keyD_of rw' hkk
      subst this
      have hlen : kvs.length = l.length := by simpa using congrArg List.length h2
      refine ⟨a, _, rfl, .inl ⟨kvs, kk, st2.hh _ _ h1, rfl, by rw [hlen]; exact hc.1, rfl⟩, ?_⟩
      obtain ⟨p1, p2⟩ := putK_eq kk v kvs l d (by rw [h2]; exact hc.2) h2
      exact k σ F2 _ (en2.poke hl hv (fun d z => nomatch z) fun S sa => ⟨a, _, rfl, sa, upd_same, p1, p2 _ _ (hK ▸ rv.same st2.ff) (h3.same st2.ff)⟩)
def gStrA : List Dt → Option T
  | [.str x] => some (.leaf (.str x))
  | ds => gStr ds
theorem call_str_str : CallR X (.type "str") (fun xs H Q => ∃ x, xs = [.str x] ∧ Q (.str x) H) := by
  intro pins s σ H xs us Q I r h
  obtain ⟨y, rfl, q⟩ := h
  obtain ⟨u, rfl, ru⟩ := vals1 r
  obtain ⟨t, rfl⟩ := ru
  exact PySem.P.str_of_str ⟨.str y, H, I, ⟨_, rfl⟩, q⟩
abbrev rStrA : List V → Hp → VK → Prop := fun xs H Q => (∃ x, xs = [.str x] ∧ Q (.str x) H) ∨ ∃ i, xs = [.int i] ∧ i.natAbs.log2 < 1920 ∧ Q (.str (toString i)) H
theorem call_strA : CallR X (.type "str") rStrA := CallR.or call_str_str call_str_int
theorem c_strA {K : PySem.W.Frag} : CRD K rStrA gStrA := by
  intro F H ds vs Q t fh r hg k
  unfold gStrA at hg
  split at hg
  · cases hg
    obtain ⟨v, rfl, rv⟩ := repBs1 r
    cases rv
    exact .inl ⟨_, rfl, k.str fh⟩
  · exact .inr (c_str F H ds vs Q t fh r hg k)
def sNever : De → Option Out := fun _ => none
theorem ds_never {st : Stmt} : DS1 X st sNever := fun pins s σ H D I h => by
  obtain ⟨Φ, δ, F, o, hK, en, hg, k⟩ := h
  cases hg
end
end L2

namespace L2
open PySem PySem.Spec PyProof.Rows
section
variable {prog : Program} {w : World} {A : Around} {E : Value → Shared → Prop} {s : Shared} {I t : Addr} {j : Nat} {vs : Array Value}
theorem nextT_item {y : Value} {Q : Value → Shared → Prop} (hI : s.heap.IsTupleIter I t j) (hv : s.heap.IsTuple t vs) (hy : vs[j]? = some y)
    (q : ∀ h', h'.IsTupleIter I t (j + 1) → Heap.SameBut I s.heap h' → Q y { s with heap := h' }) : wpAny (model prog w) A (Builtin.SmallTypes.nextOf (.ref I)) Q E s := by
  obtain ⟨oi, hoi, hci, hdi⟩ := id hI
  obtain ⟨ot, hot, _, nt, hdt⟩ := hv
  unfold Builtin.SmallTypes.nextOf
  refine wpAny_bind (wpAny_callSpecial?_slot (name := Str.ofString "__next__") hI.typeIs F.slot_tuple_iterator_next (wpAny_call_entry F.slot_tuple_iterator_next hI.typeIs F.entry_tuple_iterator_next ?_ (F.args_tuple_iterator_next_1 _)))
  show wpAny _ _ (field (.ref I) 0 >>= _) _ _ s
  refine wpAny_bind (wpAny_field hoi hdi (x := .ref t) rfl ?_)
  show wpAny _ _ (if (Value.ref t == Value.none) = true then _ else _) _ _ s
  rw [if_neg (show ¬ (Value.ref t == Value.none) = true by exact Bool.false_ne_true)]
  show wpAny _ _ (field (.ref I) 1 >>= _) _ _ s
  refine wpAny_bind (wpAny_field hoi hdi (x := .int j 0) rfl ?_)
  show wpAny _ _ (seqItems? (.ref t) >>= _) _ _ s
  refine wpAny_bind (wpAny_seqItems hot hdt ?_)
  simp only [Int.toNat_natCast, hy]
  refine wpAny_bind (wpAny_setField hoi hdi (by simp) (wpAny_pure ⟨y, rfl, wpAny_pure (q _ ?_ (Heap.SameBut.update ..))⟩))
  exact ⟨_, Heap.get?_update_self _ hoi (Obj.isFreed_of_fields (Obj.data_mapFields hdi _)), (Obj.cls_mapFields ..).trans hci, by rw [Obj.data_mapFields hdi]; simp [rawInt]⟩
theorem nextT_end {Q : Value → Shared → Prop} (hh : A.handled = none) (hI : s.heap.IsTupleIter I t j) (hv : s.heap.IsTuple t vs) (hy : vs[j]? = none)
    (q : ∀ h' e, Heap.ExtBut I s.heap h' → (∃ o, h'.get? e = some o ∧ o.cls = .type "StopIteration") → E (.ref e) { s with heap := h' }) : wpAny (model prog w) A (Builtin.SmallTypes.nextOf (.ref I)) Q E s := by
  obtain ⟨oi, hoi, hci, hdi⟩ := id hI
  obtain ⟨ot, hot, _, nt, hdt⟩ := hv
  unfold Builtin.SmallTypes.nextOf
  refine wpAny_bind (wpAny_callSpecial?_slot (name := Str.ofString "__next__") hI.typeIs F.slot_tuple_iterator_next (wpAny_call_entry F.slot_tuple_iterator_next hI.typeIs F.entry_tuple_iterator_next ?_ (F.args_tuple_iterator_next_1 _)))
  show wpAny _ _ (field (.ref I) 0 >>= _) _ _ s
  refine wpAny_bind (wpAny_field hoi hdi (x := .ref t) rfl ?_)
  show wpAny _ _ (if (Value.ref t == Value.none) = true then _ else _) _ _ s
  rw [if_neg (show ¬ (Value.ref t == Value.none) = true by exact Bool.false_ne_true)]
  show wpAny _ _ (field (.ref I) 1 >>= _) _ _ s
  refine wpAny_bind (wpAny_field hoi hdi (x := .int j 0) rfl ?_)
  show wpAny _ _ (seqItems? (.ref t) >>= _) _ _ s
  refine wpAny_bind (wpAny_seqItems hot hdt ?_)
  simp only [Int.toNat_natCast, hy]
  refine wpAny_bind (wpAny_rule (wpAny_bind (wpAny_setField hoi hdi (by simp) ?_)))
  show wpAny _ _ (newExc (.type "StopIteration") [] >>= _) _ _ _
  refine wpAny_bind ?_
  simp only [newExc, newTuple]
  refine wpAny_bind (wpAny_newObj_type ?_ (by first | size_fits | decide))
  refine wpAny_bind (m := firstArgMember _ _) (wpAny_of_eq (a := Value.none) (by first | rfl | (simp only [firstArgMember] <;> rfl)) ?_)
  refine wpAny_newObj_type ?_ (by first | size_fits | decide)
  simp only [raiseNew]
  refine wpAny_bind (wpAny_handled ?_)
  first | rw [hh] | rw [show A.in1.handled = none by exact hh]
  refine wpAny_bind (wpAny_pure (wpAny_throw ?_))
  exact q _ _ (((Heap.SameBut.update ..).extBut.push _).push _) ⟨_, Heap.get?_push_size _ rfl, rfl⟩
end
theorem draws_tuple {prog : Program} {w : World} {A : Around} (hh : A.handled = none) (I t : Addr) (hne : t ≠ I) (vs : Array Value) : Draws prog w A I [I, t] vs.size (fun i v => vs[i]? = some v) (fun i h => h.IsTupleIter I t i ∧ h.IsTuple t vs) where
  live := fun _ _ st => let ⟨o, ho, _⟩ := st.1; ⟨o, ho⟩
  frame := fun _ _ _ st hk => ⟨let ⟨o, ho, r⟩ := st.1; ⟨o, hk I (by simp) o ho, r⟩, let ⟨o, ho, r⟩ := st.2; ⟨o, hk t (by simp) o ho, r⟩⟩
  item := fun i s Q E hi st hQ => nextT_item st.1 st.2 (y := vs[i]) (by simp [hi]) fun h' a b => hQ _ h' s.toks (by simp [hi]) ⟨a, let ⟨o, ho, r⟩ := st.2; ⟨o, b.extBut _ _ hne ho, r⟩⟩ b
  done := fun s Q E st hE => nextT_end hh st.1 st.2 (by simp) hE
def SqB (b : Bool) (K : PySem.W.Frag) (H : Hp) (a : Addr) (xs : List V) : Prop := match b with
  | true => SqL K H a xs
  | false => SqT K H a xs
def ItB (b : Bool) (h : Heap) (I a : Addr) (i : Nat) : Prop := match b with
  | true => h.IsListIter I a i
  | false => h.IsTupleIter I a i
def CoB (b : Bool) (h : Heap) (a : Addr) (vs : Array Value) : Prop := match b with
  | true => h.IsList a vs
  | false => h.IsTuple a vs
theorem ItB.obj {b : Bool} {h : Heap} {I a : Addr} {i : Nat} (x : ItB b h I a i) : ∃ o, h.get? I = some o ∧ (o.cls = .type "list_iterator" ∨ o.cls = .type "tuple_iterator") ∧ ∀ v, o.data ≠ .cell v := by
  cases b with
  | true => obtain ⟨o, e, c, d⟩ := x; exact ⟨o, e, .inl c, fun v z => by rw [d] at z; cases z⟩
  | false => obtain ⟨o, e, c, d⟩ := x; exact ⟨o, e, .inr c, fun v z => by rw [d] at z; cases z⟩
theorem ItB.at {b : Bool} {h h' : Heap} {I a : Addr} {i : Nat} (x : ItB b h I a i) (k : ∀ o, h.get? I = some o → h'.get? I = some o) : ItB b h' I a i := by
  cases b with
  | true => obtain ⟨o, e, r⟩ := x; exact ⟨o, k o e, r⟩
  | false => obtain ⟨o, e, r⟩ := x; exact ⟨o, k o e, r⟩
theorem CoB.obj {b : Bool} {h : Heap} {a : Addr} {vs : Array Value} (x : CoB b h a vs) : ∃ o, h.get? a = some o ∧ (o.cls = .type "list" ∨ o.cls = .type "tuple") := by
  cases b with
  | true => obtain ⟨o, e, c, _⟩ := x; exact ⟨o, e, .inl c⟩
  | false => obtain ⟨o, e, c, _⟩ := x; exact ⟨o, e, .inr c⟩
theorem ty_ne {x y : String} (h : x ≠ y) : Value.type x ≠ Value.type y := fun z => h (by cases z; rfl)
theorem apartB {b c : Bool} {h : Heap} {I a l : Addr} {i : Nat} {vs : Array Value} (x : ItB b h I a i) (y : CoB c h l vs) : l ≠ I := by
  obtain ⟨o, e1, c1, _⟩ := x.obj
  obtain ⟨o', e2, c2⟩ := y.obj
  rintro rfl
  rw [e1] at e2
  cases e2
  rcases c1 with c1 | c1 <;> rcases c2 with c2 | c2 <;> rw [c1] at c2 <;> exact absurd c2 (ty_ne (by decide))
section
variable {X : Cx} {pins : List (Addr × Obj)} {σ : St} {H : Hp} {s : Shared} {a I : Addr} {xs : List V} {b : Bool}
theorem Inv.seqB (J : Inv X pins σ H s) (h : SqB b X.K H a xs) : ∃ its : List Value, Vals xs its ∧ CoB b s.heap a its.toArray := by
  cases b with
  | true => obtain ⟨its, r, p, _⟩ := J.list h; exact ⟨its, r, p.isList⟩
  | false => obtain ⟨its, r, p, _⟩ := J.tuple h; exact ⟨its, r, p⟩
theorem Inv.seqB_inj {ys : List V} (J : Inv X pins σ H s) (h : SqB b X.K H a xs) (h' : SqB b X.K H a ys) : xs = ys := by
  cases b with
  | true => exact J.list_inj h h'
  | false => exact J.tuple_inj h h'
theorem drawsB {prog : Program} {w : World} {A : Around} (hh : A.handled = none) (hne : a ≠ I) (vs : Array Value) : Draws prog w A I [I, a] vs.size (fun i v => vs[i]? = some v) (fun i h => ItB b h I a i ∧ CoB b h a vs) := by
  cases b with
  | true => exact Draws.list hh I a hne vs
  | false => exact draws_tuple hh I a hne vs
theorem Inv.turnedL {h' : Heap} {t' : Nat} {fp : List Addr} (J : Inv X pins σ H s) (k : ∀ b o, b ∉ fp → s.heap.get? b = some o → h'.get? b = some o) (hf : ∀ b ∈ fp, FpOk X pins H b) : Inv X pins σ H { s with heap := h', toks := t' } := by
  have nit : ∀ b u, H b = some u → b ∉ fp := fun b u e z => by rw [(hf b z).1] at e; cases e
  refine J.step (g' := s.gens) (d' := s.drawn) (ch := fp) (fun b hb => ?_) (fun b o _ _ hc e _ => k b o hc e) (fun b o _ _ hc e _ => ⟨o.slots, k b o hc e⟩) (fun _ _ _ _ n => n)
    (fun b o hc e => ⟨o, k b o hc e⟩) (fun _ _ e => e) (fun _ _ _ e => e) (fun b ps e => ⟨#[], by rw [e]; simp⟩) (fun m hm => ?_) (fun b u e => ?_) J.bare
  · exact ⟨(hf b hb).2.2.2.1, (hf b hb).2.1, (hf b hb).2.2.2.2.1, (hf b hb).2.2.2.2.2⟩
  · obtain ⟨o, es, ep, ho, r⟩ := hm
    exact ⟨o, es, ep, k _ o (fun z => (hf _ z).2.1 rfl) ho, r⟩
  · refine (J.hok b u e).stay (fun c v hc q => k c v ?_ q) (fun _ q => q) fun _ _ q => q
    rcases hc with z | z
    · rw [z]; exact nit b u e
    · exact nit c _ z
end
section
variable {X : Cx} {pins : List (Addr × Obj)} {σ : St} {H : Hp} {s : Shared}
theorem Inv.turnedT {h' : Heap} {t' : Nat} {fp : List Addr} {t : Addr} {u : HO} (J : Inv X pins σ H s) (k : ∀ b o, b ∉ fp → s.heap.get? b = some o → h'.get? b = some o) (hf : ∀ b ∈ fp, FpOk X pins H b) (ht : s.heap.objs.size ≤ t) (new : ObjOk X.prog X.w (upd H t u) h' t u) :
    Inv X pins σ (upd H t u) { s with heap := h', toks := t' } := by
  have nit : ∀ b u, H b = some u → b ∉ fp := fun b u e z => by rw [(hf b z).1] at e; cases e
  have hn : H t = none := J.hok.fresh ht
  have net : ∀ b v, H b = some v → b ≠ t := fun b v e => ne_of_none e hn
  have nlt : ∀ b o, s.heap.get? b = some o → b ≠ t := fun b o e z => by subst z; exact absurd (Heap.lt_size e) (Nat.not_lt.mpr ht)
  refine J.step (g' := s.gens) (d' := s.drawn) (ch := fp) (fun b hb => ?_) (fun b o _ _ hc e _ => k b o hc e) (fun b o _ _ hc e _ => ⟨o.slots, k b o hc e⟩) (fun b o _ e n => by rw [upd_ne (nlt b o e)]; exact n)
    (fun b o hc e => ⟨o, k b o hc e⟩) (fun b xs e => by rw [upd_ne (net b _ e)]; exact e) (fun b o v e => by rw [upd_ne (net b _ e)]; exact e) (fun b ps e => ⟨#[], by rw [upd_ne (net b _ e), e]; simp⟩) (fun m hm => ?_) (fun b v e => ?_) J.bare
  · exact ⟨(hf b hb).2.2.2.1, (hf b hb).2.1, (hf b hb).2.2.2.2.1, (hf b hb).2.2.2.2.2⟩
  · obtain ⟨o, es, ep, ho, r⟩ := hm
    exact ⟨o, es, ep, k _ o (fun z => (hf _ z).2.1 rfl) ho, r⟩
  · by_cases hb : b = t
    · subst hb
      rw [upd_same] at e
      cases e
      exact new
    · rw [upd_ne hb] at e
      refine (J.hok b v e).stay (fun c ob hc q => k c ob ?_ q) (fun c q => by rw [upd_ne (net c _ q)]; exact q) fun c ys q => by rw [upd_ne (net c _ q)]; exact q
      rcases hc with z | z
      · rw [z]; exact nit b v e
      · exact nit c _ z
end
def Ite (b : Bool) (K : PySem.W.Frag) (a : Addr) : It :=
  ⟨fun i H => ∃ xs x, SqB b K H a xs ∧ xs[i]? = some x, fun i H x H' => ∃ t v, H t = none ∧ x = .ref t ∧ H' = upd H t (.tup [.int i, v]) ∧ ∀ xs, SqB b K H a xs → xs[i]? = some v, fun i H => ∃ xs, SqB b K H a xs ∧ xs.length = i⟩
theorem turn_enum {P : Program} {w : World} {K : PySem.W.Frag} {elts : List Expr} {n : Nat} {pos : Pos} (b : Bool) (a e I : Addr) (hne : e ≠ I) :
    Turn P w K (.Tuple elts n pos) (Ite b K a) [e, I] e (fun i h => (∃ old, IsEnum h e I i old) ∧ ItB b h I a i) where
  mem := by simp
  obj := fun i h st c hc => by
    obtain ⟨⟨old, st1⟩, st2⟩ := st
    simp only [List.mem_cons, List.not_mem_nil, or_false] at hc
    rcases hc with rfl | rfl
    · exact ⟨_, st1, fun v z => nomatch z⟩
    · obtain ⟨o, q, _, d⟩ := st2.obj
      exact ⟨o, q, d⟩
  keep := fun i h h' st k => by
    obtain ⟨⟨old, st1⟩, st2⟩ := st
    exact ⟨⟨old, k e (by simp) _ st1⟩, st2.at fun o q => k I (by simp) o q⟩
  item := by
    intro X hP hw hK hc i pins s σ H E J hf st hg
    subst hP hw hK
    obtain ⟨⟨old, st1⟩, st2⟩ := st
    obtain ⟨xs, x, hq, hx⟩ := hg
    obtain ⟨its, rv, co⟩ := J.seqB hq
    obtain ⟨u, hu, ru⟩ := rv.get hx
    have hi : i < its.toArray.size := by simpa using (List.getElem?_eq_some_iff.mp hu).1
    have hae : e ∉ [I, a] := by
      simp only [List.mem_cons, List.not_mem_nil, or_false, not_or]
      refine ⟨hne, fun z => ?_⟩
      obtain ⟨o, q, c⟩ := co.obj
      rw [← z, st1] at q
      cases q
      rcases c with c | c <;> exact absurd c (ty_ne (by decide))
    refine wpAny_pyNext_enum_itemD (drawsB (A := X.A.in1) (b := b) (I := I) (a := a) (show X.A.in1.handled = none from J.ok.hd hc) (apartB st2 co) its.toArray) st1 ⟨st2, co⟩ hi hne hae fun y h1 tk hy ho hs1 hT hsz hk => ⟨_, rfl, ?_⟩
    have ey : y = u := by
      rw [show its.toArray[i]? = its[i]? by simp, hu] at hy
      exact (Option.some.inj hy).symm
    subst ey
    refine wpAny_letOwnedTupleGo_enum ho fun h2 he2 sb2 => ?_
    have kk : ∀ c o, c ∉ [e, I] → s.heap.get? c = some o → h2.get? c = some o := fun c o hc' q => by
      simp only [List.mem_cons, List.not_mem_nil, or_false, not_or] at hc'
      exact (sb2.2 c hc'.1).trans (hk c o hc'.1 hc'.2 q)
    have lt : ∀ c ∈ [e, I], c < s.heap.objs.size := fun c hc' => by
      simp only [List.mem_cons, List.not_mem_nil, or_false] at hc'
      rcases hc' with rfl | rfl
      · exact Heap.lt_size st1
      · obtain ⟨o, q, _⟩ := st2.obj
        exact Heap.lt_size q
    -- first the records, then the pair
    have hT2 : h2.get? s.heap.objs.size = some { cls := .type "tuple", data := .seq #[.int i tk, y] } := (sb2.2 _ (fun z => Nat.lt_irrefl _ (z ▸ lt e (by simp)))).trans hT
    have J2 : Inv X pins σ (upd H s.heap.objs.size (.tup [.int i, x])) { s with heap := h2, toks := tk + 1 } := by
      refine J.turnedT kk hf (Nat.le_refl _) ⟨by show 2 ≤ sizeLine; decide, [.int i tk, y], .cons ⟨_, rfl⟩ (.cons ru .nil), ?_⟩
      exact ⟨_, hT2, rfl, _, rfl⟩
    refine ⟨.ref s.heap.objs.size, _, J2, rfl, ⟨_, x, J.hok.fresh (Nat.le_refl _), rfl, rfl, fun ys hy => by rw [J.seqB_inj hy hq]; exact hx⟩, ⟨⟨_, by simpa using he2⟩, hs1.1.at fun o q => (sb2.2 I (Ne.symm hne)).trans q⟩, fun c hc' => ?_⟩
    rw [upd_ne (Nat.ne_of_lt (lt c hc'))]
    exact (hf c hc').1
  done := by
    intro X hP hw hK hc i pins s σ H E J hf st hg
    subst hP hw hK
    obtain ⟨⟨old, st1⟩, st2⟩ := st
    obtain ⟨xs, hq, hx⟩ := hg
    obtain ⟨its, rv, co⟩ := J.seqB hq
    have hi : i = its.toArray.size := by rw [← hx]; simpa using rv.length
    refine wpAny_pyNext_enum_endD (drawsB (A := X.A.in1) (b := b) (I := I) (a := a) (show X.A.in1.handled = none from J.ok.hd hc) (apartB st2 co) its.toArray) st1 (show ItB b s.heap I a its.toArray.size ∧ CoB b s.heap a its.toArray from ⟨hi ▸ st2, co⟩) fun h' eb => ⟨rfl, ?_⟩
    exact J.turnedL (t' := s.toks) (fun c o hc' q => eb c o (fun z => hc' (by simp [z])) q) hf
  self := fun A i s Q E st h => by
    obtain ⟨⟨old, st1⟩, st2⟩ := st
    exact wpAny_pyIter_enum st1 h
theorem meets_enumT (t : Addr) (vs : Array Value) (n : Nat) (dd : Option Addr) (sl : Array (Option Value)) :
    Meets (Builtin.«enumerate.__new__» ⟨[.type "enumerate", .ref t], []⟩) (fun _ R s => s.heap.get? t = some { cls := .type "tuple", dict := dd, data := .seq vs n, slots := sl } ∧
      R (.ok (.ret (.ref (s.heap.push { cls := .type "tuple_iterator", data := .fields #[.ref t, .int 0 0] }).objs.size)))
        { s with heap := (s.heap.push { cls := .type "tuple_iterator", data := .fields #[.ref t, .int 0 0] }).push { cls := .type "enumerate", data := .fields #[.none, .bool false, .ref s.heap.objs.size, rawInt 0, .none, .none] } }) :=
  .of_wp fun prog w A R s h => by
    obtain ⟨hp, g, d, tk, os⟩ := s
    obtain ⟨ht, h⟩ := h
    have hsub := sub_enumerate
    have hT : Heap.IsTuple (Shared.heap ⟨hp, g, d, tk, os⟩) t vs := ⟨_, ht, rfl, n, rfl⟩
    wp_walk using AutoSeq1.wpAny_loadPart' ht
    refine wpAny_stack_any fun st => wpAny_pure ?_
    split
    · rename_i c _ _ _ _ _
      cases (c == Value.type "enumerate") <;> (wp_walk using AutoSeq1.wpAny_loadPart' ht, wpAny_pyIter_tuple hT) <;> exact ⟨_, rfl, h⟩
    · (wp_walk using AutoSeq1.wpAny_loadPart' ht, wpAny_pyIter_tuple hT) <;> exact ⟨_, rfl, h⟩
section
variable {prog : Program} {w : World} {A : Around} {E : Value → Shared → Prop} {s : Shared}
theorem call_enumT {t : Addr} {vs : Array Value} {Q : Value → Shared → Prop} (hT : s.heap.IsTuple t vs)
    (h : ∀ h', IsEnum h' (s.heap.objs.size + 1) s.heap.objs.size 0 .none → h'.IsTupleIter s.heap.objs.size t 0 → h'.objs.size = s.heap.objs.size + 2 →
      (∀ c u, s.heap.get? c = some u → h'.get? c = some u) → Q (.ref (s.heap.objs.size + 1)) { s with heap := h' }) :
    wpAny (model prog w) A (call (.type "enumerate") [.ref t]) Q E s := by
  obtain ⟨⟨c, dct, dt, sl⟩, hl, hc, n, hd⟩ := hT
  have hc : c = .type "tuple" := hc
  have hd : dt = .seq vs n := hd
  subst hc hd
  refine callType_new F.called_enumerate (by decide) (F.typeCall_enumerate_1 _) (F.newCall_enumerate_1 _) (fun obj => F.args_object_init_2 obj _) F.entry_enumerate_new (meets_enumT t vs n dct sl) ⟨hl, ?_⟩
  have hz : (s.heap.push { cls := .type "tuple_iterator", data := .fields #[.ref t, .int 0 0] }).objs.size = s.heap.objs.size + 1 := Heap.size_push ..
  have hz2 : ((s.heap.push { cls := .type "tuple_iterator", data := .fields #[.ref t, .int 0 0] }).push { cls := .type "enumerate", data := .fields #[.none, .bool false, .ref s.heap.objs.size, rawInt 0, .none, .none] }).objs.size = s.heap.objs.size + 2 := by rw [Heap.size_push, hz]
  rw [hz]
  have hen := Heap.get?_push_size (s.heap.push { cls := .type "tuple_iterator", data := .fields #[.ref t, .int 0 0] }) (o := { cls := .type "enumerate", data := .fields #[.none, .bool false, .ref s.heap.objs.size, rawInt 0, .none, .none] }) rfl
  rw [hz] at hen
  exact ⟨⟨_, hen, rfl⟩, h _ hen ⟨_, Heap.get?_push_of_some _ (Heap.get?_push_size _ rfl), rfl, rfl⟩ hz2 fun c u z => Heap.get?_push_of_some _ (Heap.get?_push_of_some _ z)⟩
theorem call_enumB {b : Bool} {t : Addr} {vs : Array Value} {Q : Value → Shared → Prop} (hT : CoB b s.heap t vs)
    (h : ∀ h', IsEnum h' (s.heap.objs.size + 1) s.heap.objs.size 0 .none → ItB b h' s.heap.objs.size t 0 → h'.objs.size = s.heap.objs.size + 2 →
      (∀ c u, s.heap.get? c = some u → h'.get? c = some u) → Q (.ref (s.heap.objs.size + 1)) { s with heap := h' }) :
    wpAny (model prog w) A (call (.type "enumerate") [.ref t]) Q E s := by
  cases b with
  | true => exact call_enumerate_list hT h
  | false => exact call_enumT hT h
end
section
variable {X : Cx} {x : Expr} {p pos tpos : Pos} {sc : Scope} {fs : De → Option (List Dt)} {elts : List Expr} {n : Nat}
def iEnum (K : PySem.W.Frag) (ta : TA) : TI := fun σ H R => ta σ H fun vs H1 => ∃ b a xs, vs = [.ref a] ∧ SqB b K H1 a xs ∧ R (Ite b K a) H1
theorem pi_enum {ta : TA} (h : glOk sc "enumerate" = true) (hm : X.mg "enumerate" = none) (ha : PA X [x] ta) (e1 : ScIs X sc := by rfl) (hs : starEach [x] X.env = [(false, eval x X.env)] := by rfl) :
    PI X (.Tuple elts n tpos) (.Call (.Name "enumerate" p) [x] [] pos) (iEnum X.K ta) := by
  intro pins s σ H R I h'
  refine Call_ (ld_blt I (glD h e1) hm bt_enumerate (PyProof.Rows.callWith_type1 (thn (ha pos pins s σ H _ I h') fun us s1 ⟨vs, H1, I1, r1, q1⟩ => ?_) hs rfl))
  obtain ⟨b, a, xs, rfl, hq, q⟩ := q1
  obtain ⟨u, rfl, ru⟩ := vals1 r1
  cases ru
  obtain ⟨its, rv, co⟩ := I1.seqB hq
  refine call_enumB co fun h2 he hi hz hk => wpAny_pyIter_enum he ?_
  have I2 : Inv X pins σ H1 { s1 with heap := h2 } := I1.kept (t' := s1.toks) hk
  refine ⟨s1.heap.objs.size + 1, [s1.heap.objs.size + 1, s1.heap.objs.size], _, _, H1, rfl, I2, turn_enum b a _ _ (Nat.ne_of_gt (Nat.lt_succ_self _)), ⟨⟨_, he⟩, hi⟩, fun c hc => ?_, q⟩
  have hge : s1.heap.objs.size ≤ c := by
    simp only [List.mem_cons, List.not_mem_nil, or_false] at hc
    rcases hc with rfl | rfl
    · exact Nat.le_succ _
    · exact Nat.le_refl _
  exact I1.fpOk hge (I1.hok.fresh hge)
def enumL (i : Nat) : List Dt → List Dt
  | [] => []
  | d :: r => .tup [.int i, d] :: enumL (i + 1) r
theorem enumL_len : ∀ (l : List Dt) (i : Nat), (enumL i l).length = l.length
  | [], _ => rfl
  | _ :: r, i => by simp [enumL, enumL_len r]
theorem enumL_get : ∀ (l : List Dt) (i k : Nat), (enumL i l)[k]? = l[k]?.map fun d => .tup [.int ((i + k : Nat) : Int), d]
  | [], i, k => by simp [enumL]
  | d :: r, i, 0 => by simp [enumL]
  | d :: r, i, k + 1 => by simp [enumL, enumL_get r, Nat.add_assoc, Nat.add_comm 1]
def enumD : List Dt → Option (List Dt)
  | [.lst l] => some (enumL 0 l)
  | [.tup l] => some (enumL 0 l)
  | _ => none
theorem rep_pair {K : PySem.W.Frag} {F : Hp} {d e : Dt} {v w : V} {t : Addr} (h : F t = some (.tup [v, w])) (r : Rep K F d v) (r' : Rep K F e w) : Rep K F (.tup [d, e]) (.ref t) := by
  simp only [Rep, Reps]
  exact ⟨t, _, rfl, SqT.of h, v, [w], rfl, r, w, [], rfl, r', rfl⟩
theorem walk_enum {K : PySem.W.Frag} {F : Hp} {b : Bool} {a : Addr} {xs : List V} {l : List Dt} (r : Reps K F l xs) : WalkD K F (Ite b K a) (enumL 0 l) (fun H => SqB b K H a xs) := fun i H F2 hok fh ff => by
  have hl := r.length
  rw [enumL_len]
  refine ⟨fun h => ⟨xs, xs[i], hok, by simp [show i < xs.length by omega]⟩, fun h => ⟨xs, hok, by omega⟩, fun x H' hi hy => ?_⟩
  obtain ⟨t, v, ht, rfl, rfl, hv⟩ := hy
  have hx := hv xs hok
  obtain ⟨d, hd, rd⟩ := r.same_get hx
  refine ⟨_, upd F2 t (.tup [.int i, v]), ?_, Step.new fh ht, rep_pair upd_same rep_int ((rd.same ff).same (Same.upd (fh.free ht)))⟩
  rw [enumL_get, hd]
  simp
theorem di_enumerate (h : glOk sc "enumerate" = true) (hm : X.mg "enumerate" = none) (ha : DA X [x] fs) (e1 : ScIs X sc := by rfl) (hs : starEach [x] X.env = [(false, eval x X.env)] := by rfl) :
    DIF X (.Tuple elts n tpos) (.Call (.Name "enumerate" p) [x] [] pos) (fRng enumD fs) := PI.mono (pi_enum h hm ha.pa e1 hs) fun σ H R ⟨Φ, δ, F, ds, hK, en, hf, k⟩ => by
  unfold fRng at hf
  obtain ⟨as, hd, hf⟩ := Option.bind_eq_some_iff.mp hf
  refine ⟨Φ, δ, F, as, hK, en, hd, fun vs H' F' st r => ?_⟩
  unfold enumD at hf
  split at hf <;> first | (cases hf; done) | skip
  · cases hf
    simp only [Reps, Rep] at r
    obtain ⟨v, ws, rfl, ⟨a, xs, rfl, h1, h2⟩, rfl⟩ := r
    exact ⟨true, a, xs, rfl, st.fh.seq h1, k _ _ H' F' st (walk_enum (b := true) h2) fun H2 s => s.seq h1⟩
  · cases hf
    simp only [Reps, Rep] at r
    obtain ⟨v, ws, rfl, ⟨a, xs, rfl, h1, h2⟩, rfl⟩ := r
    exact ⟨false, a, xs, rfl, st.fh.tup h1, k _ _ H' F' st (walk_enum (b := false) h2) fun H2 s => s.tup h1⟩
end
end L2

namespace L2
open PySem PySem.Spec PyProof.Rows
structure ZApart (z ti tO i1 i2 : Addr) (fp1 fp2 : List Addr) : Prop where
  zt : ti ≠ z
  zo : tO ≠ z
  to : ti ≠ tO
  m1 : i1 ∈ fp1
  m2 : i2 ∈ fp2
  z1 : z ∉ fp1
  z2 : z ∉ fp2
  o1 : tO ∉ fp1
  o2 : tO ∉ fp2
  t1 : ti ≠ i1
  t2 : ti ≠ i2
  x12 : i1 ∉ fp2
  x21 : i2 ∉ fp1
section
variable {prog : Program} {w : World} {A : Around} {E : Value → Shared → Prop} {s : Shared} {z ti tO i1 i2 : Addr} {fp1 fp2 : List Addr} {n1 n2 k : Nat} {P1 P2 : Nat → Value → Prop} {S1 S2 : Nat → Heap → Prop} {va vb : Value}
theorem ne_of_mem {x y : Addr} {l : List Addr} (h : x ∈ l) (h' : y ∉ l) : x ≠ y := fun e => h' (e ▸ h)
theorem zipG_item {Q : Value → Shared → Prop} (D1 : Draws prog w A i1 fp1 n1 P1 S1) (D2 : Draws prog w A i2 fp2 n2 P2 S2) (D : ZApart z ti tO i1 i2 fp1 fp2)
    (hz : IsZip s.heap z ti tO .none) (hI : IsPair s.heap ti (.ref i1) (.ref i2)) (hO : IsPair s.heap tO va vb) (h1 : S1 k s.heap) (h2 : S2 k s.heap) (l1 : k < n1) (l2 : k < n2)
    (q : ∀ x y h' tk, P1 k x → P2 k y → IsZip h' z ti tO (rawInt s.heap.objs.size) → IsPair h' tO x y → S1 (k + 1) h' → S2 (k + 1) h' → IsPair h' s.heap.objs.size x y → h'.objs.size = s.heap.objs.size + 1 →
      (∀ c o, c ≠ z → c ≠ tO → c ≠ i1 → c ≠ i2 → s.heap.get? c = some o → h'.get? c = some o) → Q (.ref s.heap.objs.size) { s with heap := h', toks := tk }) :
    wpAny (model prog w) A (Builtin.«zip.__next__» ⟨[.ref z], []⟩) (fun fin s' => ∃ v, fin = .done (.ret v) ∧ Q v s') E s := by
  obtain ⟨hp, gn, dr, tk0, os⟩ := s
  have e1 : i1 ≠ z := ne_of_mem D.m1 D.z1
  have e2 : i2 ≠ z := ne_of_mem D.m2 D.z2
  have e3 : tO ≠ i1 := (ne_of_mem D.m1 D.o1).symm
  have e4 : tO ≠ i2 := (ne_of_mem D.m2 D.o2).symm
  have e5 : i1 ≠ i2 := (ne_of_mem D.m2 D.x12).symm
  show wpAny _ _ (field (.ref z) 2 >>= _) _ _ ⟨hp, gn, dr, tk0, os⟩
  refine wpAny_bind (wpAny_field hz rfl (x := .bool false) rfl ?_)
  show wpAny _ _ (field (.ref z) 3 >>= _) _ _ ⟨hp, gn, dr, tk0, os⟩
  refine wpAny_bind (wpAny_field hz rfl (x := .ref ti) rfl ?_)
  refine wpAny_bind (wpAny_seqItems hI rfl ?_)
  show wpAny _ _ (Builtin.SmallTypes.ownedTupleIsFree (.ref z) >>= _) _ _ ⟨hp, gn, dr, tk0, os⟩
  refine wpAny_bind ?_
  unfold Builtin.SmallTypes.ownedTupleIsFree
  refine wpAny_bind (wpAny_field hz rfl (x := .none) rfl (wpAny_pure ?_))
  simp only [if_true]
  refine wpAny_bind (wpAny_rule (wpAny_bind (wpAny_field hz rfl (x := .ref tO) rfl ?_)))
  refine wpAny_bind (wpAny_setField_rec hz (by simp) fun ha hza hsa => ?_)
  replace hza : IsZip ha z ti tO .ellipsis := hza
  replace hsa : Heap.SameBut z hp ha := hsa
  refine wpAny_bind ?_
  simp only [List.zipIdx_cons, List.zipIdx_nil, List.forIn_cons, List.forIn_nil]
  refine wpAny_bind (wpAny_bind (wpAny_onRaise ?_))
  show wpAny _ _ (Builtin.SmallTypes.nextOf (.ref i1) >>= _) _ _ ⟨ha, gn, dr, tk0, os⟩
  have h1a : S1 k ha := D1.frame _ _ _ h1 fun b hb o y => hsa.extBut b o (ne_of_mem hb D.z1) y
  have h2a : S2 k ha := D2.frame _ _ _ h2 fun b hb o y => hsa.extBut b o (ne_of_mem hb D.z2) y
  refine wpAny_bind (D1.item k _ _ _ l1 h1a fun x hb tk1 px h1b hsb => wpAny_pure ?_)
  replace hsb : Heap.SameBut i1 ha hb := hsb
  have hOb : IsPair hb tO va vb := hsb.extBut _ _ e3 (hsa.extBut _ _ D.zo hO)
  refine wpAny_bind (wpAny_seqItems hOb rfl (wpAny_bind (wpAny_updateSeq_pair hOb fun hc hOc hsc => ?_)))
  replace hOc : IsPair hc tO x vb := hOc
  replace hsc : Heap.SameBut tO hb hc := hsc
  refine wpAny_bind (wpAny_letGo (wpAny_pure (wpAny_bind (wpAny_bind (wpAny_onRaise ?_)))))
  show wpAny _ _ (Builtin.SmallTypes.nextOf (.ref i2) >>= _) _ _ ⟨hc, gn, dr, tk1, os⟩
  have h2c : S2 k hc := D2.frame _ _ _ h2a fun b hb' o y => hsc.extBut b o (ne_of_mem hb' D.o2) (hsb.extBut b o (ne_of_mem hb' D.x12) y)
  refine wpAny_bind (D2.item k _ _ _ l2 h2c fun y hd tk2 py h2d hsd => wpAny_pure ?_)
  replace hsd : Heap.SameBut i2 hc hd := hsd
  have hOd : IsPair hd tO x vb := hsd.extBut _ _ e4 hOc
  refine wpAny_bind (wpAny_seqItems hOd rfl (wpAny_bind (wpAny_updateSeq_pair hOd fun he hOe hse => ?_)))
  replace hOe : IsPair he tO x y := hOe
  replace hse : Heap.SameBut tO hd he := hse
  refine wpAny_bind (wpAny_letGo (wpAny_pure (wpAny_pure ?_)))
  refine wpAny_bind (wpAny_seqItems hOe rfl (wpAny_bind (wpAny_newTuple ?_)))
  have sz : he.objs.size = hp.objs.size := by rw [hse.1, hsd.1, hsc.1, hsb.1, hsa.1]
  have hze : IsZip he z ti tO .ellipsis := hse.extBut _ _ D.zo.symm (hsd.extBut _ _ e2.symm (hsc.extBut _ _ D.zo.symm (hsb.extBut _ _ e1.symm hza)))
  have ke : ∀ c o, c ≠ z → c ≠ tO → c ≠ i1 → c ≠ i2 → hp.get? c = some o → he.get? c = some o := fun c o c1 c2 c3 c4 y =>
    hse.extBut _ _ c2 (hsd.extBut _ _ c4 (hsc.extBut _ _ c2 (hsb.extBut _ _ c3 (hsa.extBut _ _ c1 y))))
  have h1e : S1 (k + 1) he := D1.frame _ _ _ h1b fun b hb' o y => hse.extBut b o (ne_of_mem hb' D.o1) (hsd.extBut b o (ne_of_mem hb' D.x21) (hsc.extBut b o (ne_of_mem hb' D.o1) y))
  have h2e : S2 (k + 1) he := D2.frame _ _ _ h2d fun b hb' o y => hse.extBut b o (ne_of_mem hb' D.o2) y
  have zl : z < he.objs.size := Heap.lt_size hze
  show wpAny _ _ (Builtin.SmallTypes.ownedTupleHandOut (.ref z) (.ref he.objs.size) >>= _) _ _ _
  refine wpAny_bind ?_
  unfold Builtin.SmallTypes.ownedTupleHandOut
  have hzf : IsZip (he.push { cls := .type "tuple", data := .seq #[x, y] }) z ti tO .ellipsis := Heap.get?_push_of_some _ hze
  refine wpAny_bind (wpAny_setField_rec hzf (by simp) fun hg hzg hsg => ?_)
  replace hzg : IsZip hg z ti tO (rawInt he.objs.size) := hzg
  refine wpAny_setField_rec hzg (by simp) fun hh hzh hsh => ?_
  replace hzh : IsZip hh z ti tO (rawInt he.objs.size) := hzh
  have up : ∀ c o, c ≠ z → he.get? c = some o → hh.get? c = some o := fun c o c1 y => hsh.extBut _ _ c1 (hsg.extBut _ _ c1 (Heap.get?_push_of_some _ y))
  have hTh : IsPair hh he.objs.size x y := hsh.extBut _ _ (Nat.ne_of_gt zl) (hsg.extBut _ _ (Nat.ne_of_gt zl) (Heap.get?_push_size _ rfl))
  have szh : hh.objs.size = he.objs.size + 1 := by rw [hsh.1, hsg.1, Heap.size_push]
  rw [sz] at hzh hTh szh
  refine wpAny_pure ⟨_, rfl, ?_⟩
  show Q (.ref he.objs.size) _
  rw [sz]
  exact q x y hh tk2 px py hzh (up _ _ D.zo hOe) (D1.frame _ _ _ h1e fun b hb' o y => up b o (ne_of_mem hb' D.z1) y) (D2.frame _ _ _ h2e fun b hb' o y => up b o (ne_of_mem hb' D.z2) y) hTh szh fun c o c1 c2 c3 c4 y => up c o c1 (ke c o c1 c2 c3 c4 y)
theorem zipG_end {Q : Fin → Shared → Prop} (D1 : Draws prog w A i1 fp1 n1 P1 S1) (D2 : Draws prog w A i2 fp2 n2 P2 S2) (D : ZApart z ti tO i1 i2 fp1 fp2)
    (hz : IsZip s.heap z ti tO .none) (hI : IsPair s.heap ti (.ref i1) (.ref i2)) (hO : IsPair s.heap tO va vb) (h1 : S1 k s.heap) (h2 : S2 k s.heap) (l1 : k = n1 ∨ (k < n1 ∧ k = n2))
    (q : ∀ h' e, (∀ c o, c ≠ z → c ≠ tO → c ≠ i1 → c ≠ i2 → s.heap.get? c = some o → h'.get? c = some o) → (∃ o, h'.get? e = some o ∧ o.cls = .type "StopIteration") → ∀ tk, E (.ref e) { s with heap := h', toks := tk }) :
    wpAny (model prog w) A (Builtin.«zip.__next__» ⟨[.ref z], []⟩) Q E s := by
  obtain ⟨hp, gn, dr, tk0, os⟩ := s
  have e1 : i1 ≠ z := ne_of_mem D.m1 D.z1
  have e2 : i2 ≠ z := ne_of_mem D.m2 D.z2
  have e3 : tO ≠ i1 := (ne_of_mem D.m1 D.o1).symm
  show wpAny _ _ (field (.ref z) 2 >>= _) _ _ ⟨hp, gn, dr, tk0, os⟩
  refine wpAny_bind (wpAny_field hz rfl (x := .bool false) rfl ?_)
  show wpAny _ _ (field (.ref z) 3 >>= _) _ _ ⟨hp, gn, dr, tk0, os⟩
  refine wpAny_bind (wpAny_field hz rfl (x := .ref ti) rfl ?_)
  refine wpAny_bind (wpAny_seqItems hI rfl ?_)
  show wpAny _ _ (Builtin.SmallTypes.ownedTupleIsFree (.ref z) >>= _) _ _ ⟨hp, gn, dr, tk0, os⟩
  refine wpAny_bind ?_
  unfold Builtin.SmallTypes.ownedTupleIsFree
  refine wpAny_bind (wpAny_field hz rfl (x := .none) rfl (wpAny_pure ?_))
  simp only [if_true]
  refine wpAny_bind (wpAny_rule (wpAny_bind (wpAny_field hz rfl (x := .ref tO) rfl ?_)))
  refine wpAny_bind (wpAny_setField_rec hz (by simp) fun ha hza hsa => ?_)
  replace hza : IsZip ha z ti tO .ellipsis := hza
  replace hsa : Heap.SameBut z hp ha := hsa
  refine wpAny_bind ?_
  simp only [List.zipIdx_cons, List.zipIdx_nil, List.forIn_cons, List.forIn_nil]
  refine wpAny_bind (wpAny_bind (wpAny_onRaise ?_))
  show wpAny _ _ (Builtin.SmallTypes.nextOf (.ref i1) >>= _) _ _ ⟨ha, gn, dr, tk0, os⟩
  have h1a : S1 k ha := D1.frame _ _ _ h1 fun b hb o y => hsa.extBut b o (ne_of_mem hb D.z1) y
  have h2a : S2 k ha := D2.frame _ _ _ h2 fun b hb o y => hsa.extBut b o (ne_of_mem hb D.z2) y
  rcases l1 with l1 | ⟨l1, l2⟩
  · subst l1
    refine wpAny_bind (D1.done _ _ _ h1a fun hb e hsb he => ?_)
    obtain ⟨oe, hoe, hce⟩ := he
    have hzb : IsZip hb z ti tO .ellipsis := hsb _ _ e1.symm hza
    have ez : e ≠ z := fun y => by subst y; rw [hzb] at hoe; cases hoe; simp at hce
    refine wpAny_setField_rec hzb (by simp) fun hc _ hsc => q hc e (fun c o c1 _ c3 _ y => hsc.extBut _ _ c1 (hsb _ _ c3 (hsa.extBut _ _ c1 y))) ⟨oe, hsc.extBut _ _ ez hoe, hce⟩ tk0
  · subst l2
    refine wpAny_bind (D1.item k _ _ _ l1 h1a fun x hb tk1 px h1b hsb => wpAny_pure ?_)
    replace hsb : Heap.SameBut i1 ha hb := hsb
    have hOb : IsPair hb tO va vb := hsb.extBut _ _ e3 (hsa.extBut _ _ D.zo hO)
    refine wpAny_bind (wpAny_seqItems hOb rfl (wpAny_bind (wpAny_updateSeq_pair hOb fun hc hOc hsc => ?_)))
    replace hsc : Heap.SameBut tO hb hc := hsc
    refine wpAny_bind (wpAny_letGo (wpAny_pure (wpAny_bind (wpAny_bind (wpAny_onRaise ?_)))))
    show wpAny _ _ (Builtin.SmallTypes.nextOf (.ref i2) >>= _) _ _ ⟨hc, gn, dr, tk1, os⟩
    have h2c : S2 k hc := D2.frame _ _ _ h2a fun b hb' o y => hsc.extBut b o (ne_of_mem hb' D.o2) (hsb.extBut b o (ne_of_mem hb' D.x12) y)
    refine wpAny_bind (D2.done _ _ _ h2c fun hd e hsd he => ?_)
    obtain ⟨oe, hoe, hce⟩ := he
    have hzd : IsZip hd z ti tO .ellipsis := hsd _ _ e2.symm (hsc.extBut _ _ D.zo.symm (hsb.extBut _ _ e1.symm hza))
    have ez : e ≠ z := fun y => by subst y; rw [hzd] at hoe; cases hoe; simp at hce
    refine wpAny_setField_rec hzd (by simp) fun hf _ hsf => q hf e (fun c o c1 c2 c3 c4 y => hsf.extBut _ _ c1 (hsd _ _ c4 (hsc.extBut _ _ c2 (hsb.extBut _ _ c3 (hsa.extBut _ _ c1 y))))) ⟨oe, hsf.extBut _ _ ez hoe, hce⟩ tk1
theorem nextZ_item {Q : Option Value → Shared → Prop} (D1 : Draws prog w A.in1 i1 fp1 n1 P1 S1) (D2 : Draws prog w A.in1 i2 fp2 n2 P2 S2) (D : ZApart z ti tO i1 i2 fp1 fp2)
    (hz : IsZip s.heap z ti tO .none) (hI : IsPair s.heap ti (.ref i1) (.ref i2)) (hO : IsPair s.heap tO va vb) (h1 : S1 k s.heap) (h2 : S2 k s.heap) (l1 : k < n1) (l2 : k < n2)
    (q : ∀ x y h' tk, P1 k x → P2 k y → IsZip h' z ti tO (rawInt s.heap.objs.size) → IsPair h' tO x y → S1 (k + 1) h' → S2 (k + 1) h' → IsPair h' s.heap.objs.size x y → h'.objs.size = s.heap.objs.size + 1 →
      (∀ c o, c ≠ z → c ≠ tO → c ≠ i1 → c ≠ i2 → s.heap.get? c = some o → h'.get? c = some o) → Q (some (.ref s.heap.objs.size)) { s with heap := h', toks := tk }) : wpAny (model prog w) A (pyNext (.ref z)) Q E s := by
  have hT : s.TypeIs (.ref z) "zip" := ⟨_, hz, rfl⟩
  unfold pyNext
  exact wpAny_bind (wpAny_attempt (wpAny_callSpecial?_slot (name := Str.ofString "__next__") hT F.slot_zip_next (wpAny_call_entry F.slot_zip_next hT F.entry_zip_next (zipG_item D1 D2 D hz hI hO h1 h2 l1 l2 fun x y h' tk a b c d e f g i j => wpAny_pure (q x y h' tk a b c d e f g i j)) (F.args_zip_next_1 _))))
theorem nextZ_end {Q : Option Value → Shared → Prop} (D1 : Draws prog w A.in1 i1 fp1 n1 P1 S1) (D2 : Draws prog w A.in1 i2 fp2 n2 P2 S2) (D : ZApart z ti tO i1 i2 fp1 fp2)
    (hz : IsZip s.heap z ti tO .none) (hI : IsPair s.heap ti (.ref i1) (.ref i2)) (hO : IsPair s.heap tO va vb) (h1 : S1 k s.heap) (h2 : S2 k s.heap) (l1 : k = n1 ∨ (k < n1 ∧ k = n2))
    (q : ∀ h' tk, (∀ c o, c ≠ z → c ≠ tO → c ≠ i1 → c ≠ i2 → s.heap.get? c = some o → h'.get? c = some o) → Q none { s with heap := h', toks := tk }) : wpAny (model prog w) A (pyNext (.ref z)) Q E s := by
  have hT : s.TypeIs (.ref z) "zip" := ⟨_, hz, rfl⟩
  unfold pyNext
  refine wpAny_bind (wpAny_attempt (wpAny_callSpecial?_slot (name := Str.ofString "__next__") hT F.slot_zip_next (wpAny_call_entry F.slot_zip_next hT F.entry_zip_next (zipG_end D1 D2 D hz hI hO h1 h2 l1 fun h' e hk he tk => ?_) (F.args_zip_next_1 _))))
  obtain ⟨o, ho, hc⟩ := he
  exact wpAny_bind (wpAny_isInstance (T := "StopIteration") (b := true) ⟨o, ho, hc⟩ isSubtype_stop (wpAny_pure (q _ tk hk)))
end
abbrev itN (b : Bool) : String := match b with
  | true => "list_iterator"
  | false => "tuple_iterator"
abbrev zq1 (h : Heap) (b : Bool) (l : Addr) : Heap := h.push { cls := .type (itN b), data := .fields #[.ref l, .int 0 0] }
abbrev zq2 (h : Heap) (b c : Bool) (l m : Addr) : Heap := (zq1 h b l).push { cls := .type (itN c), data := .fields #[.ref m, .int 0 0] }
abbrev zq3 (h : Heap) (b c : Bool) (l m : Addr) : Heap := (zq2 h b c l m).push { cls := .type "tuple", data := .seq #[.ref h.objs.size, .ref (zq1 h b l).objs.size] }
abbrev zq4 (h : Heap) (b c : Bool) (l m : Addr) : Heap := (zq3 h b c l m).push { cls := .type "tuple", data := .seq #[.none, .none] }
abbrev zq5 (h : Heap) (b c : Bool) (l m : Addr) : Heap := (zq4 h b c l m).push { cls := .type "zip", data := .fields #[.none, .bool false, .bool false, .ref (zq2 h b c l m).objs.size, .ref (zq3 h b c l m).objs.size] }
section
variable {prog : Program} {w : World} {A : Around} {E : Value → Shared → Prop} {s : Shared}
theorem pyIterB {b : Bool} {a : Addr} {vs : Array Value} {Q : Value → Shared → Prop} (h : CoB b s.heap a vs) (q : Q (.ref s.heap.objs.size) { s with heap := s.heap.push { cls := .type (itN b), data := .fields #[.ref a, .int 0 0] } }) : wpAny (model prog w) A (pyIter (.ref a)) Q E s := by
  cases b with
  | true => exact wpAny_pyIter_list h q
  | false => exact wpAny_pyIter_tuple h q
theorem CoB.push {b : Bool} {h : Heap} {a : Addr} {vs : Array Value} (x : CoB b h a vs) (o : Obj) : CoB b (h.push o) a vs := by
  cases b with
  | true => obtain ⟨u, e, r⟩ := x; exact ⟨u, Heap.get?_push_of_some _ e, r⟩
  | false => obtain ⟨u, e, r⟩ := x; exact ⟨u, Heap.get?_push_of_some _ e, r⟩
theorem meets_zipB (b c : Bool) (l m : Addr) (xs ys : Array Value) : Meets (Builtin.«zip.__new__» ⟨[.type "zip", .ref l, .ref m], []⟩) (fun _ R s => CoB b s.heap l xs ∧ CoB c s.heap m ys ∧
      R (.ok (.ret (.ref (zq4 s.heap b c l m).objs.size))) { s with heap := zq5 s.heap b c l m }) :=
  .of_wp fun prog w A R s h => by
    obtain ⟨hp, g, d, tk, os⟩ := s
    obtain ⟨hl, hm, h⟩ := h
    have hsub := sub_zip
    have hL : CoB b (Shared.heap ⟨hp, g, d, tk, os⟩) l xs := hl
    have hM : CoB c (Shared.heap ⟨hp.push { cls := .type (itN b), data := .fields #[.ref l, .int 0 0] }, g, d, tk, os⟩) m ys := hm.push _
    wp_walk using pyIterB hL, pyIterB hM
    exact ⟨_, rfl, h⟩
theorem call_zipB {b c : Bool} {l m : Addr} {xs ys : Array Value} {Q : Value → Shared → Prop} (hl : CoB b s.heap l xs) (hm : CoB c s.heap m ys)
    (q : ∀ h', IsZip h' (s.heap.objs.size + 4) (s.heap.objs.size + 2) (s.heap.objs.size + 3) .none → IsPair h' (s.heap.objs.size + 2) (.ref s.heap.objs.size) (.ref (s.heap.objs.size + 1)) →
      IsPair h' (s.heap.objs.size + 3) .none .none → ItB b h' s.heap.objs.size l 0 → ItB c h' (s.heap.objs.size + 1) m 0 → h'.objs.size = s.heap.objs.size + 5 →
      (∀ a o, s.heap.get? a = some o → h'.get? a = some o) → Q (.ref (s.heap.objs.size + 4)) { s with heap := h' }) : wpAny (model prog w) A (call (.type "zip") [.ref l, .ref m]) Q E s := by
  refine callType_new F.called_zip (by decide) (F.typeCall_zip_2 _ _) (F.newCall_zip_2 _ _) (fun obj => F.args_object_init_3 obj _ _) F.entry_zip_new (meets_zipB b c l m xs ys) ⟨hl, hm, ?_⟩
  have z1 : (zq1 s.heap b l).objs.size = s.heap.objs.size + 1 := Heap.size_push ..
  have z2 : (zq2 s.heap b c l m).objs.size = s.heap.objs.size + 2 := by rw [show zq2 s.heap b c l m = (zq1 s.heap b l).push _ from rfl, Heap.size_push, z1]
  have z3 : (zq3 s.heap b c l m).objs.size = s.heap.objs.size + 3 := by rw [show zq3 s.heap b c l m = (zq2 s.heap b c l m).push _ from rfl, Heap.size_push, z2]
  have z4 : (zq4 s.heap b c l m).objs.size = s.heap.objs.size + 4 := by rw [show zq4 s.heap b c l m = (zq3 s.heap b c l m).push _ from rfl, Heap.size_push, z3]
  have z5 : (zq5 s.heap b c l m).objs.size = s.heap.objs.size + 5 := by rw [show zq5 s.heap b c l m = (zq4 s.heap b c l m).push _ from rfl, Heap.size_push, z4]
  have u5 : (zq5 s.heap b c l m).get? (zq4 s.heap b c l m).objs.size = some _ := Heap.get?_push_size _ rfl
  have u4 : (zq5 s.heap b c l m).get? (zq3 s.heap b c l m).objs.size = some _ := Heap.get?_push_of_some _ (Heap.get?_push_size _ rfl)
  have u3 : (zq5 s.heap b c l m).get? (zq2 s.heap b c l m).objs.size = some _ := Heap.get?_push_of_some _ (Heap.get?_push_of_some _ (Heap.get?_push_size _ rfl))
  have v2 : (zq5 s.heap b c l m).get? (zq1 s.heap b l).objs.size = some _ := Heap.get?_push_of_some _ (Heap.get?_push_of_some _ (Heap.get?_push_of_some _ (Heap.get?_push_size _ rfl)))
  have v1 : (zq5 s.heap b c l m).get? s.heap.objs.size = some _ := Heap.get?_push_of_some _ (Heap.get?_push_of_some _ (Heap.get?_push_of_some _ (Heap.get?_push_of_some _ (Heap.get?_push_size _ rfl))))
  show _ ∧ _
  rw [z2, z3, z4] at u5
  rw [z1, z2] at u3
  rw [z3] at u4
  rw [z1] at v2
  rw [z4]
  refine ⟨⟨_, u5, rfl⟩, q _ u5 u3 u4 ?_ ?_ z5 fun a o e => Heap.get?_push_of_some _ (Heap.get?_push_of_some _ (Heap.get?_push_of_some _ (Heap.get?_push_of_some _ (Heap.get?_push_of_some _ e))))⟩
  · cases b with
    | true => exact ⟨_, v1, rfl, rfl⟩
    | false => exact ⟨_, v1, rfl, rfl⟩
  · cases c with
    | true => exact ⟨_, v2, rfl, rfl⟩
    | false => exact ⟨_, v2, rfl, rfl⟩
end
section
variable {X : Cx} {pins : List (Addr × Obj)} {σ : St} {H : Hp} {s : Shared} {a : Addr} {xs ys : List V} {b c : Bool}
theorem sq_ne (J : Inv X pins σ H s) (hq : SqB b X.K H a xs) {r : Addr} (hf : FpOk X pins H r) : a ≠ r := by
  have key : (∃ o, H a = some o) ∨ ∃ o, X.K.lookup a = some o := by
    cases b with
    | true =>
      rcases hq with (h | ⟨o, h⟩) | ⟨o, _, _, h, _⟩
      · exact .inl ⟨_, h⟩
      · exact .inl ⟨_, h⟩
      · exact .inr ⟨_, h⟩
    | false =>
      rcases hq with (h | ⟨o, h⟩) | ⟨o, _, _, h, _⟩
      · exact .inl ⟨_, h⟩
      · exact .inl ⟨_, h⟩
      · exact .inr ⟨_, h⟩
  rintro rfl
  rcases key with ⟨o, h⟩ | ⟨o, h⟩
  · rw [hf.1] at h
    cases h
  · have hb := J.ok.mod.kin a o h
    rcases hf.2.2.2.1 with z | z
    · exact J.ok.noex a o hb z
    · exact absurd (Nat.lt_of_lt_of_le (Heap.lt_size hb) (Nat.le_trans J.ok.bsz z)) (Nat.lt_irrefl _)
theorem zapart {l m z ti tO i1 i2 : Addr} (J : Inv X pins σ H s) (hd : [z, ti, tO, i1, i2].Nodup) (hf : ∀ r ∈ [z, ti, tO, i1, i2], FpOk X pins H r) (h1 : SqB b X.K H l xs) (h2 : SqB c X.K H m ys) : ZApart z ti tO i1 i2 [i1, l] [i2, m] := by
  have n1 : ∀ r ∈ [z, ti, tO, i1, i2], l ≠ r := fun r hr => sq_ne J h1 (hf r hr)
  have n2 : ∀ r ∈ [z, ti, tO, i1, i2], m ≠ r := fun r hr => sq_ne J h2 (hf r hr)
  simp only [List.mem_cons, List.not_mem_nil, or_false, forall_eq_or_imp, forall_eq] at n1 n2
  simp only [List.nodup_cons, List.mem_cons, List.not_mem_nil, or_false, not_or, not_false_eq_true, List.nodup_nil, and_true] at hd
  obtain ⟨⟨d1, d2, d3, d4⟩, ⟨d5, d6, d7⟩, ⟨d8, d9⟩, d10⟩ := hd
  refine ⟨Ne.symm d1, Ne.symm d2, d5, by simp, by simp, ?_, ?_, ?_, ?_, d6, d7, ?_, ?_⟩ <;> simp only [List.mem_cons, List.not_mem_nil, or_false, not_or]
  · exact ⟨d3, Ne.symm n1.1⟩
  · exact ⟨d4, Ne.symm n2.1⟩
  · exact ⟨d8, Ne.symm n1.2.2.1⟩
  · exact ⟨d9, Ne.symm n2.2.2.1⟩
  · exact ⟨d10, Ne.symm n2.2.2.2.1⟩
  · exact ⟨Ne.symm d10, Ne.symm n1.2.2.2.2⟩
end
def Itz (b c : Bool) (K : PySem.W.Frag) (l m : Addr) : It :=
  ⟨fun i H => ∃ xs ys x y, SqB b K H l xs ∧ SqB c K H m ys ∧ xs[i]? = some x ∧ ys[i]? = some y, fun i H x H' => ∃ t v u, H t = none ∧ x = .ref t ∧ H' = upd H t (.tup [v, u]) ∧ ∀ xs ys, SqB b K H l xs → SqB c K H m ys → xs[i]? = some v ∧ ys[i]? = some u,
   fun i H => ∃ xs ys, SqB b K H l xs ∧ SqB c K H m ys ∧ min xs.length ys.length = i⟩
theorem turn_zip {P : Program} {w : World} {K : PySem.W.Frag} {elts : List Expr} {n : Nat} {pos : Pos} (b c : Bool) (l m z ti tO i1 i2 : Addr) (hd : [z, ti, tO, i1, i2].Nodup) :
    Turn P w K (.Tuple elts n pos) (Itz b c K l m) [z, ti, tO, i1, i2] z (fun i h => IsZip h z ti tO .none ∧ IsPair h ti (.ref i1) (.ref i2) ∧ (∃ va vb, IsPair h tO va vb) ∧ ItB b h i1 l i ∧ ItB c h i2 m i) where
  mem := by simp
  obj := fun i h st a ha => by
    obtain ⟨s1, s2, ⟨va, vb, s3⟩, s4, s5⟩ := st
    simp only [List.mem_cons, List.not_mem_nil, or_false] at ha
    rcases ha with rfl | rfl | rfl | rfl | rfl
    · exact ⟨_, s1, fun v y => nomatch y⟩
    · exact ⟨_, s2, fun v y => nomatch y⟩
    · exact ⟨_, s3, fun v y => nomatch y⟩
    · obtain ⟨o, q, _, d⟩ := s4.obj
      exact ⟨o, q, d⟩
    · obtain ⟨o, q, _, d⟩ := s5.obj
      exact ⟨o, q, d⟩
  keep := fun i h h' st k => by
    obtain ⟨s1, s2, ⟨va, vb, s3⟩, s4, s5⟩ := st
    exact ⟨k z (by simp) _ s1, k ti (by simp) _ s2, ⟨va, vb, k tO (by simp) _ s3⟩, s4.at fun o q => k i1 (by simp) o q, s5.at fun o q => k i2 (by simp) o q⟩
  item := by
    intro X hP hw hK hc i pins s σ H E J hf st hg
    subst hP hw hK
    obtain ⟨s1, s2, ⟨va, vb, s3⟩, s4, s5⟩ := st
    obtain ⟨xs, ys, x, y, hq, hr, hx, hy⟩ := hg
    obtain ⟨its, rv, co⟩ := J.seqB hq
    obtain ⟨its2, rv2, co2⟩ := J.seqB hr
    obtain ⟨u, hu, ru⟩ := rv.get hx
    obtain ⟨u2, hu2, ru2⟩ := rv2.get hy
    have l1 : i < its.toArray.size := by simpa using (List.getElem?_eq_some_iff.mp hu).1
    have l2 : i < its2.toArray.size := by simpa using (List.getElem?_eq_some_iff.mp hu2).1
    refine nextZ_item (drawsB (A := X.A.in1) (b := b) (I := i1) (a := l) (show X.A.in1.handled = none from J.ok.hd hc) (apartB s4 co) its.toArray) (drawsB (A := X.A.in1) (b := c) (I := i2) (a := m) (show X.A.in1.handled = none from J.ok.hd hc) (apartB s5 co2) its2.toArray)
      (zapart J hd hf hq hr) s1 s2 s3 ⟨s4, co⟩ ⟨s5, co2⟩ l1 l2 fun x' y' h1 tk p1 p2 hz hO t1 t2 hT hsz hk => ⟨_, rfl, ?_⟩
    have ex : x' = u := by
      rw [show its.toArray[i]? = its[i]? by simp, hu] at p1
      exact (Option.some.inj p1).symm
    have ey : y' = u2 := by
      rw [show its2.toArray[i]? = its2[i]? by simp, hu2] at p2
      exact (Option.some.inj p2).symm
    subst ex ey
    refine wpAny_letOwnedTupleGo_zip hz fun h2 hz2 sb2 => ?_
    have nd := hd
    simp only [List.nodup_cons, List.mem_cons, List.not_mem_nil, or_false, not_or, not_false_eq_true, List.nodup_nil, and_true] at nd
    obtain ⟨⟨d1, d2, d3, d4⟩, ⟨d5, d6, d7⟩, ⟨d8, d9⟩, d10⟩ := nd
    have lt : ∀ a ∈ [z, ti, tO, i1, i2], a < s.heap.objs.size := fun a ha => by
      simp only [List.mem_cons, List.not_mem_nil, or_false] at ha
      rcases ha with rfl | rfl | rfl | rfl | rfl
      · exact Heap.lt_size s1
      · exact Heap.lt_size s2
      · exact Heap.lt_size s3
      · obtain ⟨o, q, _⟩ := s4.obj
        exact Heap.lt_size q
      · obtain ⟨o, q, _⟩ := s5.obj
        exact Heap.lt_size q
    have zn : s.heap.objs.size ≠ z := fun y => Nat.lt_irrefl _ (y ▸ lt z (by simp))
    have kk : ∀ a o, a ∉ [z, ti, tO, i1, i2] → s.heap.get? a = some o → h2.get? a = some o := fun a o ha q => by
      simp only [List.mem_cons, List.not_mem_nil, or_false, not_or] at ha
      exact (sb2.2 a ha.1).trans (hk a o ha.1 ha.2.2.1 ha.2.2.2.1 ha.2.2.2.2 q)
    have hT2 : h2.get? s.heap.objs.size = some { cls := .type "tuple", data := .seq #[x', y'] } := (sb2.2 _ zn).trans hT
    have J2 : Inv X pins σ (upd H s.heap.objs.size (.tup [x, y])) { s with heap := h2, toks := tk } :=
      J.turnedT kk hf (Nat.le_refl _) ⟨by show 2 ≤ sizeLine; decide, [x', y'], .cons ru (.cons ru2 .nil), ⟨_, hT2, rfl, _, rfl⟩⟩
    refine ⟨.ref s.heap.objs.size, _, J2, rfl, ⟨_, x, y, J.hok.fresh (Nat.le_refl _), rfl, rfl, fun us ws hu hw => ⟨by rw [J.seqB_inj hu hq]; exact hx, by rw [J.seqB_inj hw hr]; exact hy⟩⟩, ⟨hz2, (sb2.2 ti (Ne.symm d1)).trans (hk ti _ (Ne.symm d1) d5 d6 d7 s2), ⟨_, _, (sb2.2 tO (Ne.symm d2)).trans hO⟩, t1.1.at fun o q => (sb2.2 i1 (Ne.symm d3)).trans q, t2.1.at fun o q => (sb2.2 i2 (Ne.symm d4)).trans q⟩, fun a ha => ?_⟩
    rw [upd_ne (Nat.ne_of_lt (lt a ha))]
    exact (hf a ha).1
  done := by
    intro X hP hw hK hc i pins s σ H E J hf st hg
    subst hP hw hK
    obtain ⟨s1, s2, ⟨va, vb, s3⟩, s4, s5⟩ := st
    obtain ⟨xs, ys, hq, hr, hx⟩ := hg
    obtain ⟨its, rv, co⟩ := J.seqB hq
    obtain ⟨its2, rv2, co2⟩ := J.seqB hr
    have e1 := rv.length
    have e2 := rv2.length
    refine nextZ_end (drawsB (A := X.A.in1) (b := b) (I := i1) (a := l) (show X.A.in1.handled = none from J.ok.hd hc) (apartB s4 co) its.toArray) (drawsB (A := X.A.in1) (b := c) (I := i2) (a := m) (show X.A.in1.handled = none from J.ok.hd hc) (apartB s5 co2) its2.toArray)
      (zapart J hd hf hq hr) s1 s2 s3 ⟨s4, co⟩ ⟨s5, co2⟩ (by simp only [List.size_toArray]; omega) fun h' tk hk => ⟨rfl, ?_⟩
    exact J.turnedL (t' := tk) (fun a o ha q => hk a o (fun y => ha (by simp [y])) (fun y => ha (by simp [y])) (fun y => ha (by simp [y])) (fun y => ha (by simp [y])) q) hf
  self := fun A i s Q E st h => wpAny_pyIter_zip st.1 h
section
variable {X : Cx} {x y : Expr} {p pos tpos : Pos} {sc : Scope} {fs : De → Option (List Dt)} {elts : List Expr} {n : Nat}
def iZip (K : PySem.W.Frag) (ta : TA) : TI := fun σ H R => ta σ H fun vs H1 => ∃ b c l m xs ys, vs = [.ref l, .ref m] ∧ SqB b K H1 l xs ∧ SqB c K H1 m ys ∧ R (Itz b c K l m) H1
theorem pi_zip {ta : TA} (h : glOk sc "zip" = true) (hm : X.mg "zip" = none) (ha : PA X [x, y] ta) (e1 : ScIs X sc := by rfl) (hs : starEach [x, y] X.env = [(false, eval x X.env), (false, eval y X.env)] := by rfl) (hs2 : starEach [y] X.env = [(false, eval y X.env)] := by rfl) :
    PI X (.Tuple elts n tpos) (.Call (.Name "zip" p) [x, y] [] pos) (iZip X.K ta) := by
  intro pins s σ H R I h'
  refine Call_ (ld_blt I (glD h e1) hm bt_zip (PyProof.Rows.callWith_type1 (thn (ha pos pins s σ H _ I h') fun us s1 ⟨vs, H1, I1, r1, q1⟩ => ?_) (by rw [hs, hs2]) (by rw [hs2]; rfl)))
  obtain ⟨b, c, l, m, xs, ys, rfl, hq, hr, q⟩ := q1
  obtain ⟨u, w', rfl, ru, rw'⟩ := vals2 r1
  cases ru
  cases rw'
  obtain ⟨its, rv, co⟩ := I1.seqB hq
  obtain ⟨its2, rv2, co2⟩ := I1.seqB hr
  refine call_zipB co co2 fun h2 hz hI hO hi1 hi2 hsz hk => wpAny_pyIter_zip hz ?_
  have I2 : Inv X pins σ H1 { s1 with heap := h2 } := I1.kept (t' := s1.toks) hk
  refine ⟨s1.heap.objs.size + 4, [s1.heap.objs.size + 4, s1.heap.objs.size + 2, s1.heap.objs.size + 3, s1.heap.objs.size, s1.heap.objs.size + 1], _, _, H1, rfl, I2, turn_zip b c l m _ _ _ _ _ (by simp), ⟨hz, hI, ⟨_, _, hO⟩, hi1, hi2⟩, fun a ha => ?_, q⟩
  have hge : s1.heap.objs.size ≤ a := by
    simp only [List.mem_cons, List.not_mem_nil, or_false] at ha
    rcases ha with rfl | rfl | rfl | rfl | rfl <;> first | exact Nat.le_add_right _ _ | exact Nat.le_refl _
  exact I1.fpOk hge (I1.hok.fresh hge)
def zipL : List Dt → List Dt → List Dt
  | d :: l, e :: m => .tup [d, e] :: zipL l m
  | _, _ => []
theorem zipL_len : ∀ (l m : List Dt), (zipL l m).length = min l.length m.length
  | [], m => by simp [zipL]
  | _ :: _, [] => by simp [zipL]
  | d :: l, e :: m => by simp [zipL, zipL_len l m]
theorem zipL_get : ∀ {l m : List Dt} {k : Nat} {d e : Dt}, l[k]? = some d → m[k]? = some e → (zipL l m)[k]? = some (.tup [d, e])
  | [], m, k, d, e, h, _ => by simp at h
  | _ :: _, [], k, d, e, _, h => by simp at h
  | a :: l, b :: m, 0, d, e, h, h' => by simp at h h'; simp [zipL, h, h']
  | a :: l, b :: m, k + 1, d, e, h, h' => by
    simp only [zipL, List.getElem?_cons_succ]
    exact zipL_get (by simpa using h) (by simpa using h')
def asSq : Dt → Option (Bool × List Dt)
  | .lst l => some (true, l)
  | .tup l => some (false, l)
  | _ => none
def zipD : List Dt → Option (List Dt)
  | [d, e] => (asSq d).bind fun p => (asSq e).map fun q => zipL p.2 q.2
  | _ => none
theorem asSq_of {K : PySem.W.Frag} {F : Hp} {d : Dt} {v : V} {p : Bool × List Dt} (r : Rep K F d v) (h : asSq d = some p) : ∃ a xs, v = .ref a ∧ Reps K F p.2 xs ∧ ∀ H, Same F H → SqB p.1 K H a xs := by
  unfold asSq at h
  split at h <;> first | (cases h; done) | skip
  · cases h
    simp only [Rep] at r
    obtain ⟨a, xs, rfl, h1, h2⟩ := r
    exact ⟨a, xs, rfl, h2, fun H s => s.seq h1⟩
  · cases h
    simp only [Rep] at r
    obtain ⟨a, xs, rfl, h1, h2⟩ := r
    exact ⟨a, xs, rfl, h2, fun H s => s.tup h1⟩
theorem walk_zip {K : PySem.W.Frag} {F : Hp} {b c : Bool} {a a' : Addr} {xs ys : List V} {l m : List Dt} (r : Reps K F l xs) (r' : Reps K F m ys) : WalkD K F (Itz b c K a a') (zipL l m) (fun H => SqB b K H a xs ∧ SqB c K H a' ys) := fun i H F2 hok fh ff => by
  have hl := r.length
  have hm := r'.length
  rw [zipL_len]
  refine ⟨fun h => ⟨xs, ys, xs[i], ys[i], hok.1, hok.2, by simp [show i < xs.length by omega], by simp [show i < ys.length by omega]⟩, fun h => ⟨xs, ys, hok.1, hok.2, by omega⟩, fun x H' hi hy => ?_⟩
  obtain ⟨t, v, u, ht, rfl, rfl, hv⟩ := hy
  obtain ⟨hx, hy⟩ := hv xs ys hok.1 hok.2
  obtain ⟨d, hd, rd⟩ := r.same_get hx
  obtain ⟨e, he, re⟩ := r'.same_get hy
  have up := Same.upd (o := .tup [v, u]) (fh.free ht)
  exact ⟨_, upd F2 t (.tup [v, u]), zipL_get hd he, Step.new fh ht, rep_pair upd_same ((rd.same ff).same up) ((re.same ff).same up)⟩
theorem di_zip (h : glOk sc "zip" = true) (hm : X.mg "zip" = none) (ha : DA X [x, y] fs) (e1 : ScIs X sc := by rfl) (hs : starEach [x, y] X.env = [(false, eval x X.env), (false, eval y X.env)] := by rfl) (hs2 : starEach [y] X.env = [(false, eval y X.env)] := by rfl) :
    DIF X (.Tuple elts n tpos) (.Call (.Name "zip" p) [x, y] [] pos) (fRng zipD fs) := PI.mono (pi_zip h hm ha.pa e1 hs hs2) fun σ H R ⟨Φ, δ, F, ds, hK, en, hf, k⟩ => by
  unfold fRng at hf
  obtain ⟨as, hd, hf⟩ := Option.bind_eq_some_iff.mp hf
  refine ⟨Φ, δ, F, as, hK, en, hd, fun vs H' F' st r => ?_⟩
  unfold zipD at hf
  split at hf <;> first | (cases hf; done) | skip
  obtain ⟨p1, hp1, hf⟩ := Option.bind_eq_some_iff.mp hf
  obtain ⟨p2, hp2, hf⟩ := Option.map_eq_some_iff.mp hf
  cases hf
  simp only [Reps] at r
  obtain ⟨v, ws, rfl, r1, w', us, rfl, r2, rfl⟩ := r
  obtain ⟨a, xs, rfl, q1, s1⟩ := asSq_of r1 hp1
  obtain ⟨a', ys, rfl, q2, s2⟩ := asSq_of r2 hp2
  exact ⟨p1.1, p2.1, a, a', xs, ys, rfl, s1 _ st.fh, s2 _ st.fh, k _ _ H' F' st (walk_zip q1 q2) fun H2 s => ⟨s1 _ s, s2 _ s⟩⟩
end
end L2

namespace L2
open PySem PySem.Spec PyProof.Rows
theorem vals_strValues : ∀ l : List (Str × Tok), Vals ((l.map (·.1)).map V.str) (strValues l)
  | [] => .nil
  | p :: r => .cons ⟨p.2, rfl⟩ (vals_strValues r)
section
variable {X : Cx} {o a b e c : Expr} {es : List Expr} {fa fb fo fe : De → Option Dt} {fs : De → Option (List Dt)} {pos apos cpos p : Pos} {i : Nat}
theorem splitI {prog : Program} {w : World} {A : Around} {E : Value → Shared → Prop} {s : Shared} {x y : Str} {t u : Tok} {Q : Value → Shared → Prop} (hy : (y.length == 0) = false) (hsz : x.length + 2 ≤ sizeLine)
    (q : ∀ l k, l.map (·.1) = Txt.split x y → Q (.ref s.heap.objs.size) { s with heap := s.heap.push { cls := .type "list", data := .seq (strValues l).toArray }, toks := k }) : wpAny (model prog w) A (call (.builtin "str.split") [.str x t, .str y u]) Q E s := by
  have hn : (Builtin.Str.partsBetween x (Builtin.Str.occurrences x y 0 x.length (x.length + 1)) y.length).length ≤ sizeLine := by
    have := StrLaws.occ_length_le x y 0 x.length (x.length + 1)
    rw [length_partsBetween]
    omega
  cases h1 : (decide (x.length < y.length) || decide (Builtin.Str.strKind x < Builtin.Str.strKind y)) with
  | true => exact call_meets F.slot_str_split (typeIs_str _ _ _) F.entry_str_split (F.args_str_split_2 _ _) (meets_str_split_cannot_occur x y t u h1) (q [(x, t)] s.toks (if_pos h1).symm)
  | false =>
    cases hf : (Builtin.Str.occurrences x y 0 x.length (x.length + 1)).isEmpty with
    | true => exact call_meets F.slot_str_split (typeIs_str _ _ _) F.entry_str_split (F.args_str_split_2 _ _) (meets_str_split_not_found x y t u h1 hy hf) (q [(x, t)] s.toks ((if_neg (ne_true_of_eq_false h1)).trans (if_pos hf)).symm)
    | false =>
      refine call_meets F.slot_str_split (typeIs_str _ _ _) F.entry_str_split (F.args_str_split_2 _ _) (meets_str_split_sep x y t u h1 hy hf (by omega) hn) ?_
      show wants Q E _ { s with toks := _, heap := s.heap.push { cls := Value.type "list", data := .seq (strsFrom s.toks (Builtin.Str.partsBetween x (Builtin.Str.occurrences x y 0 x.length (x.length + 1)) y.length)).toArray } }
      rw [strsFrom_eq]
      exact q (numbered s.toks _) _ ((numbered_texts _ _).trans ((if_neg (ne_true_of_eq_false h1)).trans (if_neg (ne_true_of_eq_false hf))).symm)
theorem split_len {x y : Str} (h : x.length + 2 ≤ sizeLine) : (Txt.split x y).length ≤ sizeLine := by
  unfold Txt.split
  split
  · show 1 ≤ sizeLine; omega
  · split
    · show 1 ≤ sizeLine; omega
    · have := StrLaws.occ_length_le x y 0 x.length (x.length + 1)
      rw [length_partsBetween]
      omega
theorem mt_split : MtR X "str.split" (fun v vs H Q => ∃ x y, v = .str x ∧ vs = [.str y] ∧ (y.length == 0) = false ∧ x.length + 2 ≤ sizeLine ∧ ∀ p, H p = none → Q (.ref p) (upd H p (.lst ((Txt.split x y).map V.str)))) := by
  intro pins s σ H v vs u us Q I rx rv h
  obtain ⟨x, y, rfl, rfl, hy, hz, q⟩ := h
  obtain ⟨t, rfl⟩ := rx
  obtain ⟨u, rfl, ru⟩ := rv.one
  obtain ⟨t', rfl⟩ := ru
  refine splitI hy hz fun l k el => ?_
  have hv := vals_strValues l
  rw [el] at hv
  exact ⟨.ref _, _, I.lnew (t' := k) hv (by rw [List.length_map]; exact split_len hz), rfl, q _ I.fresh⟩
def g_split : Dt → List Dt → Option T
  | .str x, [.str y] => if (y.length == 0) = false ∧ x.length + 2 ≤ sizeLine then some (.lst ((Txt.split x y).map .str)) else none
  | _, _ => none
theorem m_splitD {K : PySem.W.Frag} : MRD K (fun v vs H Q => ∃ x y, v = .str x ∧ vs = [.str y] ∧ (y.length == 0) = false ∧ x.length + 2 ≤ sizeLine ∧ ∀ p, H p = none → Q (.ref p) (upd H p (.lst ((Txt.split x y).map V.str)))) g_split := by
  intro F H d v ds vs Q t fh rd rs hg k
  unfold g_split at hg
  split at hg <;> first | (cases hg; done) | skip
  split at hg <;> first | (cases hg; done) | skip
  rename_i hc
  cases hg
  cases rd
  obtain ⟨v, rfl, rv⟩ := repBs1 rs
  cases rv
  exact ⟨_, _, rfl, rfl, hc.1, hc.2, fun p hp => own_lst k fh (Reps.map (fun _ => rep_str) _) hp⟩
theorem g_split_str : ∀ d ds t, g_split d ds = some t → ∃ z, d = .str z := fun d ds t h => by
  unfold g_split at h
  split at h
  · exact ⟨_, rfl⟩
  · cases h
theorem do_split (ho : DB X o fo) (ha : DAB X (e :: es) fs)
    (hbase : attributeBase o "split" X.env (eval o X.env) = eval o X.env := by rfl)
    (hfew : ((backTo cpos (starEach (e :: es) X.env)).all (fun x => !x.1) && (backToKw cpos (keywordEach [] X.env)).all (fun x => x.1.isSome)
      && decide ((e :: es).length + ([] : List Keyword).length + (if ([] : List Keyword).isEmpty then 0 else 1) < 30)) = true := by rfl)
    (hline : (apos.endLine == cpos.line) = true := by rfl) (hs : starEach (e :: es) X.env = (false, eval e X.env) :: starEach es X.env := by rfl) (hplain : (backTo cpos (starEach es X.env)).any (·.1) = false := by rfl) :
    DO X (.Call (.Attribute o "split" apos) (e :: es) [] cpos) (vMeth g_split fo fs) := do_bmS PySem.F.slot_str_split PySem.F.type_str_split mt_split m_splitD g_split_str ho ha hbase hfew hline hs hplain
def fmtD : Dt → Option Str
  | .str x => if x.length ≤ sizeLine then some x else none
  | .int i => if logOk i then some (toString i) else none
  | _ => none
def PF (X : Cx) (e : Expr) (K : PySem.W.Frag) (f : De → Option Str) : Prop := PE X e (fun σ H Q => ∃ Φ δ F x, Fm.K Φ = K ∧ En Φ δ σ F H ∧ f δ = some x ∧ ∀ H' F', Step F H F' H' → Q (.str x) H')
def pfC (x : Str) : De → Option Str := fun _ => some x
def pfV (f : De → Option Dt) : De → Option Str := fun δ => (f δ).bind fmtD
theorem pf_const {x : Str} {j} : PF X (.Constant (.str x) j pos) X.K (pfC x) := PE.mono pe_str fun σ H Q ⟨Φ, δ, F, x, hK, en, hf, k⟩ => by
  cases hf
  exact k H F (Step.refl en.fh)
theorem pf_val (h : DB X a fa) : PF X (.FormattedValue a (-1) none pos) X.K (pfV fa) := fun pins s σ H Q I hq => by
  obtain ⟨Φ, δ, F, x, hK, en, hf, k⟩ := hq
  unfold pfV at hf
  obtain ⟨d, hd, hf⟩ := Option.bind_eq_some_iff.mp hf
  refine FormattedValue_plain (thn (h pins s σ H (fun v H' => ∃ F', RepB X.K F' H' d v ∧ Q (.str x) H') I ⟨Φ, δ, F, d, hK, en, hd, fun v H' F' st r => ⟨F', r, k H' F' st⟩⟩) fun u s1 ⟨v, H1, I1, r1, F1, r, q⟩ => ?_)
  unfold fmtD at hf
  split at hf <;> first | (cases hf; done) | skip
  · split at hf <;> first | (cases hf; done) | skip
    rename_i hl
    cases hf
    cases r
    obtain ⟨t, rfl⟩ := r1
    exact formatField_str (fun t' tk => ⟨.str _, H1, I1.tok _, ⟨_, rfl⟩, q⟩) hl
  · split at hf <;> first | (cases hf; done) | skip
    rename_i hl
    cases hf
    cases r
    obtain ⟨t, rfl⟩ := r1
    exact formatField_int_small (of_decide_eq_true hl) ⟨.str _, H1, I1.tok _, ⟨_, rfl⟩, q⟩
inductive PFs (X : Cx) (K : PySem.W.Frag) : List Expr → List (De → Option Str) → Prop
  | nil : PFs X K [] []
  | cons {e es f fs} : PF X e K f → PFs X K es fs → PFs X K (e :: es) (f :: fs)
def glue (out : Str) : List (De → Option Str) → De → Option Str
  | [], _ => if out.length ≤ sizeLine then some out else none
  | f :: r, δ => (f δ).bind fun x => if (out ++ x).length ≤ sizeLine then glue (out ++ x) r δ else none
theorem glue_ok {K : PySem.W.Frag} (hX : X.K = K) : ∀ {es : List Expr} {fs : List (De → Option Str)}, PFs X K es fs → ∀ (out : Str) (pins : List (Addr × Obj)) (s : Shared) (σ : St) (H : Hp) (Q : VK) (Φ : Fm) (δ : De) (F : Hp) (x : Str), Inv X pins σ H s → Fm.K Φ = K → En Φ δ σ F H → glue out fs δ = some x → (∀ H' F', Step F H F' H' → Q (.str x) H') →
    wpAny (model X.prog X.w) X.A (joinParts out (evalEach es X.env)) (EP X pins σ Q) X.xe s := by
  intro es fs h
  induction h with
  | nil =>
    intro out pins s σ H Q Φ δ F x I hK en hg k
    simp only [glue] at hg
    split at hg <;> first | (cases hg; done) | skip
    rename_i hl
    cases hg
    exact joinParts_nil ⟨.str _, H, I.tok _, ⟨_, rfl⟩, k H F (Step.refl en.fh)⟩ hl
  | @cons e es f fs he hes ih =>
    intro out pins s σ H Q Φ δ F x I hK en hg k
    simp only [glue] at hg
    obtain ⟨y, hy, hg⟩ := Option.bind_eq_some_iff.mp hg
    split at hg <;> first | (cases hg; done) | skip
    rename_i hl
    show wpAny (model X.prog X.w) X.A (joinParts out (eval e X.env :: evalEach es X.env)) _ _ s
    refine joinParts_cons (thn (he pins s σ H (fun v H' => v = .str y ∧ ∃ F', Step F H F' H') I ⟨Φ, δ, F, y, hK, en, hy, fun H' F' st => ⟨rfl, F', st⟩⟩) fun u s1 ⟨v, H1, I1, r1, ev, F1, st⟩ => ?_)
    subst ev
    obtain ⟨t, rfl⟩ := r1
    exact ⟨hl, ih (out ++ y) pins s1 σ H1 Q Φ δ F1 x I1 hK (en.step st) hg fun H' F' st2 => k H' F' (st.trans st2)⟩
def vFstr (fs : List (De → Option Str)) : De → Option T := fun δ => (glue Str.empty fs δ).map fun x => .leaf (.str x)
theorem do_fstr {es : List Expr} {e1 e2 : Expr} {fs : List (De → Option Str)} (h : PFs X X.K (e1 :: e2 :: es) fs) : DO X (.JoinedStr (e1 :: e2 :: es) pos) (vFstr fs) := fun pins s σ H Q I hq => by
  obtain ⟨Φ, δ, F, t, hK, en, hf, k⟩ := hq
  unfold vFstr at hf
  obtain ⟨x, hx, hf⟩ := Option.map_eq_some_iff.mp hf
  cases hf
  exact JoinedStr_many (glue_ok rfl h Str.empty pins s σ H Q Φ δ F x I hK en hx fun H' F' st => (k.step st).str st.fh)
def vFstr1 (f : De → Option Str) : De → Option T := fun δ => (f δ).map fun x => .leaf (.str x)
theorem do_fstr1 {e1 : Expr} {f : De → Option Str} (h : PF X e1 X.K f) : DO X (.JoinedStr [e1] pos) (vFstr1 f) := fun pins s σ H Q I hq => by
  obtain ⟨Φ, δ, F, t, hK, en, hf, k⟩ := hq
  unfold vFstr1 at hf
  obtain ⟨x, hx, hf⟩ := Option.map_eq_some_iff.mp hf
  cases hf
  exact JoinedStr_one (h pins s σ H Q I ⟨Φ, δ, F, x, hK, en, hx, fun H' F' st => (k.step st).str st.fh⟩)
end
end L2

namespace L2
open PySem PySem.Spec PyProof.Rows
def scalT : T → Option T
  | .leaf d => if flatD d then some (.leaf d) else none
  | _ => none
theorem RepBs.reps {K : PySem.W.Frag} {F H : Hp} (fh : Same F H) : ∀ {l : List Dt} {vs : List V}, RepBs K F H l vs → Reps K H l vs
  | [], vs, h => by simp only [Reps]; exact h
  | d :: l, vs, h => by
    obtain ⟨v, ws, e, h1, h2⟩ := h
    simp only [Reps]
    exact ⟨v, ws, e, h1.rep fh, h2.reps fh⟩
theorem flat_any {K : PySem.W.Frag} {F F' : Hp} {d : Dt} {v : V} (r : Rep K F d v) (h : flatD d = true) : Rep K F' d v := by
  cases d <;> first | (cases h; done) | (simp only [Rep] at r ⊢; exact r)
def vCallB (ff : List Dt → Option T) (f : De → Option (List Dt)) : De → Option T := fun δ => (f δ).bind fun ds => (ff ds).bind scalT
section
variable {X : Cx} {e : Expr} {es : List Expr} {fs : De → Option (List Dt)} {pos p : Pos} {x : Str} {sc : Scope}
theorem do_callFB {k n : Nat} {ps : List Str} {ff : List Dt → Option T} (h : glOk sc x = true) (F : OkF X.prog X.w X.K X.mg X.base x k ps (spD X.K n ff)) (hr : Room k X.A) (ha : DAB X (e :: es) fs) (hn : (e :: es).length = n := by rfl) (e1 : ScIs X sc := by rfl)
    (he : starEach (e :: es) X.env = (false, eval e X.env) :: starEach es X.env := by rfl) (hpl : (backTo pos (starEach es X.env)).any (·.1) = false := by rfl) : DO X (.Call (.Name x p) (e :: es) [] pos) (vCallB ff fs) :=
  PE.mono (pe_callFD h F hr ha.pa e1 he hpl) fun σ H Q ⟨Φ, δ, Fz, t, hK, en, hf, k⟩ => by
    unfold vCallB at hf
    obtain ⟨ds, hd, hf⟩ := Option.bind_eq_some_iff.mp hf
    obtain ⟨u, hu, hf⟩ := Option.bind_eq_some_iff.mp hf
    refine ⟨Φ, δ, Fz, ds, hK, en, hd, fun vs H1 F1 st r => ?_⟩
    show spD X.K n ff (vs ++ []) H1 Q E0
    rw [List.append_nil]
    refine ⟨H1, ds, u, Same.refl _, (ha.len δ ds hd).trans hn, r.reps st.fh, hu, fun v H' F' S s2 o hs => ?_⟩
    unfold scalT at hf
    split at hf <;> first | (cases hf; done) | skip
    split at hf <;> first | (cases hf; done) | skip
    rename_i d hfl
    cases hf
    exact (k.step st).leaf v H' F1 ⟨s2.hh, Same.refl _, st.fh.trans s2.hh, fun b o e => .inl e⟩ (flat_any o hfl)
end
end L2

namespace L2
open PySem PySem.Spec PyProof.Rows
theorem gAdd_i {i j : Int} : gAdd (.int i) (.int j) = some (.leaf (.int (i + j))) := rfl
theorem gAdd_s {x y : Str} (h : x.length + y.length ≤ sizeLine) : gAdd (.str x) (.str y) = some (.leaf (.str (x ++ y))) := if_pos h
theorem gAdd_l {l m : List Dt} (h : l.length + m.length ≤ sizeLine) : gAdd (.lst l) (.lst m) = some (.lst (l ++ m)) := if_pos h
theorem gAdd_t {l m : List Dt} (h : l.length + m.length ≤ sizeLine ∧ l ≠ [] ∧ m ≠ []) : gAdd (.tup l) (.tup m) = some (.leaf (.tup (l ++ m))) := if_pos h
theorem gSub_i {i j : Int} : gSubD (.int i) (.int j) = some (.leaf (.int (i - j))) := rfl
theorem gMul_i {i j : Int} (h : mulOk i j = true) : gMul (.int i) (.int j) = some (.leaf (.int (i * j))) := if_pos h
theorem divOk_of {j : Int} (h0 : 0 < j) (h1 : j < 1073741824) : divOk j = true := by
  unfold divOk
  simp [h0, h1]
theorem gDiv_i {i j : Int} (h0 : 0 < j) (h1 : j < 1073741824) : gDiv (.int i) (.int j) = some (.leaf (.int (i / j))) := if_pos (divOk_of h0 h1)
theorem gMod_i {i j : Int} (h : 0 < j) : gMod (.int i) (.int j) = some (.leaf (.int (i % j))) := if_pos h
theorem gPow_i {i j : Int} (h : powOk i j = true) : gPow (.int i) (.int j) = some (.leaf (.int (i ^ j.toNat))) := if_pos h
theorem powOk_40 : powOk 2 40 = true := by decide
theorem powOk_39 : powOk 2 39 = true := by decide
@[irreducible] def wide : Int := 1099511627776
theorem wide_eq : wide = 1099511627776 := by unfold wide; rfl
theorem gPow_40 : gPow (.int 2) (.int 40) = some (.leaf (.int wide)) := by
  rw [gPow_i powOk_40, wide_eq]
  rfl
theorem wide_pos : (0 : Int) < wide := by rw [wide_eq]; decide
theorem gMod_w {i : Int} : gMod (.int i) (.int wide) = some (.leaf (.int (i % wide))) := gMod_i wide_pos
theorem gBit_i {f : Int → Int → Int} {i j : Int} : gBit f (.int i) (.int j) = some (.leaf (.int (f i j))) := rfl
theorem gCmp_i {f : Int → Int → Bool} {i j : Int} : gCmp f (.int i) (.int j) = some (.leaf (.bl (f i j))) := rfl
theorem eqD_i {i j : Int} : eqD (.int i) (.int j) = some (decide (i = j)) := rfl
theorem eqD_s {i j : Str} : eqD (.str i) (.str j) = some (decide (i = j)) := rfl
theorem eqD_b {i j : Bool} : eqD (.bl i) (.bl j) = some (decide (i = j)) := rfl
theorem eqD_is {i : Int} {x : Str} : eqD (.int i) (.str x) = some false := rfl
theorem eqD_si {i : Int} {x : Str} : eqD (.str x) (.int i) = some false := rfl
theorem eqD_ns {x : Str} : eqD .non (.str x) = some false := rfl
theorem eqD_sn {x : Str} : eqD (.str x) .non = some false := rfl
theorem eqD_ni {x : Int} : eqD .non (.int x) = some false := rfl
theorem eqD_in {x : Int} : eqD (.int x) .non = some false := rfl
theorem eqD_nn : eqD .non .non = some true := rfl
theorem eqD_t {l m : List Dt} (h : (cmpbs l m && decide (deeps l ≤ 59)) = true) : eqD (.tup l) (.tup m) = some (peqs l m) := if_pos h
theorem eqD_l {l m : List Dt} (h : (cmpbs l m && decide (deeps l ≤ 59)) = true) : eqD (.lst l) (.lst m) = some (peqs l m) := if_pos h
theorem gEq_of {neg : Bool} {x y : Dt} {b : Bool} (h : eqD x y = some b) : gEq neg x y = some (.leaf (.bl (if neg then !b else b))) := by
  unfold gEq
  rw [h]
  rfl
theorem gEq_ii {i j : Int} : gEq false (.int i) (.int j) = some (.leaf (.bl (decide (i = j)))) := rfl
theorem gEq_ss {i j : Str} : gEq false (.str i) (.str j) = some (.leaf (.bl (decide (i = j)))) := rfl
theorem gEq_bb {i j : Bool} : gEq false (.bl i) (.bl j) = some (.leaf (.bl (decide (i = j)))) := rfl
theorem gEq_is {i : Int} {x : Str} : gEq false (.int i) (.str x) = some (.leaf (.bl false)) := rfl
theorem gEq_si {i : Int} {x : Str} : gEq false (.str x) (.int i) = some (.leaf (.bl false)) := rfl
theorem gEq_ns {x : Str} : gEq false .non (.str x) = some (.leaf (.bl false)) := rfl
theorem gEq_sn {x : Str} : gEq false (.str x) .non = some (.leaf (.bl false)) := rfl
theorem gEq_ni {x : Int} : gEq false .non (.int x) = some (.leaf (.bl false)) := rfl
theorem gEq_in {x : Int} : gEq false (.int x) .non = some (.leaf (.bl false)) := rfl
theorem gEq_nn : gEq false .non .non = some (.leaf (.bl true)) := rfl
theorem gNe_ii {i j : Int} : gEq true (.int i) (.int j) = some (.leaf (.bl (!decide (i = j)))) := rfl
theorem gNe_ss {i j : Str} : gEq true (.str i) (.str j) = some (.leaf (.bl (!decide (i = j)))) := rfl
theorem gNe_bb {i j : Bool} : gEq true (.bl i) (.bl j) = some (.leaf (.bl (!decide (i = j)))) := rfl
theorem gIs_n {neg : Bool} {x : Dt} : gIs neg x .non = some (.leaf (.bl (if neg then !isNon x else isNon x))) := rfl
theorem gIx_l {l : List Dt} {i : Int} : gIxA (.lst l) (.int i) = (atI l i).map .leaf := rfl
theorem gIx_t {l : List Dt} {i : Int} : gIxA (.tup l) (.int i) = (atI l i).map .leaf := rfl
theorem gIx_s {x : Str} {i : Int} (h : x.length ≤ sizeLine) : gIxA (.str x) (.int i) = (atI x.cps.toList i).map fun c => .leaf (.str ⟨#[c]⟩) := if_pos h
theorem gIx_d {ks : List Key} {l : List Dt} {k : Dt} : gIxA (.dct ks l) k = (keyD k).bind fun k => (lookZ ks l k).map .leaf := rfl
theorem gIn_d {neg : Bool} {ks : List Key} {l : List Dt} {k : Dt} : gInA neg k (.dct ks l) = (keyD k).map fun k => .leaf (.bl (if neg then !(lookZ ks l k).isSome else (lookZ ks l k).isSome)) := rfl
theorem gIn_l {neg : Bool} {x : Dt} {l : List Dt} (h : (flatD x && l.all flatD) = true) : gInA neg x (.lst l) = some (.leaf (.bl (if neg then !(l.any fun y => eqF y x) else l.any fun y => eqF y x))) := by
  cases x <;> simp only [gInA, gIn, inD] <;> first | rw [if_pos h]; rfl | cases h
theorem gIn_t {neg : Bool} {x : Dt} {l : List Dt} (h : (flatD x && l.all flatD) = true) : gInA neg x (.tup l) = some (.leaf (.bl (if neg then !(l.any fun y => eqF y x) else l.any fun y => eqF y x))) := by
  cases x <;> simp only [gInA, gIn, inD] <;> first | rw [if_pos h]; rfl | cases h
theorem gIn_s {neg : Bool} {x y : Str} : gInA neg (.str x) (.str y) = some (.leaf (.bl (if neg then !inS y x else inS y x))) := rfl
theorem gLen_l {l : List Dt} : gLen [.lst l] = some (.leaf (.int l.length)) := rfl
theorem gLen_t {l : List Dt} : gLen [.tup l] = some (.leaf (.int l.length)) := rfl
theorem gLen_s {x : Str} (h : x.length ≤ sizeLine) : gLen [.str x] = some (.leaf (.int x.length)) := if_pos h
theorem gInt_i {i : Int} : gInt [.int i] = some (.leaf (.int i)) := rfl
theorem gInt_b {i : Bool} : gInt [.bl i] = some (.leaf (.int (if i then 1 else 0))) := rfl
theorem gStr_s {x : Str} : gStrA [.str x] = some (.leaf (.str x)) := rfl
theorem gStr_i {i : Int} (h : logOk i = true) : gStrA [.int i] = some (.leaf (.str (toString i))) := if_pos h
theorem gTuple_l {l : List Dt} : gTuple [.lst l] = some (.leaf (.tup l)) := rfl
theorem gTuple_t {l : List Dt} : gTuple [.tup l] = some (.leaf (.tup l)) := rfl
theorem gList_l {l : List Dt} : gList [.lst l] = some (.lst l) := rfl
theorem gList_t {l : List Dt} : gList [.tup l] = some (.lst l) := rfl
theorem rng1_i {j : Int} (h : rngOk j = true) : rng1 [.int j] = some (rangeD 0 j.toNat) := if_pos h
theorem rngOk_of {j : Int} (h0 : -1000000000 ≤ j) (h1 : j ≤ 1000000000) : rngOk j = true := by
  unfold rngOk
  simp only [Bool.and_eq_true, decide_eq_true_eq]
  omega
theorem rng1_n {n : Nat} (h : n ≤ 1000000000) : rng1 [.int n] = some (rangeD 0 n) := by
  rw [rng1_i (rngOk_of (by omega) (by omega))]
  rfl
theorem itD_l {l : List Dt} : itD (.lst l) = some l := rfl
theorem itD_t {l : List Dt} : itD (.tup l) = some l := rfl
theorem itD_s {x : Str} : itD (.str x) = some (signD x) := rfl
theorem truD_b {b : Bool} : truD (.bl b) = some b := rfl
theorem truD_i {i : Int} : truD (.int i) = some (i != 0) := rfl
theorem truD_l {l : List Dt} : truD (.lst l) = some (!l.isEmpty) := rfl
theorem truD_t {l : List Dt} : truD (.tup l) = some (!l.isEmpty) := rfl
theorem truD_n : truD .non = some false := rfl
theorem asB_b {b : Bool} : asB (.leaf (.bl b)) = some b := rfl
theorem asBl_b {b : Bool} : asBl (.bl b) = some b := rfl
theorem asI_i {b : Int} : asI (.int b) = some b := rfl
theorem small {n : Nat} (h : n ≤ 1000000) : n ≤ sizeLine := Nat.le_trans h (by decide)
theorem small_lt {n : Nat} (h : n < 1000000) : n < sizeLine := Nat.lt_of_lt_of_le h (by decide)
theorem vLst_of {f : De → Option (List Dt)} {δ : De} {ds : List Dt} (h : f δ = some ds) (hl : ds.length ≤ 1000000) : vLst f δ = some (.lst ds) := by
  unfold vLst
  rw [h]
  exact if_pos (small hl)
theorem vTup_of {f : De → Option (List Dt)} {δ : De} {ds : List Dt} (h : f δ = some ds) (hl : ds.length ≤ 1000000) : vTup f δ = some (.leaf (.tup ds)) := by
  unfold vTup
  rw [h]
  exact if_pos (small hl)
theorem seq_nx {g1 g2 : De → Option Out} {δ δ' : De} (h : g1 δ = some (.nx δ')) : sSeq g1 g2 δ = g2 δ' := by
  unfold sSeq
  rw [h]
  rfl
theorem seq_rt {g1 g2 : De → Option Out} {δ : De} {t : T} (h : g1 δ = some (.rt t)) : sSeq g1 g2 δ = some (.rt t) := by
  unfold sSeq
  rw [h]
  rfl
theorem run_rt {m : Nat} {g : De → Option Out} {ds : List Dt} {t : T} (h : g (ds.map (fun d => some (.leaf d)) ++ List.replicate (m - ds.length) none) = some (.rt t)) : runD m g ds = some t := by
  unfold runD
  rw [h]
theorem compL_map {bb : Dt → De → Option De} {ft : De → Option Bool} {fe : De → Option Dt} {δ : De} {f : Dt → Dt} : ∀ {ds : List Dt}, (∀ d ∈ ds, ∃ δ1, bb d δ = some δ1 ∧ ft δ1 = some true ∧ fe δ1 = some (f d)) → compL bb ft fe δ ds = some (ds.map f)
  | [], _ => rfl
  | d :: r, h => by
    obtain ⟨δ1, h1, h2, h3⟩ := h d List.mem_cons_self
    unfold compL
    rw [h1, Option.bind_some, h2, Option.bind_some, if_pos rfl, h3, Option.bind_some, compL_map fun e he => h e (List.mem_cons_of_mem _ he)]
    rfl
theorem compL_ex {bb : Dt → De → Option De} {ft : De → Option Bool} {fe : De → Option Dt} {δ : De} {P : Dt → Dt → Prop} : ∀ {ds : List Dt}, (∀ d ∈ ds, ∃ δ1 y, bb d δ = some δ1 ∧ ft δ1 = some true ∧ fe δ1 = some y ∧ P d y) → ∃ ys, compL bb ft fe δ ds = some ys ∧ Paired P ds ys
  | [], _ => ⟨[], rfl, .nil⟩
  | d :: r, h => by
    obtain ⟨δ1, y, h1, h2, h3, h4⟩ := h d List.mem_cons_self
    obtain ⟨ys, h5, h6⟩ := compL_ex fun e he => h e (List.mem_cons_of_mem _ he)
    refine ⟨y :: ys, ?_, .cons h4 h6⟩
    unfold compL
    rw [h1, Option.bind_some, h2, Option.bind_some, if_pos rfl, h3, Option.bind_some, h5]
    rfl
theorem compL_filter {bb : Dt → De → Option De} {ft : De → Option Bool} {fe : De → Option Dt} {δ : De} {p : Dt → Bool} {f : Dt → Dt} : ∀ {ds : List Dt}, (∀ d ∈ ds, ∃ δ1, bb d δ = some δ1 ∧ ft δ1 = some (p d) ∧ (p d = true → fe δ1 = some (f d))) → compL bb ft fe δ ds = some ((ds.filter p).map f)
  | [], _ => rfl
  | d :: r, h => by
    obtain ⟨δ1, h1, h2, h3⟩ := h d List.mem_cons_self
    have ih := compL_filter fun e he => h e (List.mem_cons_of_mem _ he)
    unfold compL
    rw [h1, Option.bind_some, h2, Option.bind_some]
    cases hp : p d with
    | true =>
      rw [if_pos rfl, h3 hp, Option.bind_some, ih, List.filter_cons_of_pos hp]
      rfl
    | false =>
      rw [if_neg (by simp), ih, List.filter_cons_of_neg (by simp [hp])]
theorem mem_range {lo : Int} {n : Nat} {d : Dt} (h : d ∈ rangeD lo n) : ∃ i : Nat, i < n ∧ d = .int (lo + i) := by
  unfold rangeD at h
  obtain ⟨i, hi, rfl⟩ := List.mem_map.mp h
  exact ⟨i, List.mem_range.mp hi, rfl⟩
theorem range_len {lo : Int} {n : Nat} : (rangeD lo n).length = n := by simp [rangeD]
theorem vComp_of {src : List (Option Nat)} {fi : De → Option (List Dt)} {bb : Dt → De → Option De} {ft : De → Option Bool} {fe : De → Option Dt} {δ : De} {ds ys : List Dt} (h1 : fi δ = some ds) (h2 : compL bb ft fe (dC src δ) ds = some ys) (h3 : ys.length ≤ 1000000) : vComp src fi bb ft fe δ = some (.lst ys) := by
  unfold vComp
  rw [h1, Option.bind_some, h2, Option.bind_some]
  exact if_pos (small h3)
theorem forD_inv {bb : Dt → De → Option De} {g : De → Option Out} (P : List Dt → De → Prop) : ∀ (ds done : List Dt) (δ : De), P done δ → (∀ done d δ, d ∈ ds → P done δ → ∃ δ1 δ2, bb d δ = some δ1 ∧ (g δ1 = some (.nx δ2) ∨ g δ1 = some (.ct δ2)) ∧ P (done ++ [d]) δ2) → ∃ δ', forD bb g ds δ = some (.nx δ') ∧ P (done ++ ds) δ'
  | [], done, δ, h, _ => ⟨δ, rfl, by simpa using h⟩
  | d :: r, done, δ, h, hs => by
    obtain ⟨δ1, δ2, h1, h2, h3⟩ := hs done d δ List.mem_cons_self h
    obtain ⟨δ', h4, h5⟩ := forD_inv P r (done ++ [d]) δ2 h3 fun dn e δ he => hs dn e δ (List.mem_cons_of_mem _ he)
    refine ⟨δ', ?_, by simpa using h5⟩
    unfold forD
    rw [h1, Option.bind_some]
    rcases h2 with h2 | h2 <;> rw [h2, Option.bind_some] <;> exact h4
theorem forD_nil {bb : Dt → De → Option De} {g : De → Option Out} {δ : De} : forD bb g [] δ = some (.nx δ) := rfl
theorem forD_cons {bb : Dt → De → Option De} {g : De → Option Out} {d : Dt} {r : List Dt} {δ δ1 δ2 : De} (h1 : bb d δ = some δ1) (h2 : g δ1 = some (.nx δ2)) : forD bb g (d :: r) δ = forD bb g r δ2 := by
  show ((bb d δ).bind fun δ1 => (g δ1).bind fun o => match o with | .nx δ2 => forD bb g r δ2 | .ct δ2 => forD bb g r δ2 | .bk δ2 => some (.nx δ2) | .rt t => some (.rt t)) = _
  rw [h1, Option.bind_some, h2]
  rfl
theorem atI_c0 {α : Type} {x : α} {l : List α} : atI (x :: l) 0 = some x := by
  unfold atI ixN
  simp
theorem atI_nat' {α : Type} {l : List α} {k : Nat} : atI l (k : Int) = l[k]? := by
  unfold atI ixN
  rw [if_pos (by omega)]
  by_cases h : k < l.length
  · rw [if_pos (by omega)]
    simp
  · rw [if_neg (by omega)]
    simp
    omega
theorem gMul_l {i j : Int} (h1 : -1000000000000000000 < i) (h2 : i < 1000000000000000000) : gMul (.int i) (.int j) = some (.leaf (.int (i * j))) := gMul_i (mulOk_l h1 h2)
theorem gMul_r {i j : Int} (h1 : -1000000000000000000 < j) (h2 : j < 1000000000000000000) : gMul (.int i) (.int j) = some (.leaf (.int (i * j))) := gMul_i (mulOk_r h1 h2)
def thenO (o : Option Out) (g : De → Option Out) : Option Out := o.bind fun o => match o with
  | .nx δ' => g δ'
  | o => some o
theorem sSeq_d {g1 g2 : De → Option Out} {δ : De} : sSeq g1 g2 δ = thenO (g1 δ) g2 := rfl
theorem thenO_nx {δ : De} {g : De → Option Out} : thenO (some (.nx δ)) g = g δ := rfl
theorem thenO_rt {t : T} {g : De → Option Out} : thenO (some (.rt t)) g = some (.rt t) := rfl
theorem thenO_bk {δ : De} {g : De → Option Out} : thenO (some (.bk δ)) g = some (.bk δ) := rfl
theorem thenO_ct {δ : De} {g : De → Option Out} : thenO (some (.ct δ)) g = some (.ct δ) := rfl
def finO : Option Out → Option T
  | some (.rt t) => some t
  | some (.nx _) => some (.leaf .non)
  | _ => none
theorem runD_d {m : Nat} {g : De → Option Out} {ds : List Dt} : runD m g ds = finO (g (ds.map (fun d => some (.leaf d)) ++ List.replicate (m - ds.length) none)) := rfl
theorem finO_rt {t : T} : finO (some (.rt t)) = some t := rfl
theorem finO_nx {δ : De} : finO (some (.nx δ)) = some (.leaf .non) := rfl
def condO {α : Type} (b : Option Bool) (f g : De → Option α) (δ : De) : Option α := b.bind fun b => if b then f δ else g δ
theorem condO_t {α : Type} {f g : De → Option α} {δ : De} : condO (some true) f g δ = f δ := rfl
theorem condO_f {α : Type} {f g : De → Option α} {δ : De} : condO (some false) f g δ = g δ := rfl
theorem condO_p {α : Type} {f g : De → Option α} {δ : De} {b : Bool} (h : b = true) : condO (some b) f g δ = f δ := by subst h; rfl
theorem condO_n {α : Type} {f g : De → Option α} {δ : De} {b : Bool} (h : b = false) : condO (some b) f g δ = g δ := by subst h; rfl
theorem sIf_d {c : De → Option Bool} {g1 g2 : De → Option Out} {δ : De} : sIf c g1 g2 δ = condO (c δ) g1 g2 δ := rfl
theorem vIf_d {c : De → Option Bool} {g1 g2 : De → Option T} {δ : De} : vIf c g1 g2 δ = condO (c δ) g1 g2 δ := rfl
def kB (b : Bool) : De → Option Bool := fun _ => some b
def kT (b : Bool) : De → Option T := fun _ => some (.leaf (.bl b))
theorem kB_d {b : Bool} {δ : De} : kB b δ = some b := rfl
theorem kT_d {b : Bool} {δ : De} : kT b δ = some (.leaf (.bl b)) := rfl
theorem fAnd_d {f g : De → Option Bool} {δ : De} : fAnd f g δ = condO (f δ) g (kB false) δ := rfl
theorem fOr_d {f g : De → Option Bool} {δ : De} : fOr f g δ = condO (f δ) (kB true) g δ := rfl
theorem vAnd_d {f : De → Option Dt} {g : De → Option T} {δ : De} : vAnd f g δ = condO ((f δ).bind asBl) g (kT false) δ := by
  unfold vAnd condO kT
  cases f δ with
  | none => rfl
  | some d => rfl
theorem vOr_d {f : De → Option Dt} {g : De → Option T} {δ : De} : vOr f g δ = condO ((f δ).bind asBl) (kT true) g δ := by
  unfold vOr condO kT
  cases f δ with
  | none => rfl
  | some d => rfl
theorem fNot_d {f : De → Option Bool} {δ : De} : fNot f δ = (f δ).map (!·) := rfl
def mkL (ds : List Dt) : Option T := if ds.length ≤ sizeLine then some (.lst ds) else none
def mkTp (ds : List Dt) : Option T := if ds.length ≤ sizeLine then some (.leaf (.tup ds)) else none
theorem mkL_of {ds : List Dt} (h : ds.length ≤ 1000000) : mkL ds = some (.lst ds) := if_pos (small h)
theorem mkTp_of {ds : List Dt} (h : ds.length ≤ 1000000) : mkTp ds = some (.leaf (.tup ds)) := if_pos (small h)
theorem vLst_d {f : De → Option (List Dt)} {δ : De} : vLst f δ = (f δ).bind mkL := rfl
theorem vTup_d {f : De → Option (List Dt)} {δ : De} : vTup f δ = (f δ).bind mkTp := rfl
theorem vComp_d {src : List (Option Nat)} {fi : De → Option (List Dt)} {bb : Dt → De → Option De} {ft : De → Option Bool} {fe : De → Option Dt} {δ : De} : vComp src fi bb ft fe δ = (fi δ).bind fun ds => (compL bb ft fe (dC src δ) ds).bind mkL := rfl
def appL (l : List Dt) (i : Nat) (δ : De) (d : Dt) : Option Out := if l.length < sizeLine then some (.nx (δ.set i (some (.lst (l ++ [d]))))) else none
theorem appL_of {l : List Dt} {i : Nat} {δ : De} {d : Dt} (h : l.length < 1000000) : appL l i δ d = some (.nx (δ.set i (some (.lst (l ++ [d]))))) := if_pos (small_lt h)
theorem app_d {i : Nat} {f : De → Option Dt} {δ : De} {l : List Dt} (h : δ[i]? = some (some (.lst l))) : s_append i f δ = (f δ).bind (appL l i δ) := by
  unfold s_append
  rw [h]
  rfl
theorem join_signs (cs : List Nat) : Txt.join "" (cs.map fun c => (⟨#[c]⟩ : Str)) = ⟨cs.toArray⟩ := by
  have e0 : ("" : Str).cps = #[] := by decide +kernel
  have go : ∀ (l : List Nat) (acc : Array Nat), (l.map fun c => (⟨#[c]⟩ : Str)).foldl (fun acc p => acc ++ ("" : Str).cps ++ p.cps) acc = acc ++ l.toArray := by
    intro l
    induction l with
    | nil => intro acc; simp
    | cons c l ih =>
      intro acc
      rw [List.map_cons, List.foldl_cons, ih, e0]
      simp
  unfold Txt.join Builtin.Str.glued
  cases cs with
  | nil => rfl
  | cons c r =>
    show (⟨(r.map fun c => (⟨#[c]⟩ : Str)).foldl (fun acc p => acc ++ ("" : Str).cps ++ p.cps) (#[c] : Array Nat)⟩ : Str) = _
    rw [go]
    simp
theorem joinOk_signs (cs : List Nat) (h : cs.length ≤ 1000) : JoinOk "" (cs.map fun c => (⟨#[c]⟩ : Str)) = true := by
  unfold JoinOk
  have h1 : ∀ y ∈ cs.map (fun c => (⟨#[c]⟩ : Str)), y.length ≤ 1 := fun y hy => by
    obtain ⟨c, _, rfl⟩ := List.mem_map.mp hy
    exact Nat.le_refl _
  rw [StrLaws.joinFits h1 (by rw [List.length_map, show ("" : Str).length = 0 by decide +kernel]; omega)]
  rfl
theorem asStrs_map : ∀ ts : List Str, asStrs (ts.map .str) = some ts
  | [] => rfl
  | t :: r => by
    show (asStrs (r.map .str)).map (t :: ·) = _
    rw [asStrs_map r]
    rfl
def sgD (cs : List Nat) : List Dt := cs.map fun c => .str ⟨#[c]⟩
theorem join_sgD {cs : List Nat} (h : cs.length ≤ 1000) : g_join (.str "") [.lst (sgD cs)] = some (.leaf (.str ⟨cs.toArray⟩)) := by
  have e : sgD cs = (cs.map fun c => (⟨#[c]⟩ : Str)).map .str := by unfold sgD; rw [List.map_map]; rfl
  show (asStrs (sgD cs)).bind _ = _
  rw [e, asStrs_map, Option.bind_some, if_pos (joinOk_signs cs h), join_signs]
theorem paired_sg : ∀ {ds ys : List Dt}, Paired (fun _ y => ∃ c : Nat, y = .str ⟨#[c]⟩) ds ys → ∃ cs : List Nat, ys = sgD cs ∧ cs.length = ds.length
  | _, _, .nil => ⟨[], rfl, rfl⟩
  | _, _, .cons ⟨c, e⟩ t => by
    obtain ⟨cs, e1, e2⟩ := paired_sg t
    exact ⟨c :: cs, by rw [e, e1]; rfl, by simp [e2]⟩
theorem atI_in {α : Type} {xs : List α} {i : Int} (h0 : 0 ≤ i) (h1 : i < xs.length) : ∃ v, atI xs i = some v ∧ v ∈ xs := by
  obtain ⟨n, rfl⟩ := Int.eq_ofNat_of_zero_le h0
  have hn : n < xs.length := by omega
  exact ⟨xs[n], atI_nat (by simp [hn]), List.getElem_mem hn⟩
theorem len_cps (x : Str) : x.length = x.cps.toList.length := by
  show x.cps.size = _
  simp
theorem ix_sign {x : Str} {i : Int} (hl : x.length ≤ 1000000) (h0 : 0 ≤ i) (h1 : i < x.length) : ∃ c, gIxA (.str x) (.int i) = some (.leaf (.str ⟨#[c]⟩)) ∧ c ∈ x.cps.toList := by
  obtain ⟨c, e, hm⟩ := atI_in (xs := x.cps.toList) h0 (by rw [← len_cps]; exact h1)
  refine ⟨c, ?_, hm⟩
  rw [gIx_s (small hl), e]
  rfl
theorem gAdd_ls {l m : List Dt} (h : l.length + m.length ≤ 1000000) : gAdd (.lst l) (.lst m) = some (.lst (l ++ m)) := gAdd_l (small h)
theorem flatD_n : flatD .non = true := rfl
theorem flatD_b {b : Bool} : flatD (.bl b) = true := rfl
theorem flatD_i {i : Int} : flatD (.int i) = true := rfl
theorem flatD_s {x : Str} : flatD (.str x) = true := rfl
theorem eqF_s {x y : Str} : eqF (.str x) (.str y) = decide (x = y) := by
  show (x == y) = _
  rw [Bool.eq_iff_iff]
  simp
theorem eqF_i {x y : Int} : eqF (.int x) (.int y) = decide (x = y) := by
  show (x == y) = _
  rw [Bool.eq_iff_iff]
  simp
theorem eqF_is {x : Int} {y : Str} : eqF (.int x) (.str y) = false := rfl
theorem eqF_si {x : Int} {y : Str} : eqF (.str y) (.int x) = false := rfl
theorem eqF_sn {y : Str} : eqF (.str y) .non = false := rfl
theorem eqF_in {y : Int} : eqF (.int y) .non = false := rfl
theorem eqF_nn : eqF .non .non = true := rfl
theorem cmpbs_flat : ∀ {l m : List Dt}, l.all flatD = true → m.all flatD = true → cmpbs l m = true
  | [], m, _, _ => by cases m <;> simp [cmpbs]
  | _ :: _, [], _, _ => by simp [cmpbs]
  | d :: l, e :: m, h, h' => by
    simp only [List.all_cons, Bool.and_eq_true] at h h'
    simp only [cmpbs, cmpbs_flat h.2 h'.2, Bool.and_true]
    cases d <;> first | (cases h.1; done) | skip
    all_goals cases e <;> first | (cases h'.1; done) | rfl
theorem deeps_flat : ∀ {l : List Dt}, l.all flatD = true → deeps l = 0
  | [], _ => by simp [deeps]
  | d :: l, h => by
    simp only [List.all_cons, Bool.and_eq_true] at h
    simp only [deeps, deeps_flat h.2]
    cases d <;> first | (cases h.1; done) | rfl
theorem gEq_flat {neg : Bool} {l m : List Dt} (hl : l.all flatD = true) (hm : m.all flatD = true) : gEq neg (.lst l) (.lst m) = some (.leaf (.bl (if neg then !peqs l m else peqs l m))) :=
  gEq_of (eqD_l (by rw [cmpbs_flat hl hm, deeps_flat hl]; rfl))
theorem gEq_self {neg : Bool} {l : List Dt} (hl : l.all flatD = true) : gEq neg (.lst l) (.lst l) = some (.leaf (.bl (!neg))) := by
  rw [gEq_flat hl hl, peqs_self]
  cases neg <;> rfl
theorem sFor_d {fi : De → Option (List Dt)} {bb : Dt → De → Option De} {g : De → Option Out} {δ : De} : sFor fi bb g δ = (fi δ).bind fun ds => forD bb g ds δ := rfl
theorem emod_cases (a : Int) {n : Nat} (hn : 0 < n) : ∃ k : Nat, k < n ∧ a % (n : Int) = (k : Int) := by
  have h0 := Int.emod_nonneg a (show (n : Int) ≠ 0 by omega)
  have h1 := Int.emod_lt_of_pos a (show (0 : Int) < n by omega)
  exact ⟨(a % (n : Int)).toNat, by omega, by omega⟩
theorem atI_0 {α : Type} {l : List α} : atI l 0 = l[0]? := atI_nat' (k := 0)
theorem atI_1 {α : Type} {l : List α} : atI l 1 = l[1]? := atI_nat' (k := 1)
theorem atI_2 {α : Type} {l : List α} : atI l 2 = l[2]? := atI_nat' (k := 2)
theorem atI_3 {α : Type} {l : List α} : atI l 3 = l[3]? := atI_nat' (k := 3)
theorem atI_4 {α : Type} {l : List α} : atI l 4 = l[4]? := atI_nat' (k := 4)
theorem atI_5 {α : Type} {l : List α} : atI l 5 = l[5]? := atI_nat' (k := 5)
theorem atI_6 {α : Type} {l : List α} : atI l 6 = l[6]? := atI_nat' (k := 6)
theorem atI_7 {α : Type} {l : List α} : atI l 7 = l[7]? := atI_nat' (k := 7)
theorem atI_8 {α : Type} {l : List α} : atI l 8 = l[8]? := atI_nat' (k := 8)
theorem atI_9 {α : Type} {l : List α} : atI l 9 = l[9]? := atI_nat' (k := 9)
theorem atI_10 {α : Type} {l : List α} : atI l 10 = l[10]? := atI_nat' (k := 10)
theorem atI_11 {α : Type} {l : List α} : atI l 11 = l[11]? := atI_nat' (k := 11)
theorem atI_12 {α : Type} {l : List α} : atI l 12 = l[12]? := atI_nat' (k := 12)
theorem atI_m1 {α : Type} {x : α} {l : List α} : atI (x :: l) (-1) = (x :: l)[l.length]? := by
  unfold atI ixN
  rw [if_neg (by decide), if_pos (by simp only [List.length_cons]; omega)]
  simp only [Option.bind_some]
  congr 1
  simp only [List.length_cons]
  omega
theorem scalT_b {b : Bool} : scalT (.leaf (.bl b)) = some (.leaf (.bl b)) := rfl
theorem scalT_i {b : Int} : scalT (.leaf (.int b)) = some (.leaf (.int b)) := rfl
theorem scalT_s {b : Str} : scalT (.leaf (.str b)) = some (.leaf (.str b)) := rfl
theorem scalT_n : scalT (.leaf .non) = some (.leaf .non) := rfl
theorem forD_at {bb : Dt → De → Option De} {g : De → Option Out} (P : List Dt → De → Prop) (all : List Dt) : ∀ (ds done : List Dt) (δ : De), all = done ++ ds → P done δ → (∀ done d r δ, all = done ++ d :: r → P done δ → ∃ δ1 δ2, bb d δ = some δ1 ∧ (g δ1 = some (.nx δ2) ∨ g δ1 = some (.ct δ2)) ∧ P (done ++ [d]) δ2) → ∃ δ', forD bb g ds δ = some (.nx δ') ∧ P all δ'
  | [], done, δ, ha, h, _ => ⟨δ, rfl, by rw [ha, List.append_nil]; exact h⟩
  | d :: r, done, δ, ha, h, hs => by
    obtain ⟨δ1, δ2, h1, h2, h3⟩ := hs done d r δ ha h
    obtain ⟨δ', h4, h5⟩ := forD_at P all r (done ++ [d]) δ2 (by rw [ha]; simp) h3 hs
    refine ⟨δ', ?_, h5⟩
    unfold forD
    rw [h1, Option.bind_some]
    rcases h2 with h2 | h2 <;> rw [h2, Option.bind_some] <;> exact h4
theorem range_at {lo : Int} {n : Nat} {done r : List Dt} {d : Dt} (h : rangeD lo n = done ++ d :: r) : d = .int (lo + done.length) ∧ done.length < n := by
  have hl : done.length < n := by
    have e := congrArg List.length h
    rw [range_len, List.length_append, List.length_cons] at e
    omega
  have e : (rangeD lo n)[done.length]? = some d := by rw [h]; simp
  unfold rangeD at e
  rw [List.getElem?_map, List.getElem?_range hl] at e
  exact ⟨(Option.some.inj e).symm, hl⟩
end L2

namespace L2
open PySem PySem.Spec PyProof.Rows
def SDic (P : Program) (w : World) (K : PySem.W.Frag) (mg : Str → Option Value) (x : Str) (ks : List Key) (l : List Dt) : Prop :=
  ∃ (a : Addr) (kvs : List (Key × V)) (vs : List (Key × Value)), mg x = some (.ref a) ∧ (a == sysModules) = false ∧ kvs.map (·.1) = ks ∧ (∀ F, Reps K F l (kvs.map (·.2))) ∧ KV kvs vs ∧ ∀ h : Heap, K.In h → h.DictOf (mixKind P w) a vs
def gSg (ks : List Key) (l : List Dt) : Dt → Option T := fun k => (keyD k).bind fun k => (lookZ ks l k).map .leaf
def vSg (ks : List Key) (l : List Dt) (f : De → Option Dt) : De → Option T := fun δ => (f δ).bind (gSg ks l)
def gSi (neg : Bool) (ks : List Key) (l : List Dt) : Dt → Option Bool := fun k => (keyD k).map fun k => if neg then !(lookZ ks l k).isSome else (lookZ ks l k).isSome
def fSi (neg : Bool) (ks : List Key) (l : List Dt) (f : De → Option Dt) : De → Option Bool := fun δ => (f δ).bind (gSi neg ks l)
section
variable {X : Cx} {b : Expr} {fb : De → Option Dt} {pos p : Pos} {x : Str} {sc : Scope} {ks : List Key} {l : List Dt}
def tSg (kvs : List (Key × V)) (ty : TE) : TE := fun σ H Q => ty σ H fun y H1 => ∃ k v, y = kV k ∧ valV kvs k = some v ∧ Q v H1
def tSi (neg : Bool) (kvs : List (Key × V)) (ty : TE) : TE := fun σ H Q => ty σ H fun y H1 => ∃ k, y = kV k ∧ Q (.bl (if neg then !(valV kvs k).isSome else (valV kvs k).isSome)) H1
theorem pe_sg {a : Addr} {kvs : List (Key × V)} {vs : List (Key × Value)} {ty : TE} (h : glOk sc x = true) (hg : X.mg x = some (.ref a)) (rel : KV kvs vs) (hD : ∀ h : Heap, X.K.In h → h.DictOf (mixKind X.prog X.w) a vs) (hb : PE X b ty) (hn : NoSl b) (e1 : ScIs X sc := by rfl) :
    PE X (.Subscript (.Name x p) b pos) (tSg kvs ty) := by
  intro pins s σ H Q I q
  have hx : PE X (.Name x p) (tC (.ref a)) := pe_globD h ⟨_, hg, rfl⟩ e1
  refine subD_of PySem.F.slot_dict_getitem.lookup hn (thn (hx pins s σ H (fun y H1 => y = .ref a ∧ tSg kvs ty σ H1 Q) I ⟨rfl, q⟩) fun u s1 ⟨y0, H1, I1, rx, e0, q1⟩ => thn (hb pins s1 σ H1 _ I1 q1) fun iv s2 ⟨y, H2, I2, ry, k, v, ey, hv, q2⟩ => ?_)
  subst e0 ey
  obtain rfl : u = Value.ref a := rx
  have dd := hD _ I2.kIn
  obtain ⟨w', hw, rw'⟩ := RelO.some_of (v := v) (o := valueAt vs k) (by rw [← hv]; exact rel.val k)
  exact ⟨dd.typeIs, wpAny_getItem_of (kV_is ry) dd.mapOf hw ⟨v, H2, I2.tok _, rw', q2⟩⟩
theorem pc_si {a : Addr} {kvs : List (Key × V)} {vs : List (Key × Value)} {ty : TE} (h : glOk sc x = true) (hg : X.mg x = some (.ref a)) (hs : (a == sysModules) = false) (rel : KV kvs vs) (hD : ∀ h : Heap, X.K.In h → h.DictOf (mixKind X.prog X.w) a vs) (hb : PE X b ty) (e1 : ScIs X sc := by rfl) :
    PC X .In b (.Name x p) (tSi false kvs ty) := by
  intro pins s σ H Q I q
  have hx : PE X (.Name x p) (tC (.ref a)) := pe_globD h ⟨_, hg, rfl⟩ e1
  refine thn (hb pins s σ H _ I q) fun iv s1 ⟨y, H1, I1, ry, k, ey, q1⟩ => thn (hx pins s1 σ H1 (fun y H2 => y = .ref a ∧ Q (.bl (valV kvs k).isSome) H2) I1 ⟨rfl, q1⟩) fun u s2 ⟨y0, H2, I2, rx, e0, q2⟩ => ?_
  subst e0 ey
  obtain rfl : u = Value.ref a := rx
  have dd := hD _ I2.kIn
  refine wpAny_in_of (kV_is ry) hs dd.mapOf ?_
  rw [← (rel.val k).isSome_eq]
  exact ⟨.bl (valV kvs k).isSome, H2, I2.tok _, rfl, q2⟩
theorem pc_sni {a : Addr} {kvs : List (Key × V)} {vs : List (Key × Value)} {ty : TE} (h : glOk sc x = true) (hg : X.mg x = some (.ref a)) (hs : (a == sysModules) = false) (rel : KV kvs vs) (hD : ∀ h : Heap, X.K.In h → h.DictOf (mixKind X.prog X.w) a vs) (hb : PE X b ty) (e1 : ScIs X sc := by rfl) :
    PC X .NotIn b (.Name x p) (tSi true kvs ty) := by
  intro pins s σ H Q I q
  have hx : PE X (.Name x p) (tC (.ref a)) := pe_globD h ⟨_, hg, rfl⟩ e1
  refine thn (hb pins s σ H _ I q) fun iv s1 ⟨y, H1, I1, ry, k, ey, q1⟩ => thn (hx pins s1 σ H1 (fun y H2 => y = .ref a ∧ Q (.bl (!(valV kvs k).isSome)) H2) I1 ⟨rfl, q1⟩) fun u s2 ⟨y0, H2, I2, rx, e0, q2⟩ => ?_
  subst e0 ey
  obtain rfl : u = Value.ref a := rx
  have dd := hD _ I2.kIn
  refine wpAny_notIn_of (kV_is ry) hs dd.mapOf ?_
  rw [← (rel.val k).isSome_eq]
  exact ⟨.bl (!(valV kvs k).isSome), H2, I2.tok _, rfl, q2⟩
theorem do_sg (h : glOk sc x = true) (hm : SDic X.prog X.w X.K X.mg x ks l) (hb : DB X b fb) (e1 : ScIs X sc := by rfl) (hn : NoSl b := by exact fun _ _ => rfl) : DO X (.Subscript (.Name x p) b pos) (vSg ks l fb) := by
  obtain ⟨a, kvs, vs, hg, hs, rfl, hR, rel, hD⟩ := hm
  refine PE.mono (pe_sg h hg rel hD hb hn e1) fun σ H Q ⟨Φ, δ, F, t, hK, en, hf, k⟩ => ?_
  unfold vSg at hf
  obtain ⟨y, hy, hf⟩ := Option.bind_eq_some_iff.mp hf
  obtain ⟨kk, hk, hf⟩ := Option.bind_eq_some_iff.mp hf
  obtain ⟨d, hd, hf⟩ := Option.map_eq_some_iff.mp hf
  cases hf
  refine ⟨Φ, δ, F, y, hK, en, hy, fun v H1 F1 st rv => ?_⟩
  obtain ⟨w, hw, rw'⟩ := look_some (hR F1) hd
  exact ⟨kk, w, keyD_of rv hk, hw, (k.step st).leaf.here st.fh rw'⟩
theorem si_of {neg : Bool} {K : PySem.W.Frag} {kvs : List (Key × V)} (hR : ∀ F, Reps K F l (kvs.map (·.2))) {σ : St} {H : Hp} {Q : Bool → Hp → Prop} (h : tTr K (fSi neg (kvs.map (·.1)) l fb) σ H Q) : tSi neg kvs (tBd K fb) σ H (fun v H' => ∃ c, v = .bl c ∧ Q c H') := by
  obtain ⟨Φ, δ, F, t, hK, en, hf, k⟩ := h
  unfold fSi at hf
  obtain ⟨y, hy, hf⟩ := Option.bind_eq_some_iff.mp hf
  obtain ⟨kk, hk, hf⟩ := Option.map_eq_some_iff.mp hf
  subst hf
  refine ⟨Φ, δ, F, y, hK, en, hy, fun v H1 F1 st rv => ⟨kk, keyD_of rv hk, _, rfl, ?_⟩⟩
  rw [← look_is (hR F1)]
  exact k H1 F1 st
theorem dt_si (h : glOk sc x = true) (hm : SDic X.prog X.w X.K X.mg x ks l) (hb : DB X b fb) (e1 : ScIs X sc := by rfl) (hk : behindInMarks .In (.Name x p) = false := by with_unfolding_all rfl) : DT X (.Compare b [.In] [.Name x p] pos) (fSi false ks l fb) := by
  obtain ⟨a, kvs, vs, hg, hs, rfl, hR, rel, hD⟩ := hm
  exact PT.mono (pt_cmp (pc_si h hg hs rel hD hb e1) hk) fun σ H Q q => si_of hR q
theorem dt_sni (h : glOk sc x = true) (hm : SDic X.prog X.w X.K X.mg x ks l) (hb : DB X b fb) (e1 : ScIs X sc := by rfl) (hk : behindInMarks .NotIn (.Name x p) = false := by with_unfolding_all rfl) : DT X (.Compare b [.NotIn] [.Name x p] pos) (fSi true ks l fb) := by
  obtain ⟨a, kvs, vs, hg, hs, rfl, hR, rel, hD⟩ := hm
  exact PT.mono (pt_cmp (pc_sni h hg hs rel hD hb e1) hk) fun σ H Q q => si_of hR q
end
end L2
namespace L2
open PySem PySem.Spec PyProof.Rows
def sEnt (p : Params) (q : Str × Tok × V × Value) : DictEntry := ⟨PyData.keyHash p q.1, .str q.1 q.2.1, q.2.2.2⟩
theorem sdic_mk {P : Program} {w : World} {K : PySem.W.Frag} {mg : Str → Option Value} {x : Str} {a : Addr} {o : Obj} {ep : Nat} {l : List Dt} (rs : List (Str × Tok × V × Value)) (hm : mg x = some (.ref a)) (hl : K.lookup a = some o) (hc : o.ExactDict) (hd : o.data = .dict (rs.map (sEnt w.params)).toArray ep)
    (hs : (a == sysModules) = false) (hn : (rs.map (·.1)).Nodup) (hv : ∀ r ∈ rs, RelV r.2.2.1 r.2.2.2) (hR : ∀ F, Reps K F l (rs.map (·.2.2.1))) : SDic P w K mg x (rs.map fun r => .inr r.1) l := by
  refine ⟨a, rs.map fun r => (.inr r.1, r.2.2.1), rs.map fun r => (.inr r.1, r.2.2.2), hm, hs, by rw [List.map_map]; rfl, fun F => by rw [List.map_map]; exact hR F, ?_, fun h X => ⟨o, _, ep, X a o hl, hc, hd, ?_, ?_, ?_⟩⟩
  · clear hd hn hR
    induction rs with
    | nil => exact .nil
    | cons r rs ih => exact .cons ⟨rfl, hv r List.mem_cons_self⟩ (ih fun r hr => hv r (List.mem_cons_of_mem _ hr))
  · intro e he
    obtain ⟨r, _, rfl⟩ := List.mem_map.mp (List.mem_toArray.mp he)
    exact ⟨.inr r.1, mixKind_str P w r.1 r.2.1, rfl⟩
  · show Pairs (mixKind P w) (rs.map (sEnt w.params)) _
    clear hd hn hR hv
    induction rs with
    | nil => exact .nil
    | cons r rs ih => exact .cons (mixKind_str P w r.1 r.2.1) rfl ih
  · rw [List.map_map]
    have : (rs.map ((fun x : Key × Value => x.1) ∘ fun r => ((Sum.inr r.1 : Key), r.2.2.2))) = (rs.map (·.1)).map Sum.inr := by rw [List.map_map]; rfl
    rw [this]
    exact List.Pairwise.map _ (fun a b h q => h (Sum.inr.inj q)) hn
theorem rep_stup {K : PySem.W.Frag} {a : Addr} {o : Obj} {its : Array Value} {n : Nat} {xs : List V} {ds : List Dt} (hl : K.lookup a = some o) (hc : o.cls = .type "tuple") (hd : o.data = .seq its n) (hr : Vals xs its.toList) (hz : xs.length ≤ sizeLine) {F : Hp} (hx : Reps K F ds xs) : Rep K F (.tup ds) (.ref a) := by
  simp only [Rep]
  exact ⟨a, xs, rfl, .inr ⟨o, its, n, hl, hc, hd, by rw [← Array.length_toList, ← hr.length]; exact hz, hr⟩, hx⟩
theorem glob_tup {K : PySem.W.Frag} {mg : Str → Option Value} {x : Str} {a : Addr} {o : Obj} {its : Array Value} {n : Nat} {xs : List V} {ds : List Dt} (hm : mg x = some (.ref a)) (hl : K.lookup a = some o) (hc : o.cls = .type "tuple") (hd : o.data = .seq its n) (hr : Vals xs its.toList) (hz : xs.length ≤ sizeLine) (hx : ∀ F, Reps K F ds xs) : GlobD K mg x (.tup ds) :=
  ⟨.ref a, ⟨_, hm, rfl⟩, fun F => rep_stup hl hc hd hr hz (hx F)⟩
theorem ds_no {X : Cx} {ss : List Stmt} : DS X ss (fun _ => none) := fun pins s σ H D I h => by
  obtain ⟨_, _, _, _, _, _, hf, _⟩ := h
  cases hf
inductive RepsI (K : PySem.W.Frag) (F : Hp) : List Dt → List V → Prop
  | nil : RepsI K F [] []
  | cons {d : Dt} {v : V} {l : List Dt} {vs : List V} : Rep K F d v → RepsI K F l vs → RepsI K F (d :: l) (v :: vs)
theorem reps_of {K : PySem.W.Frag} {F : Hp} {l : List Dt} {vs : List V} (h : RepsI K F l vs) : Reps K F l vs := by
  induction h with
  | nil => simp [Reps]
  | cons h _ ih => simp only [Reps]; exact ⟨_, _, rfl, h, ih⟩
end L2

namespace L2
open PySem PySem.Spec PyProof.Rows
section
variable {X : Cx} {elt tg iter : Expr} {ifs : List Expr} {scope : Scope} {pos : Pos} {M : List Str} {src : List (Option Nat)} {wi : TI} {g : TG} {tt : TT} {te : TE}
theorem lcomp_run {pins : List (Addr × Obj)} {s : Shared} {σ : St} {H : Hp} {Q : VK} {cpos : Pos} {use : Option (Value → Sem Unit)} {QQ : Value → Shared → Prop} (S : CmpScope X.N X.env.scope scope M src) (hc : X.calm = true) (hi : PI X tg iter wi) (hg : M.Nodup → ∀ C s H ex, PG (cxC X M scope C s H ex) tg g) (ht : ∀ C s H ex, PTs (cxC X M scope C s H ex) ifs tt)
    (he : ∀ C s H ex, PE (cxC X M scope C s H ex) elt te) (hs : ∀ x, foldedSetIterable iter X.env x = pure x) (I : Inv X pins σ H s) (h : tComp src wi g tt te σ H Q)
    (hfin : ∀ (D C : Addr) (H' : Hp) (s' : Shared) (m : Str → Option Value), Inv X pins σ H' s' → FpOk X pins H' C → s'.heap.Ns C m → Q (.ref D) H' → compPost (model X.prog X.w) X.A X.xe use QQ (.ref D) C (.ok .next) s') :
    wpAny (model X.prog X.w) X.A (comprehension (.ListComp elt [⟨tg, iter, ifs, 0⟩] scope pos) scope X.env cpos (newList []) false (eval iter X.env) use) QQ X.xe s := by
  have hcells : ∀ x ∈ scope.names, x.2 = .free → ∃ c, X.env.cells.lookup x.1 = some c := fun x hx hfr => I.ok.has x.1 (S.free x hx hfr)
  refine wpAny_comprehension_free (use := use) rfl hs (closure_eq hcells) S.kind S.names (thn (hi pins s σ H _ I h) fun v s1 h1 => thn h1 fun itv s2 h2 => ?_)
  obtain ⟨it, fp, tn, J, H2, rfl, I2, T, st2, f2, hq⟩ := h2
  refine wpAny_newObj_type ?_
  have I3 : Inv X pins σ (upd H2 s2.heap.objs.size (.lst [])) { s2 with heap := s2.heap.push { cls := .type "list", dict := none, data := .seq ([] : List Value).toArray }, toks := s2.toks } := I2.lnew (its := []) (ys := []) (t' := s2.toks) .nil (by simp)
  have hD : H2 s2.heap.objs.size = none := I2.fresh
  obtain ⟨W, ⟨m0, w0⟩, turn⟩ := hq _ hD
  generalize hDn : s2.heap.objs.size = D at *
  generalize hs3 : ({ s2 with heap := s2.heap.push { cls := .type "list", dict := none, data := .seq ([] : List Value).toArray }, toks := s2.toks } : Shared) = s3 at *
  have f3 : ∀ b ∈ fp, FpOk X pins (upd H2 D (.lst [])) b := fun b hb => ⟨by
    obtain ⟨o, e, _⟩ := T.obj _ _ st2 b hb
    rw [upd_ne (by rw [← hDn]; exact Nat.ne_of_lt (Heap.lt_size e))]
    exact (f2 b hb).1, (f2 b hb).2⟩
  have k23 : ∀ b o, s2.heap.get? b = some o → s3.heap.get? b = some o := fun b o e => by rw [← hs3]; exact Heap.get?_push_of_some _ e
  have st3 : tn 0 s3.heap := T.keep _ _ _ st2 fun b _ o e => k23 b o e
  have fl3 : ∀ b ∈ fp, b < s3.heap.objs.size := fun b hb => by
    obtain ⟨o, e, _⟩ := T.obj _ _ st3 b hb
    exact Heap.lt_size e
  refine wpAny_newFunctionEnv S.nocell (by intro y hy; simp at hy) (fun h₁ hns₁ hsb₁ => ?_) S.kind
  have k34 : ∀ b o, s3.heap.get? b = some o → h₁.get? b = some o := fun b o e => hsb₁.extBut b o (Nat.ne_of_lt (Heap.lt_size e)) (Heap.get?_push_of_some _ e)
  generalize hs4 : ({ s3 with heap := h₁, toks := s3.toks + ([] : List (Str × Value)).length } : Shared) = s4
  have I4 : Inv (cxC X M scope s3.heap.objs.size s3 (upd H2 D (.lst [])) fp) [] (stC src σ) (upd H2 D (.lst [])) s4 := by
    rw [← hs4]
    exact inv_comp S I3 f3 fl3 hns₁ k34 rfl rfl
  have st4 : tn 0 s4.heap := T.keep _ _ _ st3 fun b _ o e => by rw [← hs4]; exact k34 b o e
  generalize hX' : cxC X M scope s3.heap.objs.size s3 (upd H2 D (.lst [])) fp = X' at *
  have hg' : PG X' tg g := by rw [← hX']; exact hg S.nd _ _ _ _
  have ht' : PTs X' ifs tt := by rw [← hX']; exact ht _ _ _ _
  have he' : PE X' elt te := by rw [← hX']; exact he _ _ _ _
  have eP : X'.prog = X.prog := by rw [← hX']; rfl
  have eW : X'.w = X.w := by rw [← hX']; rfl
  have eK : X'.K = X.K := by rw [← hX']; rfl
  have eA : X'.A = X.A := by rw [← hX']; rfl
  have ex' : X'.xe = fun _ _ => False := by rw [← hX']; rfl
  have ec : X'.calm = true := by rw [← hX']; exact hc
  have eE : X'.env = compEnvC scope (clOf scope.names X.env.cells) s3.heap.objs.size X.env := by rw [← hX']; rfl
  have stat : ∀ {H' : Hp}, (∀ b ∈ fp, H' b = none) → ∀ b ∈ fp, FpOk X' [] H' b := fun hn b hb => by
    rw [← hX']
    refine ⟨hn b hb, Nat.ne_of_lt (fl3 b hb), fun z => ?_, .inl hb, fun x c h => (f3 b hb).2.2.2.2.1 x c (clOf_lookup hcells h), fun p hp => absurd hp (by simp [cxC])⟩
    rcases List.mem_cons.mp (I3.stkSub b z) with q | q
    · exact (f3 b hb).2.1 q
    · exact (f3 b hb).2.2.1 q
  -- behind the block
  have fin : ∀ (H' : Hp) (s' : Shared), Inv X' [] (stC src σ) H' s' → Q (.ref D) H' → compPost (model X.prog X.w) X.A X.xe use QQ (.ref D) s3.heap.objs.size (.ok .next) s' := by
    intro H' s' J' q
    rw [← hX'] at J'
    obtain ⟨m, hn, _⟩ := id J'.loc
    have hC : H' s3.heap.objs.size = none := J'.free
    have un : Un (frs X.stack) fp (upd H2 D (.lst [])) H' s3.heap s'.heap := J'.base
    have IA : Inv X pins σ H' s' := I3.call' (s' := s') (show s'.os = s3.os from J'.os) un J'.hok J'.bare fun b hb => ⟨(f3 b hb).2.2.2.1, (f3 b hb).2.1, (f3 b hb).2.2.2.2.1, (f3 b hb).2.2.2.2.2⟩
    exact hfin D _ H' s' m IA (I3.fpOk (Nat.le_refl _) hC) hn q
  have loop : ∀ s4' : Shared, s4' = s4 → codeAny (model X.prog X.w) X.A (.compLoop (.ListComp elt [⟨tg, iter, ifs, 0⟩] scope pos) 0 (.ref it) (.ref D) X'.env) (compPost (model X.prog X.w) X.A X.xe use QQ (.ref D) s3.heap.objs.size) s4' := by
    rintro _ rfl
    refine compLoop_gen (fun n s' => ∃ i H', Inv X' [] (stC src σ) H' s' ∧ tn i s'.heap ∧ (∀ b ∈ fp, H' b = none) ∧ W i n H') ?_ m0 ⟨0, _, I4, st4, fun b hb => (f3 b hb).1, w0⟩
    rintro n s5 ⟨i, H5, I5, st5, fr5, w5⟩
    rcases turn i n H5 w5 with ⟨stop, qn⟩ | ⟨go, N, hN, step⟩
    · have := T.done X' eP eW eK ec i [] s5 (stC src σ) H5 (fun _ _ => False) I5 (stat fr5) st5 stop
      rw [eA] at this
      refine thn this fun r s6 ⟨hr, I6⟩ => ?_
      subst hr
      exact fin H5 s6 I6 qn
    · have := T.item X' eP eW eK ec i [] s5 (stC src σ) H5 (fun _ _ => False) I5 (stat fr5) st5 go
      rw [eA] at this
      refine thn this fun r s6 ⟨u, hr, h6⟩ => ?_
      subst hr
      refine thn h6 fun _ s7 ⟨x, H7, I7, r7, y7, st7, fr7⟩ => ?_
      have I7' := I7.pinned (stat fr7) (T.obj _ _ st7)
      have a1 := hg' _ s7 (stC src σ) H7 x u _ I7' r7 (step x H7 y7)
      rw [ex', eP, eW, eA] at a1
      refine thn a1 fun _ s8 ⟨σ8, H8, I8, wk8, q8⟩ => ?_
      have a2 := ht' _ s8 σ8 H8 _ I8 q8
      rw [ex', eP, eW, eA] at a2
      refine thn a2 fun ok s9 ⟨H9, I9, q9⟩ => ?_
      have again : ∀ {H7' : Hp} {s' : Shared}, Inv X' ([] ++ pinsAt fp s7.heap) σ8 H7' s' → N H7' → ∃ m, m < n ∧ ∃ i H', Inv X' [] (stC src σ) H' s' ∧ tn i s'.heap ∧ (∀ b ∈ fp, H' b = none) ∧ W i m H' := fun {H7' s'} J7 n7 => by
        obtain ⟨m', hm, w7⟩ := hN H7' n7
        refine ⟨m', hm, i + 1, H7', J7.unpinned.weak wk8.1 wk8.2, T.keep _ _ _ st7 fun b hb o e => (J7.pin (b, o) (List.mem_append_right _ (List.mem_append_right _ (mem_pinsAt hb e)))).1, fun b hb => ?_, w7⟩
        obtain ⟨o, e, d⟩ := T.obj _ _ st7 b hb
        exact (J7.pin (b, o) (List.mem_append_right _ (List.mem_append_right _ (mem_pinsAt hb e)))).2.1
      cases ok with
      | false => exact again I9 q9
      | true =>
        have a3 := he' _ s9 σ8 H9 _ I9 q9
        rw [ex', eP, eW, eA] at a3
        refine thn a3 fun v s10 ⟨y, H10, I10, r10, ys, hl, hz, q10⟩ => ?_
        have a4 := mt_append (X := X') _ s10 σ8 H10 (.ref D) [y] (.ref D) [v] (fun _ H' => N H') I10 rfl (.cons r10 .nil) ⟨D, ys, y, rfl, rfl, hl, hz, q10⟩
        rw [ex', eP, eW, eA] at a4
        refine thn a4 fun _ s11 ⟨_, H11, I11, _, q11⟩ => ?_
        exact again I11 q11
  have e4 : ∀ c : Env, c = X'.env → codeAny (model X.prog X.w) X.A (.compStart (.ListComp elt [⟨tg, iter, ifs, 0⟩] scope pos) 0 (.ref it) (.ref D) c) (compPost (model X.prog X.w) X.A X.xe use QQ (.ref D) s3.heap.objs.size) s4 := by
    rintro _ rfl
    exact codeAny_compStart_list (loop _ rfl) (T.self _ _ _ _ _ st4 (loop _ rfl))
  exact e4 _ (by rw [eE]; rfl)
theorem ps_setC {i : Nat} {y : Str} {py spos : Pos} (hN : X.N.Nodup) (hi' : X.N[i]? = some y) (hx : Loc X.env.scope y) (hf : X.fn y = true ∨ X.env.scope.names.lookup y = some .local)
    (S : CmpScope X.N X.env.scope scope M src) (hc : X.calm = true) (hi : PI X tg iter wi) (hg : M.Nodup → ∀ C s H ex, PG (cxC X M scope C s H ex) tg g) (ht : ∀ C s H ex, PTs (cxC X M scope C s H ex) ifs tt)
    (he : ∀ C s H ex, PE (cxC X M scope C s H ex) elt te) (hs : ∀ x, foldedSetIterable iter X.env x = pure x)
    (hsw : swapsWith (.ListComp elt [⟨tg, iter, ifs, 0⟩] scope pos) (some (.Name y py)) spos.line X.env = pure true) :
    PS X (.Assign [.Name y py] (.ListComp elt [⟨tg, iter, ifs, 0⟩] scope pos) spos) (tAsg (tComp src wi g tt te) (gName i)) := by
  intro pins s σ H D I h
  rw [exec_Assign_Name_used _ _ _ _ hsw]
  refine wpAny_bind (wpAny_standAt (wpAny_bind ?_))
  show wpAny _ X.A (do let _ ← comprehension (.ListComp elt [⟨tg, iter, ifs, 0⟩] scope pos) scope X.env _ (newList []) false (eval iter X.env) (some (assign (.Name y py) X.env))) _ _ s
  refine wpAny_bind (wpAny_mono (lcomp_run (use := some (assign (.Name y py) X.env)) (QQ := fun _ s' => ∃ σ' H', Inv X pins σ' H' s' ∧ D.nx σ' H') S hc hi hg ht he hs I h ?_) (fun _ s' hq => wpAny_pure (wpAny_pure hq)) fun _ _ e => e)
  intro Dd C H' s' m IA hC hn q
  show wpAny _ X.A (assign (.Name y py) X.env (.ref Dd)) _ _ s'
  refine wpAny_assign_Name (store_ok2 IA hN hi' hx (v := .ref Dd) rfl (fun s2 I2 hsb => ?_) hf)
  obtain ⟨a, sb, ha⟩ := hsb
  have ne : C ≠ a := by
    rcases ha with rfl | ha
    · exact hC.2.1
    · exact Ne.symm (hC.2.2.2.2.1 y a ha)
  refine ⟨m, hn.sameBut sb ne, fun h3 sb3 => ⟨_, H', ?_, q⟩⟩
  have kC : ∀ b o, b ≠ C → s2.heap.get? b = some o → h3.get? b = some o := fun b o hb e => sb3.extBut b o hb e
  have nm : ∀ {b : Addr}, b ∉ [C] → b ≠ C := fun hb z => hb (by rw [z]; exact List.mem_cons_self)
  refine I2.call' (s' := { s2 with heap := h3 }) (ch := [C]) rfl ⟨fun b o e n hb hx => kC b o (nm hx) e, fun b o e n hb hx => ⟨o.slots, kC b o (nm hx) e⟩, fun b o e n hx => n, fun b o e hx => ⟨o, kC b o (nm hx) e⟩, fun b xs e => e, fun b o u e => e, fun b ps e => ⟨#[], by rw [Array.append_empty]; exact e⟩⟩ ?_ I2.bare fun b hb => ?_
  · intro b u e
    have nb : b ≠ C := fun z => by rw [z, hC.1] at e; cases e
    refine (I2.hok b u e).stay (fun c v hc' q => kC c v ?_ q) (fun _ q => q) fun _ _ q => q
    rcases hc' with z | z
    · rw [z]; exact nb
    · intro w; rw [w, hC.1] at z; cases z
  · cases List.mem_singleton.mp hb
    exact ⟨hC.2.2.2.1, hC.2.1, hC.2.2.2.2.1, hC.2.2.2.2.2⟩
end
section
variable {X : Cx} {elt tg iter : Expr} {ifs : List Expr} {scope : Scope} {pos : Pos} {M : List Str} {src : List (Option Nat)} {fi : De → Option (List Dt)} {ft : De → Option Bool} {fe : De → Option Dt} {i : Nat}
theorem ds_setC {sc : Scope} {N : List Str} {y : Str} {py spos : Pos} {ts : List Nat} {bb : Dt → De → Option De} (h : nmOk sc N i y = true) (hl : lcOk sc y = true) (nd : N.Nodup) (S : CmpScope X.N X.env.scope scope M src) (hc : X.calm = true) (hi : DIB X tg iter fi) (hg : M.Nodup → ∀ C s H ex, DG (cxC X M scope C s H ex) tg ts bb)
    (ht : ∀ C s H ex, DTs (cxC X M scope C s H ex) ifs ft) (he : ∀ C s H ex, DL (cxC X M scope C s H ex) elt fe) (hts : (ts.all fun k => decide (src[k]? = some none)) = true) (hs : ∀ x, foldedSetIterable iter X.env x = pure x := by intro _; rfl)
    (e1 : ScIs X sc := by rfl) (e2 : X.N = N := by rfl) (hf : X.fn y = true ∨ X.env.scope.names.lookup y = some .local := by exact .inl rfl) (hsw : swapsWith (.ListComp elt [⟨tg, iter, ifs, 0⟩] scope pos) (some (.Name y py)) spos.line X.env = pure true := by rfl) :
    DS1 X (.Assign [.Name y py] (.ListComp elt [⟨tg, iter, ifs, 0⟩] scope pos) spos) (sSet i (vComp src fi bb ft fe)) := by
  have e1 : X.env.scope = sc := e1
  subst e1 e2
  refine PS.mono (ps_setC (g := gD X.K ts bb) (tt := tTr X.K ft) (te := tL X.K fe) nd (nm_nth h) (lc_loc hl) hf S hc hi (fun nd C s H ex => hg nd C s H ex) (fun C s H ex => ht C s H ex) (fun C s H ex => he C s H ex) hs hsw) fun D σ H ⟨Φ, δ, F, o, hK, en, hf', k⟩ => ?_
  unfold sSet at hf'
  obtain ⟨t, ht', hf'⟩ := Option.map_eq_some_iff.mp hf'
  cases hf'
  exact comp_of S hts σ H _ ⟨Φ, δ, F, t, hK, en, ht', fun v H' F' S st o hs => k _ F' H' (en.put st (hK ▸ o) hs i)⟩
theorem frz_tO {K : PySem.W.Frag} {f : De → Option T} {σ : St} {H : Hp} {Q : VK} (h : tO K (toT (toD f)) σ H Q) : tO K f σ H Q := by
  obtain ⟨Φ, δ, F, t, hK, en, hf, k⟩ := h
  unfold toT toD at hf
  cases ht : f δ with
  | none => rw [ht] at hf; cases hf
  | some u =>
    rw [ht] at hf
    cases hf
    exact ⟨Φ, δ, F, u, hK, en, ht, k.leaf.to⟩
theorem ds_setCf {sc : Scope} {N : List Str} {y : Str} {py spos : Pos} {ts : List Nat} {bb : Dt → De → Option De} (h : nmOk sc N i y = true) (hl : lcOk sc y = true) (nd : N.Nodup) (S : CmpScope X.N X.env.scope scope M src) (hc : X.calm = true) (hi : DIB X tg iter fi) (hg : M.Nodup → ∀ C s H ex, DG (cxC X M scope C s H ex) tg ts bb)
    (ht : ∀ C s H ex, DTs (cxC X M scope C s H ex) ifs ft) (he : ∀ C s H ex, DL (cxC X M scope C s H ex) elt fe) (hts : (ts.all fun k => decide (src[k]? = some none)) = true) (hs : ∀ x, foldedSetIterable iter X.env x = pure x := by intro _; rfl)
    (e1 : ScIs X sc := by rfl) (e2 : X.N = N := by rfl) (hf : X.fn y = true ∨ X.env.scope.names.lookup y = some .local := by exact .inl rfl) (hsw : swapsWith (.ListComp elt [⟨tg, iter, ifs, 0⟩] scope pos) (some (.Name y py)) spos.line X.env = pure true := by rfl) :
    DS1 X (.Assign [.Name y py] (.ListComp elt [⟨tg, iter, ifs, 0⟩] scope pos) spos) (sSet i (toT (toD (vComp src fi bb ft fe)))) := by
  have e1 : X.env.scope = sc := e1
  subst e1 e2
  refine PS.mono (ps_setC (g := gD X.K ts bb) (tt := tTr X.K ft) (te := tL X.K fe) nd (nm_nth h) (lc_loc hl) hf S hc hi (fun nd C s H ex => hg nd C s H ex) (fun C s H ex => ht C s H ex) (fun C s H ex => he C s H ex) hs hsw) fun D σ H ⟨Φ, δ, F, o, hK, en, hf', k⟩ => ?_
  unfold sSet at hf'
  obtain ⟨t, ht', hf'⟩ := Option.map_eq_some_iff.mp hf'
  cases hf'
  exact comp_of S hts σ H _ (frz_tO ⟨Φ, δ, F, t, hK, en, ht', fun v H' F' S st o hs => k _ F' H' (en.put st (hK ▸ o) hs i)⟩)
end
end L2
namespace L2
open PySem PySem.Spec PyProof.Rows
def repS (x : Str) (n : Int) : Str := if n < 1 then Str.empty else if (n == 1 || x.length == 0) = true then x else ⟨(List.replicate n.toNat x.cps).foldl (· ++ ·) #[]⟩
def gMulS : Dt → Dt → Option T
  | .str x, .int n => if n < 1 ∨ n = 1 then (if 0 ≤ n then some (.leaf (.str (repS x n))) else none) else none
  | _, _ => none
def rMulS : R2 := fun x y H Q => ∃ z n, x = .str z ∧ y = .int n ∧ (n = 0 ∨ n = 1) ∧ Q (.str (repS z n)) H
theorem op_mulS {X : Cx} : OpR X (binaryOp .Mult) rMulS := by
  intro pins s σ H x y v u Q I rx ry h
  obtain ⟨z, n, rfl, rfl, hb, q⟩ := h
  obtain ⟨t, rfl⟩ := rx
  obtain ⟨t', rfl⟩ := ry
  rcases hb with rfl | rfl
  · exact PySem.P.mul_str_none (by decide) (by decide) ⟨.str (repS z 0), H, I.tok _, ⟨_, rfl⟩, q⟩
  · refine PySem.P.mul_str (by decide) (fun _ h => by cases h) (fun _ h => by cases h) ?_
    rw [if_neg (by decide), if_pos (by rfl)]
    exact ⟨.str (repS z 1), H, I, ⟨t, by unfold repS; rw [if_neg (by decide), if_pos (by rfl)]⟩, q⟩
theorem r_mulS {K : PySem.W.Frag} : R2D K rMulS gMulS := by
  intro F H x y vx vy Q t fh rx ry hg k
  unfold gMulS at hg
  split at hg <;> first | (cases hg; done) | skip
  rename_i x n
  split at hg
  · split at hg
    · cases hg; cases rx; cases ry; exact ⟨_, _, rfl, rfl, by omega, k.str fh⟩
    · cases hg
  · cases hg
end L2

namespace L2
open PySem
theorem ne_copy_op : (Str.ofString "copy" = Str.ofString "op") = False := eq_false (by decide +kernel)
theorem ne_copy_load : (Str.ofString "copy" = Str.ofString "load") = False := eq_false (by decide +kernel)
theorem ne_copy_store : (Str.ofString "copy" = Str.ofString "store") = False := eq_false (by decide +kernel)
theorem ne_copy_take : (Str.ofString "copy" = Str.ofString "take") = False := eq_false (by decide +kernel)
theorem ne_copy_lay : (Str.ofString "copy" = Str.ofString "lay") = False := eq_false (by decide +kernel)
theorem ne_copy_hear : (Str.ofString "copy" = Str.ofString "hear") = False := eq_false (by decide +kernel)
theorem ne_copy_say : (Str.ofString "copy" = Str.ofString "say") = False := eq_false (by decide +kernel)
theorem ne_copy_if : (Str.ofString "copy" = Str.ofString "if") = False := eq_false (by decide +kernel)
theorem ne_copy_go : (Str.ofString "copy" = Str.ofString "go") = False := eq_false (by decide +kernel)
theorem ne_copy_end : (Str.ofString "copy" = Str.ofString "end") = False := eq_false (by decide +kernel)
theorem ne_op_copy : (Str.ofString "op" = Str.ofString "copy") = False := eq_false (by decide +kernel)
theorem ne_op_load : (Str.ofString "op" = Str.ofString "load") = False := eq_false (by decide +kernel)
theorem ne_op_store : (Str.ofString "op" = Str.ofString "store") = False := eq_false (by decide +kernel)
theorem ne_op_take : (Str.ofString "op" = Str.ofString "take") = False := eq_false (by decide +kernel)
theorem ne_op_lay : (Str.ofString "op" = Str.ofString "lay") = False := eq_false (by decide +kernel)
theorem ne_op_hear : (Str.ofString "op" = Str.ofString "hear") = False := eq_false (by decide +kernel)
theorem ne_op_say : (Str.ofString "op" = Str.ofString "say") = False := eq_false (by decide +kernel)
theorem ne_op_if : (Str.ofString "op" = Str.ofString "if") = False := eq_false (by decide +kernel)
theorem ne_op_go : (Str.ofString "op" = Str.ofString "go") = False := eq_false (by decide +kernel)
theorem ne_op_end : (Str.ofString "op" = Str.ofString "end") = False := eq_false (by decide +kernel)
theorem ne_load_copy : (Str.ofString "load" = Str.ofString "copy") = False := eq_false (by decide +kernel)
theorem ne_load_op : (Str.ofString "load" = Str.ofString "op") = False := eq_false (by decide +kernel)
theorem ne_load_store : (Str.ofString "load" = Str.ofString "store") = False := eq_false (by decide +kernel)
theorem ne_load_take : (Str.ofString "load" = Str.ofString "take") = False := eq_false (by decide +kernel)
theorem ne_load_lay : (Str.ofString "load" = Str.ofString "lay") = False := eq_false (by decide +kernel)
theorem ne_load_hear : (Str.ofString "load" = Str.ofString "hear") = False := eq_false (by decide +kernel)
theorem ne_load_say : (Str.ofString "load" = Str.ofString "say") = False := eq_false (by decide +kernel)
theorem ne_load_if : (Str.ofString "load" = Str.ofString "if") = False := eq_false (by decide +kernel)
theorem ne_load_go : (Str.ofString "load" = Str.ofString "go") = False := eq_false (by decide +kernel)
theorem ne_load_end : (Str.ofString "load" = Str.ofString "end") = False := eq_false (by decide +kernel)
theorem ne_store_copy : (Str.ofString "store" = Str.ofString "copy") = False := eq_false (by decide +kernel)
theorem ne_store_op : (Str.ofString "store" = Str.ofString "op") = False := eq_false (by decide +kernel)
theorem ne_store_load : (Str.ofString "store" = Str.ofString "load") = False := eq_false (by decide +kernel)
theorem ne_store_take : (Str.ofString "store" = Str.ofString "take") = False := eq_false (by decide +kernel)
theorem ne_store_lay : (Str.ofString "store" = Str.ofString "lay") = False := eq_false (by decide +kernel)
theorem ne_store_hear : (Str.ofString "store" = Str.ofString "hear") = False := eq_false (by decide +kernel)
theorem ne_store_say : (Str.ofString "store" = Str.ofString "say") = False := eq_false (by decide +kernel)
theorem ne_store_if : (Str.ofString "store" = Str.ofString "if") = False := eq_false (by decide +kernel)
theorem ne_store_go : (Str.ofString "store" = Str.ofString "go") = False := eq_false (by decide +kernel)
theorem ne_store_end : (Str.ofString "store" = Str.ofString "end") = False := eq_false (by decide +kernel)
theorem ne_take_copy : (Str.ofString "take" = Str.ofString "copy") = False := eq_false (by decide +kernel)
theorem ne_take_op : (Str.ofString "take" = Str.ofString "op") = False := eq_false (by decide +kernel)
theorem ne_take_load : (Str.ofString "take" = Str.ofString "load") = False := eq_false (by decide +kernel)
theorem ne_take_store : (Str.ofString "take" = Str.ofString "store") = False := eq_false (by decide +kernel)
theorem ne_take_lay : (Str.ofString "take" = Str.ofString "lay") = False := eq_false (by decide +kernel)
theorem ne_take_hear : (Str.ofString "take" = Str.ofString "hear") = False := eq_false (by decide +kernel)
theorem ne_take_say : (Str.ofString "take" = Str.ofString "say") = False := eq_false (by decide +kernel)
theorem ne_take_if : (Str.ofString "take" = Str.ofString "if") = False := eq_false (by decide +kernel)
theorem ne_take_go : (Str.ofString "take" = Str.ofString "go") = False := eq_false (by decide +kernel)
theorem ne_take_end : (Str.ofString "take" = Str.ofString "end") = False := eq_false (by decide +kernel)
theorem ne_lay_copy : (Str.ofString "lay" = Str.ofString "copy") = False := eq_false (by decide +kernel)
theorem ne_lay_op : (Str.ofString "lay" = Str.ofString "op") = False := eq_false (by decide +kernel)
theorem ne_lay_load : (Str.ofString "lay" = Str.ofString "load") = False := eq_false (by decide +kernel)
theorem ne_lay_store : (Str.ofString "lay" = Str.ofString "store") = False := eq_false (by decide +kernel)
theorem ne_lay_take : (Str.ofString "lay" = Str.ofString "take") = False := eq_false (by decide +kernel)
theorem ne_lay_hear : (Str.ofString "lay" = Str.ofString "hear") = False := eq_false (by decide +kernel)
theorem ne_lay_say : (Str.ofString "lay" = Str.ofString "say") = False := eq_false (by decide +kernel)
theorem ne_lay_if : (Str.ofString "lay" = Str.ofString "if") = False := eq_false (by decide +kernel)
theorem ne_lay_go : (Str.ofString "lay" = Str.ofString "go") = False := eq_false (by decide +kernel)
theorem ne_lay_end : (Str.ofString "lay" = Str.ofString "end") = False := eq_false (by decide +kernel)
theorem ne_hear_copy : (Str.ofString "hear" = Str.ofString "copy") = False := eq_false (by decide +kernel)
theorem ne_hear_op : (Str.ofString "hear" = Str.ofString "op") = False := eq_false (by decide +kernel)
theorem ne_hear_load : (Str.ofString "hear" = Str.ofString "load") = False := eq_false (by decide +kernel)
theorem ne_hear_store : (Str.ofString "hear" = Str.ofString "store") = False := eq_false (by decide +kernel)
theorem ne_hear_take : (Str.ofString "hear" = Str.ofString "take") = False := eq_false (by decide +kernel)
theorem ne_hear_lay : (Str.ofString "hear" = Str.ofString "lay") = False := eq_false (by decide +kernel)
theorem ne_hear_say : (Str.ofString "hear" = Str.ofString "say") = False := eq_false (by decide +kernel)
theorem ne_hear_if : (Str.ofString "hear" = Str.ofString "if") = False := eq_false (by decide +kernel)
theorem ne_hear_go : (Str.ofString "hear" = Str.ofString "go") = False := eq_false (by decide +kernel)
theorem ne_hear_end : (Str.ofString "hear" = Str.ofString "end") = False := eq_false (by decide +kernel)
theorem ne_say_copy : (Str.ofString "say" = Str.ofString "copy") = False := eq_false (by decide +kernel)
theorem ne_say_op : (Str.ofString "say" = Str.ofString "op") = False := eq_false (by decide +kernel)
theorem ne_say_load : (Str.ofString "say" = Str.ofString "load") = False := eq_false (by decide +kernel)
theorem ne_say_store : (Str.ofString "say" = Str.ofString "store") = False := eq_false (by decide +kernel)
theorem ne_say_take : (Str.ofString "say" = Str.ofString "take") = False := eq_false (by decide +kernel)
theorem ne_say_lay : (Str.ofString "say" = Str.ofString "lay") = False := eq_false (by decide +kernel)
theorem ne_say_hear : (Str.ofString "say" = Str.ofString "hear") = False := eq_false (by decide +kernel)
theorem ne_say_if : (Str.ofString "say" = Str.ofString "if") = False := eq_false (by decide +kernel)
theorem ne_say_go : (Str.ofString "say" = Str.ofString "go") = False := eq_false (by decide +kernel)
theorem ne_say_end : (Str.ofString "say" = Str.ofString "end") = False := eq_false (by decide +kernel)
theorem ne_if_copy : (Str.ofString "if" = Str.ofString "copy") = False := eq_false (by decide +kernel)
theorem ne_if_op : (Str.ofString "if" = Str.ofString "op") = False := eq_false (by decide +kernel)
theorem ne_if_load : (Str.ofString "if" = Str.ofString "load") = False := eq_false (by decide +kernel)
theorem ne_if_store : (Str.ofString "if" = Str.ofString "store") = False := eq_false (by decide +kernel)
theorem ne_if_take : (Str.ofString "if" = Str.ofString "take") = False := eq_false (by decide +kernel)
theorem ne_if_lay : (Str.ofString "if" = Str.ofString "lay") = False := eq_false (by decide +kernel)
theorem ne_if_hear : (Str.ofString "if" = Str.ofString "hear") = False := eq_false (by decide +kernel)
theorem ne_if_say : (Str.ofString "if" = Str.ofString "say") = False := eq_false (by decide +kernel)
theorem ne_if_go : (Str.ofString "if" = Str.ofString "go") = False := eq_false (by decide +kernel)
theorem ne_if_end : (Str.ofString "if" = Str.ofString "end") = False := eq_false (by decide +kernel)
theorem ne_go_copy : (Str.ofString "go" = Str.ofString "copy") = False := eq_false (by decide +kernel)
theorem ne_go_op : (Str.ofString "go" = Str.ofString "op") = False := eq_false (by decide +kernel)
theorem ne_go_load : (Str.ofString "go" = Str.ofString "load") = False := eq_false (by decide +kernel)
theorem ne_go_store : (Str.ofString "go" = Str.ofString "store") = False := eq_false (by decide +kernel)
theorem ne_go_take : (Str.ofString "go" = Str.ofString "take") = False := eq_false (by decide +kernel)
theorem ne_go_lay : (Str.ofString "go" = Str.ofString "lay") = False := eq_false (by decide +kernel)
theorem ne_go_hear : (Str.ofString "go" = Str.ofString "hear") = False := eq_false (by decide +kernel)
theorem ne_go_say : (Str.ofString "go" = Str.ofString "say") = False := eq_false (by decide +kernel)
theorem ne_go_if : (Str.ofString "go" = Str.ofString "if") = False := eq_false (by decide +kernel)
theorem ne_go_end : (Str.ofString "go" = Str.ofString "end") = False := eq_false (by decide +kernel)
theorem ne_end_copy : (Str.ofString "end" = Str.ofString "copy") = False := eq_false (by decide +kernel)
theorem ne_end_op : (Str.ofString "end" = Str.ofString "op") = False := eq_false (by decide +kernel)
theorem ne_end_load : (Str.ofString "end" = Str.ofString "load") = False := eq_false (by decide +kernel)
theorem ne_end_store : (Str.ofString "end" = Str.ofString "store") = False := eq_false (by decide +kernel)
theorem ne_end_take : (Str.ofString "end" = Str.ofString "take") = False := eq_false (by decide +kernel)
theorem ne_end_lay : (Str.ofString "end" = Str.ofString "lay") = False := eq_false (by decide +kernel)
theorem ne_end_hear : (Str.ofString "end" = Str.ofString "hear") = False := eq_false (by decide +kernel)
theorem ne_end_say : (Str.ofString "end" = Str.ofString "say") = False := eq_false (by decide +kernel)
theorem ne_end_if : (Str.ofString "end" = Str.ofString "if") = False := eq_false (by decide +kernel)
theorem ne_end_go : (Str.ofString "end" = Str.ofString "go") = False := eq_false (by decide +kernel)
theorem ns_pl_mi : (Str.ofString "+" = Str.ofString "-") = False := eq_false (by decide +kernel)
theorem ns_pl_ti : (Str.ofString "+" = Str.ofString "*") = False := eq_false (by decide +kernel)
theorem ns_pl_lt : (Str.ofString "+" = Str.ofString "<") = False := eq_false (by decide +kernel)
theorem ns_pl_eq : (Str.ofString "+" = Str.ofString "=") = False := eq_false (by decide +kernel)
theorem ns_pl_an : (Str.ofString "+" = Str.ofString "&") = False := eq_false (by decide +kernel)
theorem ns_pl_or : (Str.ofString "+" = Str.ofString "|") = False := eq_false (by decide +kernel)
theorem ns_pl_xo : (Str.ofString "+" = Str.ofString "^") = False := eq_false (by decide +kernel)
theorem ns_mi_pl : (Str.ofString "-" = Str.ofString "+") = False := eq_false (by decide +kernel)
theorem ns_mi_ti : (Str.ofString "-" = Str.ofString "*") = False := eq_false (by decide +kernel)
theorem ns_mi_lt : (Str.ofString "-" = Str.ofString "<") = False := eq_false (by decide +kernel)
theorem ns_mi_eq : (Str.ofString "-" = Str.ofString "=") = False := eq_false (by decide +kernel)
theorem ns_mi_an : (Str.ofString "-" = Str.ofString "&") = False := eq_false (by decide +kernel)
theorem ns_mi_or : (Str.ofString "-" = Str.ofString "|") = False := eq_false (by decide +kernel)
theorem ns_mi_xo : (Str.ofString "-" = Str.ofString "^") = False := eq_false (by decide +kernel)
theorem ns_ti_pl : (Str.ofString "*" = Str.ofString "+") = False := eq_false (by decide +kernel)
theorem ns_ti_mi : (Str.ofString "*" = Str.ofString "-") = False := eq_false (by decide +kernel)
theorem ns_ti_lt : (Str.ofString "*" = Str.ofString "<") = False := eq_false (by decide +kernel)
theorem ns_ti_eq : (Str.ofString "*" = Str.ofString "=") = False := eq_false (by decide +kernel)
theorem ns_ti_an : (Str.ofString "*" = Str.ofString "&") = False := eq_false (by decide +kernel)
theorem ns_ti_or : (Str.ofString "*" = Str.ofString "|") = False := eq_false (by decide +kernel)
theorem ns_ti_xo : (Str.ofString "*" = Str.ofString "^") = False := eq_false (by decide +kernel)
theorem ns_lt_pl : (Str.ofString "<" = Str.ofString "+") = False := eq_false (by decide +kernel)
theorem ns_lt_mi : (Str.ofString "<" = Str.ofString "-") = False := eq_false (by decide +kernel)
theorem ns_lt_ti : (Str.ofString "<" = Str.ofString "*") = False := eq_false (by decide +kernel)
theorem ns_lt_eq : (Str.ofString "<" = Str.ofString "=") = False := eq_false (by decide +kernel)
theorem ns_lt_an : (Str.ofString "<" = Str.ofString "&") = False := eq_false (by decide +kernel)
theorem ns_lt_or : (Str.ofString "<" = Str.ofString "|") = False := eq_false (by decide +kernel)
theorem ns_lt_xo : (Str.ofString "<" = Str.ofString "^") = False := eq_false (by decide +kernel)
theorem ns_eq_pl : (Str.ofString "=" = Str.ofString "+") = False := eq_false (by decide +kernel)
theorem ns_eq_mi : (Str.ofString "=" = Str.ofString "-") = False := eq_false (by decide +kernel)
theorem ns_eq_ti : (Str.ofString "=" = Str.ofString "*") = False := eq_false (by decide +kernel)
theorem ns_eq_lt : (Str.ofString "=" = Str.ofString "<") = False := eq_false (by decide +kernel)
theorem ns_eq_an : (Str.ofString "=" = Str.ofString "&") = False := eq_false (by decide +kernel)
theorem ns_eq_or : (Str.ofString "=" = Str.ofString "|") = False := eq_false (by decide +kernel)
theorem ns_eq_xo : (Str.ofString "=" = Str.ofString "^") = False := eq_false (by decide +kernel)
theorem ns_an_pl : (Str.ofString "&" = Str.ofString "+") = False := eq_false (by decide +kernel)
theorem ns_an_mi : (Str.ofString "&" = Str.ofString "-") = False := eq_false (by decide +kernel)
theorem ns_an_ti : (Str.ofString "&" = Str.ofString "*") = False := eq_false (by decide +kernel)
theorem ns_an_lt : (Str.ofString "&" = Str.ofString "<") = False := eq_false (by decide +kernel)
theorem ns_an_eq : (Str.ofString "&" = Str.ofString "=") = False := eq_false (by decide +kernel)
theorem ns_an_or : (Str.ofString "&" = Str.ofString "|") = False := eq_false (by decide +kernel)
theorem ns_an_xo : (Str.ofString "&" = Str.ofString "^") = False := eq_false (by decide +kernel)
theorem ns_or_pl : (Str.ofString "|" = Str.ofString "+") = False := eq_false (by decide +kernel)
theorem ns_or_mi : (Str.ofString "|" = Str.ofString "-") = False := eq_false (by decide +kernel)
theorem ns_or_ti : (Str.ofString "|" = Str.ofString "*") = False := eq_false (by decide +kernel)
theorem ns_or_lt : (Str.ofString "|" = Str.ofString "<") = False := eq_false (by decide +kernel)
theorem ns_or_eq : (Str.ofString "|" = Str.ofString "=") = False := eq_false (by decide +kernel)
theorem ns_or_an : (Str.ofString "|" = Str.ofString "&") = False := eq_false (by decide +kernel)
theorem ns_or_xo : (Str.ofString "|" = Str.ofString "^") = False := eq_false (by decide +kernel)
theorem ns_xo_pl : (Str.ofString "^" = Str.ofString "+") = False := eq_false (by decide +kernel)
theorem ns_xo_mi : (Str.ofString "^" = Str.ofString "-") = False := eq_false (by decide +kernel)
theorem ns_xo_ti : (Str.ofString "^" = Str.ofString "*") = False := eq_false (by decide +kernel)
theorem ns_xo_lt : (Str.ofString "^" = Str.ofString "<") = False := eq_false (by decide +kernel)
theorem ns_xo_eq : (Str.ofString "^" = Str.ofString "=") = False := eq_false (by decide +kernel)
theorem ns_xo_an : (Str.ofString "^" = Str.ofString "&") = False := eq_false (by decide +kernel)
theorem ns_xo_or : (Str.ofString "^" = Str.ofString "|") = False := eq_false (by decide +kernel)
end L2

seal L2.PE L2.PS L2.PSs L2.PT L2.PW L2.PA L2.PI L2.PG L2.PTs L2.PO L2.PGs L2.CallR L2.OpR L2.IxR L2.SlR L2.MtR L2.UnR L2.DO L2.DL L2.DB L2.DT L2.DW L2.DS L2.DS1 L2.R2D L2.CRD L2.MRD L2.DG L2.DGs L2.DIF L2.DIB L2.DTs L2.DP
namespace P21
open PySem L2
def top (i : Nat) : Stmt := PySem.Challenge.pw_dimhouse_k21_ways_and_values.main.body.getD i (.Pass ⟨0, 0, 0, 0⟩)
def c_WIDE : Dt := (.int 1099511627776)
def F__law_cell_at : List Dt → Option T := runD 2 ((sSeq (sIf (tB2 (gCmp fun i j => decide (i < j)) (vB 1) (toD (vCall gLen (aCons (vB 0) aNil)))) (sRet (d2 gIxA (vB 0) (vB 1))) sNil)
    (sRet (toT (kD (.int 0))))))
def F__law_bit : List Dt → Option T := runD 3 ((sSeq (sIf (tB2 (gEq false) (vB 0) (kD (.str "&"))) (sRet (d2 gMul (vB 1) (vB 2))) sNil)
    (sSeq (sIf (tB2 (gEq false) (vB 0) (kD (.str "|"))) (sRet (d2 gSubD (toD (d2 gAdd (vB 1) (vB 2))) (toD (d2 gMul (vB 1) (vB 2))))) sNil)
    (sRet (d2 gMod (toD (d2 gAdd (vB 1) (vB 2))) (kD (.int 2)))))))
def B__law_fits_0 : De → Option Out := (sSeq (sIf (tB2 (gEq true) (toD (d2 gMod (vB 3) (kD (.int 2)))) (toD (vCall F__law_bit (aCons (vL 0) (aCons (toD (d2 gMod (vB 1) (kD (.int 2)))) (aCons (toD (d2 gMod (vB 2) (kD (.int 2)))) aNil)))))) (sRet (toT (kD (.bl false)))) sNil)
    (sSeq (sSet 1 (toT (toD (d2 gDiv (vB 1) (kD (.int 2))))))
    (sSeq (sSet 2 (toT (toD (d2 gDiv (vB 2) (kD (.int 2))))))
    (sSet 3 (toT (toD (d2 gDiv (vB 3) (kD (.int 2)))))))))
def F__law_fits : List Dt → Option T := runD 5 ((sSeq (sIf (tB2 (gEq false) (vB 0) (kD (.str "+"))) (sRet (d2 (gEq false) (toD (d2 gMod (toD (d2 gSubD (toD (d2 gSubD (vB 3) (vB 1))) (vB 2))) (toD (d2 gPow (kD (.int 2)) (kD (.int 40)))))) (kD (.int 0)))) sNil)
    (sSeq (sIf (tB2 (gEq false) (vB 0) (kD (.str "-"))) (sRet (d2 (gEq false) (toD (d2 gMod (toD (d2 gAdd (toD (d2 gSubD (vB 3) (vB 1))) (vB 2))) (toD (d2 gPow (kD (.int 2)) (kD (.int 40)))))) (kD (.int 0)))) sNil)
    (sSeq (sIf (tB2 (gEq false) (vB 0) (kD (.str "*"))) (sRet (d2 (gEq false) (toD (d2 gMod (toD (d2 gSubD (vB 3) (toD (d2 gMul (vB 1) (vB 2))))) (toD (d2 gPow (kD (.int 2)) (kD (.int 40)))))) (kD (.int 0)))) sNil)
    (sSeq (sIf (tB2 (gEq false) (vB 0) (kD (.str "<"))) (sRet (d2 (gEq false) (vB 3) (toD (vCall gInt (aCons (toD (d2 (gCmp fun i j => decide (i < j)) (vB 1) (vB 2))) aNil))))) sNil)
    (sSeq (sIf (tB2 (gEq false) (vB 0) (kD (.str "="))) (sRet (d2 (gEq false) (vB 3) (toD (vCall gInt (aCons (toD (d2 (gEq false) (vB 1) (vB 2))) aNil))))) sNil)
    (sSeq (sFor (fRng rng1 (aCons (kD (.int 40)) aNil)) (bName 4) B__law_fits_0)
    (sRet (d2 (gEq false) (vB 3) (kD (.int 0)))))))))))
def F__law_whole : List Dt → Option T := runD 1 ((sRet (vAnd (toD (vInst "int" (vB 0))) (vNot (toD (vInst "bool" (vB 0)))))))
def B__law_led_0 : De → Option Out := (sIf (fNot (fTru (toD (vCall F__law_whole (aCons (vL 4) aNil))))) (sRet (toT (kD (.bl false)))) sNil)
def B__law_led_1 : De → Option Out := (sSeq (sSet 3 (toT (toD (vLst (aCons (toD (d2 gAdd (vB 2) (kD (.int 1)))) aNil)))))
    (sSeq (sIf (tB2 (gEq false) (toD (d2 gIxA (toD (d2 gIxA (vB 1) (vB 2))) (kD (.int 0)))) (kD (.str "if"))) (sSet 3 (toT (toD (vLst (aCons (toD (d2 gIxA (toD (d2 gIxA (vB 1) (vB 2))) (kD (.int 2)))) (aCons (toD (d2 gAdd (vB 2) (kD (.int 1)))) aNil)))))) sNil)
    (sSeq (sIf (tB2 (gEq false) (toD (d2 gIxA (toD (d2 gIxA (vB 1) (vB 2))) (kD (.int 0)))) (kD (.str "go"))) (sSet 3 (toT (toD (vLst (aCons (toD (d2 gIxA (toD (d2 gIxA (vB 1) (vB 2))) (kD (.int 1)))) aNil))))) sNil)
    (sSeq (sIf (tB2 (gEq false) (toD (d2 gIxA (toD (d2 gIxA (vB 1) (vB 2))) (kD (.int 0)))) (kD (.str "end"))) (sSet 3 (toT (toD (vLst aNil)))) sNil)
    (sSeq (sIf (fOr (fNot (fTru (toD (vInst "tuple" (toD (d2 gIxA (vB 0) (vB 2))))))) (tB2 (gEq true) (toD (vCall gList (aCons (toD (d2 gIxA (vB 0) (vB 2))) aNil))) (vB 3))) (sRet (toT (kD (.bl false)))) sNil)
    (sFor (fIt (toD (d2 gIxA (vB 0) (vB 2)))) (bName 4) B__law_led_0))))))
def F__law_led : List Dt → Option T := runD 5 ((sSeq (sIf (fOr (fNot (fTru (toD (vInst "list" (vB 0))))) (tB2 (gEq true) (toD (vCall gLen (aCons (vB 0) aNil))) (toD (vCall gLen (aCons (vB 1) aNil))))) (sRet (toT (kD (.bl false)))) sNil)
    (sSeq (sFor (fRng rng1 (aCons (toD (vCall gLen (aCons (vB 1) aNil))) aNil)) (bName 2) B__law_led_1)
    (sRet (toT (kD (.bl true)))))))
def E__law_names_0 : De → Option Dt := (toD (d2 gIxA (vB 2) (toD (d2 gMod (toD (d2 gAdd (toD (d2 gDiv (vB 1) (kD (.int 37)))) (toD (d2 gMul (toD (d2 gMul (kD (.int 11)) (vB 0))) (toD (d2 gMod (vB 1) (kD (.int 2)))))))) (kD (.int 26))))))
def E__law_names_1 : De → Option Dt := (toD (d2 gAdd (toD (d2 gAdd (toD (vSl (vB 4) oNone (oSome (vB 3)))) (toD (d2 gIxA (vB 2) (toD (d2 gMod (toD (d2 gAdd (toD (d2 gDiv (vB 1) (kD (.int 42)))) (toD (d2 gMul (kD (.int 5)) (vB 0))))) (kD (.int 26)))))))) (toD (vSl (vB 4) (oSome (vB 3)) oNone))))
def F__law_names : List Dt → Option T := runD 6 ((sSeq (sSet 2 (toT (kD (.str "abcdefghijklmnopqrstuvwxyz"))))
    (sSeq (sSet 3 (toT (toD (d2 gMod (vB 0) (kD (.int 6))))))
    (sSeq (sSet 4 (toT (toD (d2 gMod (toD (d2 gDiv (vB 0) (kD (.int 6)))) (toD (d2 gAdd (vB 3) (kD (.int 1))))))))
    (sSeq (sSet 5 (toT (toD (vMeth g_join (kD (.str "")) (aCons (toD (vComp [none, some 0, some 2] (fRng rng1 (aCons (vL 3) aNil)) (bName 0) tYesD E__law_names_0)) aNil)))))
    (sRet (vComp [none, some 0, some 2, some 4, some 5] (fRng rng1 (aCons (vL 1) aNil)) (bName 0) tYesD E__law_names_1)))))))
def F__law_value_by : List Dt → Option T := runD 1 ((sSeq (sIf (tB2 (gEq false) (toD (d2 gMod (vB 0) (kD (.int 3)))) (kD (.int 0))) (sRet (d2 gMod (toD (d2 gDiv (vB 0) (kD (.int 3)))) (kD (.int 4)))) sNil)
    (sSeq (sIf (tB2 (gEq false) (toD (d2 gMod (vB 0) (kD (.int 3)))) (kD (.int 1))) (sRet (d2 gSubD (toD (d2 gSubD (toD (d2 gPow (kD (.int 2)) (kD (.int 40)))) (kD (.int 1)))) (toD (d2 gMod (toD (d2 gDiv (vB 0) (kD (.int 3)))) (kD (.int 4)))))) sNil)
    (sRet (d2 gMod (toD (d2 gMul (toD (d2 gDiv (vB 0) (kD (.int 3)))) (kD (.int 1664525)))) (toD (d2 gPow (kD (.int 2)) (kD (.int 40)))))))))
def F__law_atom : List Dt → Option T := runD 2 ((sSeq (sIf (tB2 (gEq false) (toD (d2 gMod (vB 0) (kD (.int 3)))) (kD (.int 0))) (sRet (vCall F__law_value_by (aCons (toD (d2 gDiv (vB 0) (kD (.int 3)))) aNil))) sNil)
    (sRet (d2 gIxA (vB 1) (toD (d2 gMod (toD (d2 gDiv (vB 0) (kD (.int 3)))) (toD (vCall gLen (aCons (vB 1) aNil)))))))))
def B__law_stream_0 : De → Option Out := (sSeq (sSet 3 (toT (toD (d2 gMod (toD (d2 gAdd (toD (d2 gAdd (toD (d2 gMul (vB 3) (vB 3))) (toD (d2 gMul (kD (.int 16807)) (vB 3))))) (vB 4))) (kD (.int 2147483629))))))
    (s_append 2 (vL 3)))
def F__law_stream : List Dt → Option T := runD 5 ((sSeq (sSet 2 (vLst aNil))
    (sSeq (sSet 3 (toT (toD (d2 gAdd (toD (d2 gMod (vB 0) (kD (.int 2147483629)))) (kD (.int 69621))))))
    (sSeq (sFor (fRng rng1 (aCons (toD (d2 gAdd (vB 1) (kD (.int 1)))) aNil)) (bName 4) B__law_stream_0)
    (sRet (vSl (vB 2) (oSome (kD (.int 1))) oNone))))))
def F__law_row : List Dt → Option T := runD 6 ((sSeq (sSet 3 (toT (toD (vCall F__law_stream (aCons (vL 0) (aCons (kD (.int 6)) aNil))))))
    (sSeq (sSet 4 (toT (toD (d2 gIxA (vB 1) (toD (d2 gMod (toD (d2 gIxA (vB 3) (kD (.int 1)))) (kD (.int 5))))))))
    (sSeq (sSet 5 (vLst (aCons (toD (vTup (aCons (kD (.str "copy")) (aCons (vL 4) (aCons (toD (vCall F__law_atom (aCons (toD (d2 gIxA (vB 3) (kD (.int 2)))) (aCons (vL 1) aNil)))) aNil))))) (aCons (toD (vTup (aCons (kD (.str "load")) (aCons (vL 4) (aCons (toD (d2 gIxA (vB 1) (kD (.int 5)))) aNil))))) (aCons (toD (vTup (aCons (kD (.str "store")) (aCons (toD (d2 gIxA (vB 1) (kD (.int 6)))) (aCons (toD (vCall F__law_atom (aCons (toD (d2 gIxA (vB 3) (kD (.int 2)))) (aCons (vL 1) aNil)))) aNil))))) aNil)))))
    (sSeq (s_append 5 (toD (vTup (aCons (kD (.str "op")) (aCons (vL 4) (aCons (toD (d2 gIxA (kD (.str "+-*<=&|^")) (toD (d2 gMod (toD (d2 gIxA (vB 3) (kD (.int 5)))) (kD (.int 8)))))) (aCons (toD (vCall F__law_atom (aCons (toD (d2 gIxA (vB 3) (kD (.int 2)))) (aCons (vL 1) aNil)))) (aCons (toD (vCall F__law_atom (aCons (toD (d2 gIxA (vB 3) (kD (.int 3)))) (aCons (vL 1) aNil)))) aNil))))))))
    (sSeq (sSet 5 (d2 gAdd (vB 5) (toD (vLst (aCons (toD (vTup (aCons (kD (.str "take")) (aCons (vL 4) (aCons (toD (d2 gIxA (vB 1) (kD (.int 7)))) (aCons (toD (vCall F__law_atom (aCons (toD (d2 gIxA (vB 3) (kD (.int 2)))) (aCons (vL 1) aNil)))) aNil)))))) (aCons (toD (vTup (aCons (kD (.str "hear")) (aCons (vL 4) aNil)))) (aCons (toD (vTup (aCons (kD (.str "say")) (aCons (toD (vCall F__law_atom (aCons (toD (d2 gIxA (vB 3) (kD (.int 2)))) (aCons (vL 1) aNil)))) aNil)))) aNil)))))))
    (sSeq (s_append 5 (toD (vTup (aCons (kD (.str "lay")) (aCons (toD (d2 gIxA (vB 1) (kD (.int 7)))) (aCons (toD (vCall F__law_atom (aCons (toD (d2 gIxA (vB 3) (kD (.int 2)))) (aCons (vL 1) aNil)))) (aCons (toD (vCall F__law_atom (aCons (toD (d2 gIxA (vB 3) (kD (.int 3)))) (aCons (vL 1) aNil)))) aNil)))))))
    (sSeq (sSet 5 (d2 gAdd (vB 5) (toD (vLst (aCons (toD (vTup (aCons (kD (.str "if")) (aCons (toD (vCall F__law_atom (aCons (toD (d2 gIxA (vB 3) (kD (.int 2)))) (aCons (vL 1) aNil)))) (aCons (toD (d2 gMod (toD (d2 gIxA (vB 3) (kD (.int 4)))) (vB 2))) aNil))))) (aCons (toD (vTup (aCons (kD (.str "go")) (aCons (toD (d2 gMod (toD (d2 gIxA (vB 3) (kD (.int 4)))) (vB 2))) aNil)))) aNil))))))
    (sRet (d2 gIxA (toD (d2 gAdd (vB 5) (toD (vLst (aCons (toD (vTup (aCons (kD (.str "end")) (aCons (toD (vCall F__law_atom (aCons (toD (d2 gIxA (vB 3) (kD (.int 2)))) (aCons (vL 1) aNil)))) aNil)))) aNil))))) (toD (d2 gMod (toD (d2 gIxA (vB 3) (kD (.int 0)))) (kD (.int 11))))))))))))))
def F_number_of : List Dt → Option T := runD 3 ((sSeq (sIf (tB2 (gEq false) (vB 0) (kD (.str "+"))) (sRet (d2 gAdd (vB 1) (vB 2))) sNil)
    (sSeq (sIf (tB2 (gEq false) (vB 0) (kD (.str "-"))) (sRet (d2 gSubD (vB 1) (vB 2))) sNil)
    (sSeq (sIf (tB2 (gEq false) (vB 0) (kD (.str "*"))) (sRet (d2 gMul (vB 1) (vB 2))) sNil)
    (sSeq (sIf (tB2 (gEq false) (vB 0) (kD (.str "<"))) (sRet (vIf (tB2 (gCmp fun i j => decide (i < j)) (vB 1) (vB 2)) (toT (kD (.int 1))) (toT (kD (.int 0))))) sNil)
    (sSeq (sIf (tB2 (gEq false) (vB 0) (kD (.str "="))) (sRet (vIf (tB2 (gEq false) (vB 1) (vB 2)) (toT (kD (.int 1))) (toT (kD (.int 0))))) sNil)
    (sSeq (sIf (tB2 (gEq false) (vB 0) (kD (.str "&"))) (sRet (d2 (gBit Builtin.bitAnd) (vB 1) (vB 2))) sNil)
    (sSeq (sIf (tB2 (gEq false) (vB 0) (kD (.str "|"))) (sRet (d2 (gBit Builtin.bitOr) (vB 1) (vB 2))) sNil)
    (sRet (d2 (gBit Builtin.bitXor) (vB 1) (vB 2)))))))))))
def F_value : List Dt → Option T := runD 3 ((sRet (d2 gMod (toD (vCall F_number_of (aCons (vL 0) (aCons (vL 1) (aCons (vL 2) aNil))))) (kD c_WIDE))))
def F_ways_of : List Dt → Option T := runD 2 ((sSeq (sIf (tB2 (gEq false) (toD (d2 gIxA (vB 1) (kD (.int 0)))) (kD (.str "go"))) (sRet (vTup (aCons (toD (d2 gIxA (vB 1) (kD (.int 1)))) aNil))) sNil)
    (sSeq (sIf (tB2 (gEq false) (toD (d2 gIxA (vB 1) (kD (.int 0)))) (kD (.str "if"))) (sRet (vTup (aCons (toD (d2 gIxA (vB 1) (kD (.int 2)))) (aCons (toD (d2 gAdd (vB 0) (kD (.int 1)))) aNil)))) sNil)
    (sSeq (sIf (tB2 (gEq false) (toD (d2 gIxA (vB 1) (kD (.int 0)))) (kD (.str "end"))) (sRet (vTup aNil)) sNil)
    (sRet (vTup (aCons (toD (d2 gAdd (vB 0) (kD (.int 1)))) aNil)))))))
def E_ways_0 : De → Option Dt := (toD (vCall F_ways_of (aCons (vL 0) (aCons (vL 1) aNil))))
def F_ways : List Dt → Option T := runD 1 ((sRet (vComp [none, none] (fRng enumD (aCons (toD (d2 gIxA (vB 0) (kD (.int 2)))) aNil)) (bTup 2 (bCons (bName 0) (bCons (bName 1) bNil))) tYesD E_ways_0)))
def B_law_0 : De → Option Out := (sSeq (sSet 5 (vCall F_value (aCons (vL 4) (aCons (vL 2) (aCons (vL 3) aNil)))))
    (sIf (fOr (fNot (fTru (toD (vCallB F__law_whole (aCons (vB 5) aNil))))) (fOr (fNot (asBf (vChain (gCmp fun i j => decide (i ≤ j)) (gCmp fun i j => decide (i < j)) (kD (.int 0)) (vB 5) (toD (d2 gPow (kD (.int 2)) (kD (.int 40))))))) (fNot (fTru (toD (vCallB F__law_fits (aCons (vB 4) (aCons (vB 2) (aCons (vB 3) (aCons (vB 5) aNil)))))))))) (sRet (toT (kD (.bl false)))) sNil))
def E_law_0 : De → Option Dt := (toD (vCall F__law_row (aCons (vL 0) (aCons (vL 1) (aCons (vL 2) aNil)))))
def F_law : List Dt → Option T := runD 10 ((sSeq (sSet 1 (toT (toD (vCall F__law_names (aCons (toD (vCall F__law_cell_at (aCons (vL 0) (aCons (kD (.int 0)) aNil)))) (aCons (kD (.int 8)) aNil))))))
    (sSeq (sSet 2 (toT (toD (vCall F__law_value_by (aCons (toD (d2 gMod (toD (vCall F__law_cell_at (aCons (vL 0) (aCons (kD (.int 1)) aNil)))) (kD (.int 2147483629)))) aNil)))))
    (sSeq (sSet 3 (toT (toD (vCall F__law_value_by (aCons (toD (d2 gMod (toD (vCall F__law_cell_at (aCons (vL 0) (aCons (kD (.int 2)) aNil)))) (kD (.int 2147483629)))) aNil)))))
    (sSeq (sIf (tB2 (gEq false) (toD (d2 gMod (toD (vCall F__law_cell_at (aCons (vL 0) (aCons (kD (.int 2)) aNil)))) (kD (.int 5)))) (kD (.int 1))) (sSet 3 (toT (vL 2))) sNil)
    (sSeq (sFor (fIt (kD (.str "+-*<=&|^"))) (bName 4) B_law_0)
    (sSeq (sSet 6 (toT (toD (d2 gAdd (toD (vCall gLen (aCons (toD (vSl (vB 0) (oSome (kD (.int 3))) (oSome (kD (.int 53))))) aNil))) (kD (.int 1))))))
    (sSeq (sSet 7 (toT (toD (d2 gAdd (toD (vComp [none, some 1, some 6] (fIt (toD (vSl (vB 0) (oSome (kD (.int 3))) (oSome (kD (.int 53)))))) (bName 0) tYesD E_law_0)) (toD (vLst (aCons (toD (vTup (aCons (kD (.str "end")) (aCons (vL 3) aNil)))) aNil)))))))
    (sSeq (sSet 8 (toT (toD (vTup (aCons (toD (vTup (aCons (toD (d2 gIxA (vB 1) (kD (.int 5)))) (aCons (vL 2) (aCons (kD (.bl false)) aNil))))) (aCons (toD (vTup (aCons (toD (d2 gIxA (vB 1) (kD (.int 6)))) (aCons (vL 3) (aCons (kD (.bl true)) aNil))))) aNil))))))
    (sSeq (sSet 9 (toT (toD (vTup (aCons (vL 8) (aCons (toD (vTup (aCons (toD (vTup (aCons (toD (d2 gIxA (vB 1) (kD (.int 7)))) (aCons (toD (d2 gAdd (kD (.int 1)) (toD (d2 gMod (vB 2) (kD (.int 8)))))) (aCons (toD (d2 (gEq false) (toD (d2 gMod (vB 3) (kD (.int 2)))) (kD (.int 1)))) aNil))))) aNil))) (aCons (toD (vCall gTuple (aCons (vB 7) aNil))) aNil)))))))
    (sSeq (sSet 5 (vCall F_ways (aCons (vL 9) aNil)))
    (sSeq (sIf (fNot (fTru (toD (vCallB F__law_led (aCons (vB 5) (aCons (vB 7) aNil)))))) (sRet (toT (kD (.bl false)))) sNil)
    (sSeq (s_clear 5)
    (sRet (vCall F__law_led (aCons (toD (vCall F_ways (aCons (vL 9) aNil))) (aCons (vL 7) aNil)))))))))))))))))
structure Txt (P : Program) (w : World) (K : PySem.W.Frag) (mg : Str → Option Value) : Prop where
  n_bool : mg "bool" = none
  n_enumerate : mg "enumerate" = none
  n_int : mg "int" = none
  n_isinstance : mg "isinstance" = none
  n_len : mg "len" = none
  n_list : mg "list" = none
  n_range : mg "range" = none
  n_tuple : mg "tuple" = none
  g_WIDE : GlobD K mg "WIDE" c_WIDE
  k_bool : KindsD K "bool"
  k_int : KindsD K "int"
  k_list : KindsD K "list"
  k_tuple : KindsD K "tuple"
section
variable {P : Program} {w : World} {K : PySem.W.Frag} {mg : Str → Option Value} {base : Heap}
abbrev s__law_cell_at : Stmt := top 7
theorem sc__law_cell_at : FnScope ["_law_script", "_law_k"] ["_law_script", "_law_k"] (defScope s__law_cell_at) := ⟨rfl, rfl, rfl, by decide +kernel, rfl, by decide +kernel, by decide +kernel⟩
theorem nm__law_cell_at_0 : nmOk (defScope s__law_cell_at) ["_law_script", "_law_k"] 0 "_law_script" = true := by decide +kernel
theorem lc__law_cell_at_0 : lcOk (defScope s__law_cell_at) "_law_script" = true := by decide +kernel
theorem nm__law_cell_at_1 : nmOk (defScope s__law_cell_at) ["_law_script", "_law_k"] 1 "_law_k" = true := by decide +kernel
theorem lc__law_cell_at_1 : lcOk (defScope s__law_cell_at) "_law_k" = true := by decide +kernel
theorem gl__law_cell_at_len : glOk (defScope s__law_cell_at) "len" = true := by decide +kernel
theorem ok__law_cell_at (T : Txt P w K mg) (D : DefF K mg "_law_cell_at" s__law_cell_at ["_law_script", "_law_k"]) : OkF P w K mg base "_law_cell_at" 1 ["_law_script", "_law_k"] (spD K 2 F__law_cell_at) :=
  mk_ok D sc__law_cell_at rfl fun f cdv A outer s H E hr => (ds_cons (ds_if (dt_cmp op_lt r_cmp (db_var (pvD 1 nm__law_cell_at_1)) (DO.toB (do_callB gl__law_cell_at_len call_len c_len T.n_len bt_len (dab_cons (db_var (pvD 0 nm__law_cell_at_0)) dab_nil))) (nomark _)) (ds_one (ds_ret (do_ixA hr (db_var (pvD 0 nm__law_cell_at_0)) (db_var (pvD 1 nm__law_cell_at_1))))) ds_nil)
      (ds_one (ds_ret (DL.toO dl_int))))
abbrev s__law_bit : Stmt := top 15
theorem sc__law_bit : FnScope ["_law_sign", "_law_one", "_law_other"] ["_law_sign", "_law_one", "_law_other"] (defScope s__law_bit) := ⟨rfl, rfl, rfl, by decide +kernel, rfl, by decide +kernel, by decide +kernel⟩
theorem nm__law_bit_0 : nmOk (defScope s__law_bit) ["_law_sign", "_law_one", "_law_other"] 0 "_law_sign" = true := by decide +kernel
theorem lc__law_bit_0 : lcOk (defScope s__law_bit) "_law_sign" = true := by decide +kernel
theorem nm__law_bit_1 : nmOk (defScope s__law_bit) ["_law_sign", "_law_one", "_law_other"] 1 "_law_one" = true := by decide +kernel
theorem lc__law_bit_1 : lcOk (defScope s__law_bit) "_law_one" = true := by decide +kernel
theorem nm__law_bit_2 : nmOk (defScope s__law_bit) ["_law_sign", "_law_one", "_law_other"] 2 "_law_other" = true := by decide +kernel
theorem lc__law_bit_2 : lcOk (defScope s__law_bit) "_law_other" = true := by decide +kernel
theorem ok__law_bit (T : Txt P w K mg) (D : DefF K mg "_law_bit" s__law_bit ["_law_sign", "_law_one", "_law_other"]) : OkF P w K mg base "_law_bit" 1 ["_law_sign", "_law_one", "_law_other"] (spD K 3 F__law_bit) :=
  mk_ok D sc__law_bit rfl fun f cdv A outer s H E hr => (ds_cons (ds_if (dt_cmp (op_eqA hr) r_eq (db_var (pvD 0 nm__law_bit_0)) (DL.toB dl_str) (nomark _)) (ds_one (ds_ret (do_bin op_mul r_mul (db_var (pvD 1 nm__law_bit_1)) (db_var (pvD 2 nm__law_bit_2))))) ds_nil)
      (ds_cons (ds_if (dt_cmp (op_eqA hr) r_eq (db_var (pvD 0 nm__law_bit_0)) (DL.toB dl_str) (nomark _)) (ds_one (ds_ret (do_bin op_sub r_sub (DO.toB (do_bin op_addD r_add (db_var (pvD 1 nm__law_bit_1)) (db_var (pvD 2 nm__law_bit_2)))) (DO.toB (do_bin op_mul r_mul (db_var (pvD 1 nm__law_bit_1)) (db_var (pvD 2 nm__law_bit_2))))))) ds_nil)
      (ds_one (ds_ret (do_bin op_mod r_mod (DO.toB (do_bin op_addD r_add (db_var (pvD 1 nm__law_bit_1)) (db_var (pvD 2 nm__law_bit_2)))) (DL.toB dl_int))))))
abbrev s__law_fits : Stmt := top 16
theorem sc__law_fits : FnScope ["_law_sign", "_law_one", "_law_other", "_law_found", "_law_k"] ["_law_sign", "_law_one", "_law_other", "_law_found"] (defScope s__law_fits) := ⟨rfl, rfl, rfl, by decide +kernel, rfl, by decide +kernel, by decide +kernel⟩
theorem nm__law_fits_0 : nmOk (defScope s__law_fits) ["_law_sign", "_law_one", "_law_other", "_law_found", "_law_k"] 0 "_law_sign" = true := by decide +kernel
theorem lc__law_fits_0 : lcOk (defScope s__law_fits) "_law_sign" = true := by decide +kernel
theorem nm__law_fits_1 : nmOk (defScope s__law_fits) ["_law_sign", "_law_one", "_law_other", "_law_found", "_law_k"] 1 "_law_one" = true := by decide +kernel
theorem lc__law_fits_1 : lcOk (defScope s__law_fits) "_law_one" = true := by decide +kernel
theorem nm__law_fits_2 : nmOk (defScope s__law_fits) ["_law_sign", "_law_one", "_law_other", "_law_found", "_law_k"] 2 "_law_other" = true := by decide +kernel
theorem lc__law_fits_2 : lcOk (defScope s__law_fits) "_law_other" = true := by decide +kernel
theorem nm__law_fits_3 : nmOk (defScope s__law_fits) ["_law_sign", "_law_one", "_law_other", "_law_found", "_law_k"] 3 "_law_found" = true := by decide +kernel
theorem lc__law_fits_3 : lcOk (defScope s__law_fits) "_law_found" = true := by decide +kernel
theorem nm__law_fits_4 : nmOk (defScope s__law_fits) ["_law_sign", "_law_one", "_law_other", "_law_found", "_law_k"] 4 "_law_k" = true := by decide +kernel
theorem lc__law_fits_4 : lcOk (defScope s__law_fits) "_law_k" = true := by decide +kernel
theorem gl__law_fits_int : glOk (defScope s__law_fits) "int" = true := by decide +kernel
theorem gl__law_fits_range : glOk (defScope s__law_fits) "range" = true := by decide +kernel
theorem gl__law_fits__law_bit : glOk (defScope s__law_fits) "_law_bit" = true := by decide +kernel
theorem ok__law_fits (T : Txt P w K mg) (D : DefF K mg "_law_fits" s__law_fits ["_law_sign", "_law_one", "_law_other", "_law_found"]) (h__law_bit : OkF P w K mg base "_law_bit" 1 ["_law_sign", "_law_one", "_law_other"] (spD K 3 (F__law_bit))) : OkF P w K mg base "_law_fits" 2 ["_law_sign", "_law_one", "_law_other", "_law_found"] (spD K 4 F__law_fits) :=
  mk_ok D sc__law_fits rfl fun f cdv A outer s H E hr => (ds_cons (ds_if (dt_cmp (op_eqA hr) r_eq (db_var (pvD 0 nm__law_fits_0)) (DL.toB dl_str) (nomark _)) (ds_one (ds_ret (do_cmp (op_eqA hr) r_eq (DO.toB (do_bin op_mod r_mod (DO.toB (do_bin op_sub r_sub (DO.toB (do_bin op_sub r_sub (db_var (pvD 3 nm__law_fits_3)) (db_var (pvD 1 nm__law_fits_1)))) (db_var (pvD 2 nm__law_fits_2)))) (DO.toB (do_bin op_pow r_pow (DL.toB dl_int) (DL.toB dl_int))))) (DL.toB dl_int) (nomark _)))) ds_nil)
      (ds_cons (ds_if (dt_cmp (op_eqA hr) r_eq (db_var (pvD 0 nm__law_fits_0)) (DL.toB dl_str) (nomark _)) (ds_one (ds_ret (do_cmp (op_eqA hr) r_eq (DO.toB (do_bin op_mod r_mod (DO.toB (do_bin op_addD r_add (DO.toB (do_bin op_sub r_sub (db_var (pvD 3 nm__law_fits_3)) (db_var (pvD 1 nm__law_fits_1)))) (db_var (pvD 2 nm__law_fits_2)))) (DO.toB (do_bin op_pow r_pow (DL.toB dl_int) (DL.toB dl_int))))) (DL.toB dl_int) (nomark _)))) ds_nil)
      (ds_cons (ds_if (dt_cmp (op_eqA hr) r_eq (db_var (pvD 0 nm__law_fits_0)) (DL.toB dl_str) (nomark _)) (ds_one (ds_ret (do_cmp (op_eqA hr) r_eq (DO.toB (do_bin op_mod r_mod (DO.toB (do_bin op_sub r_sub (db_var (pvD 3 nm__law_fits_3)) (DO.toB (do_bin op_mul r_mul (db_var (pvD 1 nm__law_fits_1)) (db_var (pvD 2 nm__law_fits_2)))))) (DO.toB (do_bin op_pow r_pow (DL.toB dl_int) (DL.toB dl_int))))) (DL.toB dl_int) (nomark _)))) ds_nil)
      (ds_cons (ds_if (dt_cmp (op_eqA hr) r_eq (db_var (pvD 0 nm__law_fits_0)) (DL.toB dl_str) (nomark _)) (ds_one (ds_ret (do_cmp (op_eqA hr) r_eq (db_var (pvD 3 nm__law_fits_3)) (DO.toB (do_callT gl__law_fits_int call_intA c_int T.n_int bt_int (dab_cons (DO.toB (do_cmp op_lt r_cmp (db_var (pvD 1 nm__law_fits_1)) (db_var (pvD 2 nm__law_fits_2)) (nomark _))) dab_nil))) (nomark _)))) ds_nil)
      (ds_cons (ds_if (dt_cmp (op_eqA hr) r_eq (db_var (pvD 0 nm__law_fits_0)) (DL.toB dl_str) (nomark _)) (ds_one (ds_ret (do_cmp (op_eqA hr) r_eq (db_var (pvD 3 nm__law_fits_3)) (DO.toB (do_callT gl__law_fits_int call_intA c_int T.n_int bt_int (dab_cons (DO.toB (do_cmp (op_eqA hr) r_eq (db_var (pvD 1 nm__law_fits_1)) (db_var (pvD 2 nm__law_fits_2)) (nomark _))) dab_nil))) (nomark _)))) ds_nil)
      (ds_cons (ds_for PassesOwn.never rfl (di_range1 gl__law_fits_range T.n_range (da_cons dl_int da_nil)) (dg_name (pg_nameD nm__law_fits_4 lc__law_fits_4 sc__law_fits.nd)) (ds_cons (ds_if (dt_cmp (op_neA hr) r_ne (DO.toB (do_bin op_mod r_mod (db_var (pvD 3 nm__law_fits_3)) (DL.toB dl_int))) (DO.toB (do_callF gl__law_fits__law_bit h__law_bit (hr.mono (by decide)) (da_cons (dl_var (pvD 0 nm__law_fits_0)) (da_cons (DO.toL (do_bin op_mod r_mod (db_var (pvD 1 nm__law_fits_1)) (DL.toB dl_int))) (da_cons (DO.toL (do_bin op_mod r_mod (db_var (pvD 2 nm__law_fits_2)) (DL.toB dl_int))) da_nil))))) (nomark _)) (ds_one (ds_ret (DL.toO dl_bl))) ds_nil)
      (ds_cons (ds_set nm__law_fits_1 lc__law_fits_1 sc__law_fits.nd (DL.toO (DO.toL (do_bin op_fdiv r_div (db_var (pvD 1 nm__law_fits_1)) (DL.toB dl_int)))))
      (ds_cons (ds_set nm__law_fits_2 lc__law_fits_2 sc__law_fits.nd (DL.toO (DO.toL (do_bin op_fdiv r_div (db_var (pvD 2 nm__law_fits_2)) (DL.toB dl_int)))))
      (ds_one (ds_set nm__law_fits_3 lc__law_fits_3 sc__law_fits.nd (DL.toO (DO.toL (do_bin op_fdiv r_div (db_var (pvD 3 nm__law_fits_3)) (DL.toB dl_int))))))))))
      (ds_one (ds_ret (do_cmp (op_eqA hr) r_eq (db_var (pvD 3 nm__law_fits_3)) (DL.toB dl_int) (nomark _))))))))))
abbrev s__law_whole : Stmt := top 13
theorem sc__law_whole : FnScope ["_law_found"] ["_law_found"] (defScope s__law_whole) := ⟨rfl, rfl, rfl, by decide +kernel, rfl, by decide +kernel, by decide +kernel⟩
theorem nm__law_whole_0 : nmOk (defScope s__law_whole) ["_law_found"] 0 "_law_found" = true := by decide +kernel
theorem lc__law_whole_0 : lcOk (defScope s__law_whole) "_law_found" = true := by decide +kernel
theorem gl__law_whole_isinstance : glOk (defScope s__law_whole) "isinstance" = true := by decide +kernel
theorem gl__law_whole_bool : glOk (defScope s__law_whole) "bool" = true := by decide +kernel
theorem gl__law_whole_int : glOk (defScope s__law_whole) "int" = true := by decide +kernel
theorem ok__law_whole (T : Txt P w K mg) (D : DefF K mg "_law_whole" s__law_whole ["_law_found"]) : OkF P w K mg base "_law_whole" 1 ["_law_found"] (spD K 1 F__law_whole) :=
  mk_ok D sc__law_whole rfl fun f cdv A outer s H E hr => (ds_one (ds_ret (do_and (DO.toB (do_isinst gl__law_whole_isinstance gl__law_whole_int T.n_isinstance T.n_int bt_int T.k_int (db_var (pvD 0 nm__law_whole_0)))) (do_one (do_not (DO.toB (do_isinst gl__law_whole_isinstance gl__law_whole_bool T.n_isinstance T.n_bool bt_bool T.k_bool (db_var (pvD 0 nm__law_whole_0)))))))))
abbrev s__law_led : Stmt := top 14
theorem sc__law_led : FnScope ["_law_found", "_law_rows", "_law_k", "_law_due", "_law_one"] ["_law_found", "_law_rows"] (defScope s__law_led) := ⟨rfl, rfl, rfl, by decide +kernel, rfl, by decide +kernel, by decide +kernel⟩
theorem nm__law_led_0 : nmOk (defScope s__law_led) ["_law_found", "_law_rows", "_law_k", "_law_due", "_law_one"] 0 "_law_found" = true := by decide +kernel
theorem lc__law_led_0 : lcOk (defScope s__law_led) "_law_found" = true := by decide +kernel
theorem nm__law_led_1 : nmOk (defScope s__law_led) ["_law_found", "_law_rows", "_law_k", "_law_due", "_law_one"] 1 "_law_rows" = true := by decide +kernel
theorem lc__law_led_1 : lcOk (defScope s__law_led) "_law_rows" = true := by decide +kernel
theorem nm__law_led_2 : nmOk (defScope s__law_led) ["_law_found", "_law_rows", "_law_k", "_law_due", "_law_one"] 2 "_law_k" = true := by decide +kernel
theorem lc__law_led_2 : lcOk (defScope s__law_led) "_law_k" = true := by decide +kernel
theorem nm__law_led_3 : nmOk (defScope s__law_led) ["_law_found", "_law_rows", "_law_k", "_law_due", "_law_one"] 3 "_law_due" = true := by decide +kernel
theorem lc__law_led_3 : lcOk (defScope s__law_led) "_law_due" = true := by decide +kernel
theorem nm__law_led_4 : nmOk (defScope s__law_led) ["_law_found", "_law_rows", "_law_k", "_law_due", "_law_one"] 4 "_law_one" = true := by decide +kernel
theorem lc__law_led_4 : lcOk (defScope s__law_led) "_law_one" = true := by decide +kernel
theorem gl__law_led_len : glOk (defScope s__law_led) "len" = true := by decide +kernel
theorem gl__law_led_isinstance : glOk (defScope s__law_led) "isinstance" = true := by decide +kernel
theorem gl__law_led_list : glOk (defScope s__law_led) "list" = true := by decide +kernel
theorem gl__law_led_range : glOk (defScope s__law_led) "range" = true := by decide +kernel
theorem gl__law_led_tuple : glOk (defScope s__law_led) "tuple" = true := by decide +kernel
theorem gl__law_led__law_whole : glOk (defScope s__law_led) "_law_whole" = true := by decide +kernel
theorem ok__law_led (T : Txt P w K mg) (D : DefF K mg "_law_led" s__law_led ["_law_found", "_law_rows"]) (h__law_whole : OkF P w K mg base "_law_whole" 1 ["_law_found"] (spD K 1 (F__law_whole))) : OkF P w K mg base "_law_led" 2 ["_law_found", "_law_rows"] (spD K 2 F__law_led) :=
  mk_ok D sc__law_led rfl fun f cdv A outer s H E hr => (ds_cons (ds_if (DW.t (dw_or (dt_not (dt_truth (DO.toB (do_isinst gl__law_led_isinstance gl__law_led_list T.n_isinstance T.n_list bt_list T.k_list (db_var (pvD 0 nm__law_led_0)))) (fun _ => rfl))) (dw_or1 (dt_cmp (op_neA hr) r_ne (DO.toB (do_callB gl__law_led_len call_len c_len T.n_len bt_len (dab_cons (db_var (pvD 0 nm__law_led_0)) dab_nil))) (DO.toB (do_callB gl__law_led_len call_len c_len T.n_len bt_len (dab_cons (db_var (pvD 1 nm__law_led_1)) dab_nil))) (nomark _))))) (ds_one (ds_ret (DL.toO dl_bl))) ds_nil)
      (ds_cons (ds_for PassesOwn.never rfl (di_range1 gl__law_led_range T.n_range (da_cons (DO.toL (do_callB gl__law_led_len call_len c_len T.n_len bt_len (dab_cons (db_var (pvD 1 nm__law_led_1)) dab_nil))) da_nil)) (dg_name (pg_nameD nm__law_led_2 lc__law_led_2 sc__law_led.nd)) (ds_cons (ds_set nm__law_led_3 lc__law_led_3 sc__law_led.nd (DL.toO (DO.toL (do_lst (da_cons (DO.toL (do_bin op_addD r_add (db_var (pvD 2 nm__law_led_2)) (DL.toB dl_int))) da_nil)))))
      (ds_cons (ds_if (dt_cmp (op_eqA hr) r_eq (DO.toB (do_ixA hr (DO.toB (do_ixA hr (db_var (pvD 1 nm__law_led_1)) (db_var (pvD 2 nm__law_led_2)))) (DL.toB dl_int))) (DL.toB dl_str) (nomark _)) (ds_one (ds_set nm__law_led_3 lc__law_led_3 sc__law_led.nd (DL.toO (DO.toL (do_lst (da_cons (DO.toL (do_ixA hr (DO.toB (do_ixA hr (db_var (pvD 1 nm__law_led_1)) (db_var (pvD 2 nm__law_led_2)))) (DL.toB dl_int))) (da_cons (DO.toL (do_bin op_addD r_add (db_var (pvD 2 nm__law_led_2)) (DL.toB dl_int))) da_nil))))))) ds_nil)
      (ds_cons (ds_if (dt_cmp (op_eqA hr) r_eq (DO.toB (do_ixA hr (DO.toB (do_ixA hr (db_var (pvD 1 nm__law_led_1)) (db_var (pvD 2 nm__law_led_2)))) (DL.toB dl_int))) (DL.toB dl_str) (nomark _)) (ds_one (ds_set nm__law_led_3 lc__law_led_3 sc__law_led.nd (DL.toO (DO.toL (do_lst (da_cons (DO.toL (do_ixA hr (DO.toB (do_ixA hr (db_var (pvD 1 nm__law_led_1)) (db_var (pvD 2 nm__law_led_2)))) (DL.toB dl_int))) da_nil)))))) ds_nil)
      (ds_cons (ds_if (dt_cmp (op_eqA hr) r_eq (DO.toB (do_ixA hr (DO.toB (do_ixA hr (db_var (pvD 1 nm__law_led_1)) (db_var (pvD 2 nm__law_led_2)))) (DL.toB dl_int))) (DL.toB dl_str) (nomark _)) (ds_one (ds_set nm__law_led_3 lc__law_led_3 sc__law_led.nd (DL.toO (DO.toL (do_lst da_nil))))) ds_nil)
      (ds_cons (ds_if (DW.t (dw_or (dt_not (dt_truth (DO.toB (do_isinst gl__law_led_isinstance gl__law_led_tuple T.n_isinstance T.n_tuple bt_tuple T.k_tuple (DO.toB (do_ixA hr (db_var (pvD 0 nm__law_led_0)) (db_var (pvD 2 nm__law_led_2)))))) (fun _ => rfl))) (dw_or1 (dt_cmp (op_neA hr) r_ne (DO.toB (do_callT gl__law_led_list call_list_of c_list T.n_list bt_list (dab_cons (DO.toB (do_ixA hr (db_var (pvD 0 nm__law_led_0)) (db_var (pvD 2 nm__law_led_2)))) dab_nil))) (db_var (pvD 3 nm__law_led_3)) (nomark _))))) (ds_one (ds_ret (DL.toO dl_bl))) ds_nil)
      (ds_one (ds_for PassesOwn.never rfl (di_seq (DO.toL (do_ixA hr (db_var (pvD 0 nm__law_led_0)) (db_var (pvD 2 nm__law_led_2))))) (dg_name (pg_nameD nm__law_led_4 lc__law_led_4 sc__law_led.nd)) (ds_one (ds_if (dt_not (dt_truth (DO.toB (do_callF gl__law_led__law_whole h__law_whole (hr.mono (by decide)) (da_cons (dl_var (pvD 4 nm__law_led_4)) da_nil))) (fun _ => rfl))) (ds_one (ds_ret (DL.toO dl_bl))) ds_nil))))))))))
      (ds_one (ds_ret (DL.toO dl_bl)))))
abbrev s__law_names : Stmt := top 9
theorem sc__law_names : FnScope ["_law_cell", "_law_many", "_law_letters", "_law_size", "_law_at", "_law_common"] ["_law_cell", "_law_many"] (defScope s__law_names) := ⟨rfl, rfl, rfl, by decide +kernel, rfl, by decide +kernel, by decide +kernel⟩
theorem nm__law_names_0 : nmOk (defScope s__law_names) ["_law_cell", "_law_many", "_law_letters", "_law_size", "_law_at", "_law_common"] 0 "_law_cell" = true := by decide +kernel
theorem lc__law_names_0 : lcOk (defScope s__law_names) "_law_cell" = true := by decide +kernel
theorem nm__law_names_1 : nmOk (defScope s__law_names) ["_law_cell", "_law_many", "_law_letters", "_law_size", "_law_at", "_law_common"] 1 "_law_many" = true := by decide +kernel
theorem lc__law_names_1 : lcOk (defScope s__law_names) "_law_many" = true := by decide +kernel
theorem nm__law_names_2 : nmOk (defScope s__law_names) ["_law_cell", "_law_many", "_law_letters", "_law_size", "_law_at", "_law_common"] 2 "_law_letters" = true := by decide +kernel
theorem lc__law_names_2 : lcOk (defScope s__law_names) "_law_letters" = true := by decide +kernel
theorem nm__law_names_3 : nmOk (defScope s__law_names) ["_law_cell", "_law_many", "_law_letters", "_law_size", "_law_at", "_law_common"] 3 "_law_size" = true := by decide +kernel
theorem lc__law_names_3 : lcOk (defScope s__law_names) "_law_size" = true := by decide +kernel
theorem nm__law_names_4 : nmOk (defScope s__law_names) ["_law_cell", "_law_many", "_law_letters", "_law_size", "_law_at", "_law_common"] 4 "_law_at" = true := by decide +kernel
theorem lc__law_names_4 : lcOk (defScope s__law_names) "_law_at" = true := by decide +kernel
theorem nm__law_names_5 : nmOk (defScope s__law_names) ["_law_cell", "_law_many", "_law_letters", "_law_size", "_law_at", "_law_common"] 5 "_law_common" = true := by decide +kernel
theorem lc__law_names_5 : lcOk (defScope s__law_names) "_law_common" = true := by decide +kernel
theorem gl__law_names_range : glOk (defScope s__law_names) "range" = true := by decide +kernel
theorem ok__law_names (T : Txt P w K mg) (D : DefF K mg "_law_names" s__law_names ["_law_cell", "_law_many"]) : OkF P w K mg base "_law_names" 1 ["_law_cell", "_law_many"] (spD K 2 F__law_names) :=
  mk_ok D sc__law_names rfl fun f cdv A outer s H E hr => (ds_cons (ds_set nm__law_names_2 lc__law_names_2 sc__law_names.nd (DL.toO dl_str))
      (ds_cons (ds_set nm__law_names_3 lc__law_names_3 sc__law_names.nd (DL.toO (DO.toL (do_bin op_mod r_mod (db_var (pvD 0 nm__law_names_0)) (DL.toB dl_int)))))
      (ds_cons (ds_set nm__law_names_4 lc__law_names_4 sc__law_names.nd (DL.toO (DO.toL (do_bin op_mod r_mod (DO.toB (do_bin op_fdiv r_div (db_var (pvD 0 nm__law_names_0)) (DL.toB dl_int))) (DO.toB (do_bin op_addD r_add (db_var (pvD 3 nm__law_names_3)) (DL.toB dl_int)))))))
      (ds_cons (ds_set nm__law_names_5 lc__law_names_5 sc__law_names.nd (DL.toO (DO.toL (do_join (DL.toB dl_str) (dab_cons (DO.toB (do_comp (M := ["_law_k", "_law_cell", "_law_letters"]) (src := [none, some 0, some 2]) (ts := [0]) (CmpScope.of (N := ["_law_cell", "_law_many", "_law_letters", "_law_size", "_law_at", "_law_common"]) (outer := defScope s__law_names) (by decide +kernel)) rfl (DIF.toB (di_range1 gl__law_names_range T.n_range (da_cons (dl_var (pvD 3 nm__law_names_3)) da_nil))) (fun nd _ _ _ _ => (dg_name (pg_nameC (N := ["_law_k", "_law_cell", "_law_letters"]) (i := 0) (by decide +kernel) (by decide +kernel) nd (scC (outer := defScope s__law_names) (by exact rfl))))) (fun _ _ _ _ => dts_nil) (fun _ _ _ _ => (DO.toL (do_ixA hr (db_var (pvD (N := ["_law_k", "_law_cell", "_law_letters"]) 2 (by decide +kernel) (scC (outer := defScope s__law_names) rfl))) (DO.toB (do_bin op_mod r_mod (DO.toB (do_bin op_addD r_add (DO.toB (do_bin op_fdiv r_div (db_var (pvD (N := ["_law_k", "_law_cell", "_law_letters"]) 1 (by decide +kernel) (scC (outer := defScope s__law_names) rfl))) (DL.toB dl_int))) (DO.toB (do_bin op_mul r_mul (DO.toB (do_bin op_mul r_mul (DL.toB dl_int) (db_var (pvD (N := ["_law_k", "_law_cell", "_law_letters"]) 0 (by decide +kernel) (scC (outer := defScope s__law_names) rfl))))) (DO.toB (do_bin op_mod r_mod (db_var (pvD (N := ["_law_k", "_law_cell", "_law_letters"]) 1 (by decide +kernel) (scC (outer := defScope s__law_names) rfl))) (DL.toB dl_int))))))) (DL.toB dl_int)))))) (by decide +kernel))) dab_nil)))))
      (ds_one (ds_ret (do_comp (M := ["_law_k", "_law_cell", "_law_letters", "_law_at", "_law_common"]) (src := [none, some 0, some 2, some 4, some 5]) (ts := [0]) (CmpScope.of (N := ["_law_cell", "_law_many", "_law_letters", "_law_size", "_law_at", "_law_common"]) (outer := defScope s__law_names) (by decide +kernel)) rfl (DIF.toB (di_range1 gl__law_names_range T.n_range (da_cons (dl_var (pvD 1 nm__law_names_1)) da_nil))) (fun nd _ _ _ _ => (dg_name (pg_nameC (N := ["_law_k", "_law_cell", "_law_letters", "_law_at", "_law_common"]) (i := 0) (by decide +kernel) (by decide +kernel) nd (scC (outer := defScope s__law_names) (by exact rfl))))) (fun _ _ _ _ => dts_nil) (fun _ _ _ _ => (DO.toL (do_bin op_addD r_add (DO.toB (do_bin op_addD r_add (DO.toB (do_slice (db_var (pvD (N := ["_law_k", "_law_cell", "_law_letters", "_law_at", "_law_common"]) 4 (by decide +kernel) (scC (outer := defScope s__law_names) rfl))) dp_none (dp_some (db_var (pvD (N := ["_law_k", "_law_cell", "_law_letters", "_law_at", "_law_common"]) 3 (by decide +kernel) (scC (outer := defScope s__law_names) rfl)))))) (DO.toB (do_ixA hr (db_var (pvD (N := ["_law_k", "_law_cell", "_law_letters", "_law_at", "_law_common"]) 2 (by decide +kernel) (scC (outer := defScope s__law_names) rfl))) (DO.toB (do_bin op_mod r_mod (DO.toB (do_bin op_addD r_add (DO.toB (do_bin op_fdiv r_div (db_var (pvD (N := ["_law_k", "_law_cell", "_law_letters", "_law_at", "_law_common"]) 1 (by decide +kernel) (scC (outer := defScope s__law_names) rfl))) (DL.toB dl_int))) (DO.toB (do_bin op_mul r_mul (DL.toB dl_int) (db_var (pvD (N := ["_law_k", "_law_cell", "_law_letters", "_law_at", "_law_common"]) 0 (by decide +kernel) (scC (outer := defScope s__law_names) rfl))))))) (DL.toB dl_int))))))) (DO.toB (do_slice (db_var (pvD (N := ["_law_k", "_law_cell", "_law_letters", "_law_at", "_law_common"]) 4 (by decide +kernel) (scC (outer := defScope s__law_names) rfl))) (dp_some (db_var (pvD (N := ["_law_k", "_law_cell", "_law_letters", "_law_at", "_law_common"]) 3 (by decide +kernel) (scC (outer := defScope s__law_names) rfl)))) dp_none))))) (by decide +kernel))))))))
abbrev s__law_value_by : Stmt := top 10
theorem sc__law_value_by : FnScope ["_law_number"] ["_law_number"] (defScope s__law_value_by) := ⟨rfl, rfl, rfl, by decide +kernel, rfl, by decide +kernel, by decide +kernel⟩
theorem nm__law_value_by_0 : nmOk (defScope s__law_value_by) ["_law_number"] 0 "_law_number" = true := by decide +kernel
theorem lc__law_value_by_0 : lcOk (defScope s__law_value_by) "_law_number" = true := by decide +kernel
theorem ok__law_value_by (T : Txt P w K mg) (D : DefF K mg "_law_value_by" s__law_value_by ["_law_number"]) : OkF P w K mg base "_law_value_by" 1 ["_law_number"] (spD K 1 F__law_value_by) :=
  mk_ok D sc__law_value_by rfl fun f cdv A outer s H E hr => (ds_cons (ds_if (dt_cmp (op_eqA hr) r_eq (DO.toB (do_bin op_mod r_mod (db_var (pvD 0 nm__law_value_by_0)) (DL.toB dl_int))) (DL.toB dl_int) (nomark _)) (ds_one (ds_ret (do_bin op_mod r_mod (DO.toB (do_bin op_fdiv r_div (db_var (pvD 0 nm__law_value_by_0)) (DL.toB dl_int))) (DL.toB dl_int)))) ds_nil)
      (ds_cons (ds_if (dt_cmp (op_eqA hr) r_eq (DO.toB (do_bin op_mod r_mod (db_var (pvD 0 nm__law_value_by_0)) (DL.toB dl_int))) (DL.toB dl_int) (nomark _)) (ds_one (ds_ret (do_bin op_sub r_sub (DO.toB (do_bin op_sub r_sub (DO.toB (do_bin op_pow r_pow (DL.toB dl_int) (DL.toB dl_int))) (DL.toB dl_int))) (DO.toB (do_bin op_mod r_mod (DO.toB (do_bin op_fdiv r_div (db_var (pvD 0 nm__law_value_by_0)) (DL.toB dl_int))) (DL.toB dl_int)))))) ds_nil)
      (ds_one (ds_ret (do_bin op_mod r_mod (DO.toB (do_bin op_mul r_mul (DO.toB (do_bin op_fdiv r_div (db_var (pvD 0 nm__law_value_by_0)) (DL.toB dl_int))) (DL.toB dl_int))) (DO.toB (do_bin op_pow r_pow (DL.toB dl_int) (DL.toB dl_int))))))))
abbrev s__law_atom : Stmt := top 11
theorem sc__law_atom : FnScope ["_law_number", "_law_names_here"] ["_law_number", "_law_names_here"] (defScope s__law_atom) := ⟨rfl, rfl, rfl, by decide +kernel, rfl, by decide +kernel, by decide +kernel⟩
theorem nm__law_atom_0 : nmOk (defScope s__law_atom) ["_law_number", "_law_names_here"] 0 "_law_number" = true := by decide +kernel
theorem lc__law_atom_0 : lcOk (defScope s__law_atom) "_law_number" = true := by decide +kernel
theorem nm__law_atom_1 : nmOk (defScope s__law_atom) ["_law_number", "_law_names_here"] 1 "_law_names_here" = true := by decide +kernel
theorem lc__law_atom_1 : lcOk (defScope s__law_atom) "_law_names_here" = true := by decide +kernel
theorem gl__law_atom__law_value_by : glOk (defScope s__law_atom) "_law_value_by" = true := by decide +kernel
theorem gl__law_atom_len : glOk (defScope s__law_atom) "len" = true := by decide +kernel
theorem ok__law_atom (T : Txt P w K mg) (D : DefF K mg "_law_atom" s__law_atom ["_law_number", "_law_names_here"]) (h__law_value_by : OkF P w K mg base "_law_value_by" 1 ["_law_number"] (spD K 1 (F__law_value_by))) : OkF P w K mg base "_law_atom" 2 ["_law_number", "_law_names_here"] (spD K 2 F__law_atom) :=
  mk_ok D sc__law_atom rfl fun f cdv A outer s H E hr => (ds_cons (ds_if (dt_cmp (op_eqA hr) r_eq (DO.toB (do_bin op_mod r_mod (db_var (pvD 0 nm__law_atom_0)) (DL.toB dl_int))) (DL.toB dl_int) (nomark _)) (ds_one (ds_ret (do_callF gl__law_atom__law_value_by h__law_value_by (hr.mono (by decide)) (da_cons (DO.toL (do_bin op_fdiv r_div (db_var (pvD 0 nm__law_atom_0)) (DL.toB dl_int))) da_nil)))) ds_nil)
      (ds_one (ds_ret (do_ixA hr (db_var (pvD 1 nm__law_atom_1)) (DO.toB (do_bin op_mod r_mod (DO.toB (do_bin op_fdiv r_div (db_var (pvD 0 nm__law_atom_0)) (DL.toB dl_int))) (DO.toB (do_callB gl__law_atom_len call_len c_len T.n_len bt_len (dab_cons (db_var (pvD 1 nm__law_atom_1)) dab_nil)))))))))
abbrev s__law_stream : Stmt := top 8
theorem sc__law_stream : FnScope ["_law_cell", "_law_many", "_law_found", "_law_number", "_law_k"] ["_law_cell", "_law_many"] (defScope s__law_stream) := ⟨rfl, rfl, rfl, by decide +kernel, rfl, by decide +kernel, by decide +kernel⟩
theorem nm__law_stream_0 : nmOk (defScope s__law_stream) ["_law_cell", "_law_many", "_law_found", "_law_number", "_law_k"] 0 "_law_cell" = true := by decide +kernel
theorem lc__law_stream_0 : lcOk (defScope s__law_stream) "_law_cell" = true := by decide +kernel
theorem nm__law_stream_1 : nmOk (defScope s__law_stream) ["_law_cell", "_law_many", "_law_found", "_law_number", "_law_k"] 1 "_law_many" = true := by decide +kernel
theorem lc__law_stream_1 : lcOk (defScope s__law_stream) "_law_many" = true := by decide +kernel
theorem nm__law_stream_2 : nmOk (defScope s__law_stream) ["_law_cell", "_law_many", "_law_found", "_law_number", "_law_k"] 2 "_law_found" = true := by decide +kernel
theorem lc__law_stream_2 : lcOk (defScope s__law_stream) "_law_found" = true := by decide +kernel
theorem nm__law_stream_3 : nmOk (defScope s__law_stream) ["_law_cell", "_law_many", "_law_found", "_law_number", "_law_k"] 3 "_law_number" = true := by decide +kernel
theorem lc__law_stream_3 : lcOk (defScope s__law_stream) "_law_number" = true := by decide +kernel
theorem nm__law_stream_4 : nmOk (defScope s__law_stream) ["_law_cell", "_law_many", "_law_found", "_law_number", "_law_k"] 4 "_law_k" = true := by decide +kernel
theorem lc__law_stream_4 : lcOk (defScope s__law_stream) "_law_k" = true := by decide +kernel
theorem gl__law_stream_range : glOk (defScope s__law_stream) "range" = true := by decide +kernel
theorem ok__law_stream (T : Txt P w K mg) (D : DefF K mg "_law_stream" s__law_stream ["_law_cell", "_law_many"]) : OkF P w K mg base "_law_stream" 1 ["_law_cell", "_law_many"] (spD K 2 F__law_stream) :=
  mk_ok D sc__law_stream rfl fun f cdv A outer s H E hr => (ds_cons (ds_set nm__law_stream_2 lc__law_stream_2 sc__law_stream.nd (do_lst da_nil))
      (ds_cons (ds_set nm__law_stream_3 lc__law_stream_3 sc__law_stream.nd (DL.toO (DO.toL (do_bin op_addD r_add (DO.toB (do_bin op_mod r_mod (db_var (pvD 0 nm__law_stream_0)) (DL.toB dl_int))) (DL.toB dl_int)))))
      (ds_cons (ds_for PassesOwn.never rfl (di_range1 gl__law_stream_range T.n_range (da_cons (DO.toL (do_bin op_addD r_add (db_var (pvD 1 nm__law_stream_1)) (DL.toB dl_int))) da_nil)) (dg_name (pg_nameD nm__law_stream_4 lc__law_stream_4 sc__law_stream.nd)) (ds_cons (ds_set nm__law_stream_3 lc__law_stream_3 sc__law_stream.nd (DL.toO (DO.toL (do_bin op_mod r_mod (DO.toB (do_bin op_addD r_add (DO.toB (do_bin op_addD r_add (DO.toB (do_bin op_mul r_mul (db_var (pvD 3 nm__law_stream_3)) (db_var (pvD 3 nm__law_stream_3)))) (DO.toB (do_bin op_mul r_mul (DL.toB dl_int) (db_var (pvD 3 nm__law_stream_3)))))) (db_var (pvD 4 nm__law_stream_4)))) (DL.toB dl_int)))))
      (ds_one (ds_append (pvD 2 nm__law_stream_2) (dl_var (pvD 3 nm__law_stream_3))))))
      (ds_one (ds_ret (do_slice (db_var (pvD 2 nm__law_stream_2)) (dp_some (DL.toB dl_int)) dp_none))))))
abbrev s__law_row : Stmt := top 12
theorem sc__law_row : FnScope ["_law_cell", "_law_names_here", "_law_many", "_law_xs", "_law_x", "_law_some"] ["_law_cell", "_law_names_here", "_law_many"] (defScope s__law_row) := ⟨rfl, rfl, rfl, by decide +kernel, rfl, by decide +kernel, by decide +kernel⟩
theorem nm__law_row_0 : nmOk (defScope s__law_row) ["_law_cell", "_law_names_here", "_law_many", "_law_xs", "_law_x", "_law_some"] 0 "_law_cell" = true := by decide +kernel
theorem lc__law_row_0 : lcOk (defScope s__law_row) "_law_cell" = true := by decide +kernel
theorem nm__law_row_1 : nmOk (defScope s__law_row) ["_law_cell", "_law_names_here", "_law_many", "_law_xs", "_law_x", "_law_some"] 1 "_law_names_here" = true := by decide +kernel
theorem lc__law_row_1 : lcOk (defScope s__law_row) "_law_names_here" = true := by decide +kernel
theorem nm__law_row_2 : nmOk (defScope s__law_row) ["_law_cell", "_law_names_here", "_law_many", "_law_xs", "_law_x", "_law_some"] 2 "_law_many" = true := by decide +kernel
theorem lc__law_row_2 : lcOk (defScope s__law_row) "_law_many" = true := by decide +kernel
theorem nm__law_row_3 : nmOk (defScope s__law_row) ["_law_cell", "_law_names_here", "_law_many", "_law_xs", "_law_x", "_law_some"] 3 "_law_xs" = true := by decide +kernel
theorem lc__law_row_3 : lcOk (defScope s__law_row) "_law_xs" = true := by decide +kernel
theorem nm__law_row_4 : nmOk (defScope s__law_row) ["_law_cell", "_law_names_here", "_law_many", "_law_xs", "_law_x", "_law_some"] 4 "_law_x" = true := by decide +kernel
theorem lc__law_row_4 : lcOk (defScope s__law_row) "_law_x" = true := by decide +kernel
theorem nm__law_row_5 : nmOk (defScope s__law_row) ["_law_cell", "_law_names_here", "_law_many", "_law_xs", "_law_x", "_law_some"] 5 "_law_some" = true := by decide +kernel
theorem lc__law_row_5 : lcOk (defScope s__law_row) "_law_some" = true := by decide +kernel
theorem gl__law_row__law_stream : glOk (defScope s__law_row) "_law_stream" = true := by decide +kernel
theorem gl__law_row__law_atom : glOk (defScope s__law_row) "_law_atom" = true := by decide +kernel
theorem ok__law_row (T : Txt P w K mg) (D : DefF K mg "_law_row" s__law_row ["_law_cell", "_law_names_here", "_law_many"]) (h__law_atom : OkF P w K mg base "_law_atom" 2 ["_law_number", "_law_names_here"] (spD K 2 (F__law_atom))) (h__law_stream : OkF P w K mg base "_law_stream" 1 ["_law_cell", "_law_many"] (spD K 2 (F__law_stream))) : OkF P w K mg base "_law_row" 3 ["_law_cell", "_law_names_here", "_law_many"] (spD K 3 F__law_row) :=
  mk_ok D sc__law_row rfl fun f cdv A outer s H E hr => (ds_cons (ds_set nm__law_row_3 lc__law_row_3 sc__law_row.nd (DL.toO (DO.toL (do_callF gl__law_row__law_stream h__law_stream (hr.mono (by decide)) (da_cons (dl_var (pvD 0 nm__law_row_0)) (da_cons dl_int da_nil))))))
      (ds_cons (ds_set nm__law_row_4 lc__law_row_4 sc__law_row.nd (DL.toO (DO.toL (do_ixA hr (db_var (pvD 1 nm__law_row_1)) (DO.toB (do_bin op_mod r_mod (DO.toB (do_ixA hr (db_var (pvD 3 nm__law_row_3)) (DL.toB dl_int))) (DL.toB dl_int)))))))
      (ds_cons (ds_set nm__law_row_5 lc__law_row_5 sc__law_row.nd (do_lst (da_cons (DO.toL (do_tup (da_cons dl_str (da_cons (dl_var (pvD 4 nm__law_row_4)) (da_cons (DO.toL (do_callF gl__law_row__law_atom h__law_atom (hr.mono (by decide)) (da_cons (DO.toL (do_ixA hr (db_var (pvD 3 nm__law_row_3)) (DL.toB dl_int))) (da_cons (dl_var (pvD 1 nm__law_row_1)) da_nil)))) da_nil))))) (da_cons (DO.toL (do_tup (da_cons dl_str (da_cons (dl_var (pvD 4 nm__law_row_4)) (da_cons (DO.toL (do_ixA hr (db_var (pvD 1 nm__law_row_1)) (DL.toB dl_int))) da_nil))))) (da_cons (DO.toL (do_tup (da_cons dl_str (da_cons (DO.toL (do_ixA hr (db_var (pvD 1 nm__law_row_1)) (DL.toB dl_int))) (da_cons (DO.toL (do_callF gl__law_row__law_atom h__law_atom (hr.mono (by decide)) (da_cons (DO.toL (do_ixA hr (db_var (pvD 3 nm__law_row_3)) (DL.toB dl_int))) (da_cons (dl_var (pvD 1 nm__law_row_1)) da_nil)))) da_nil))))) da_nil)))))
      (ds_cons (ds_append (pvD 5 nm__law_row_5) (DO.toL (do_tup (da_cons dl_str (da_cons (dl_var (pvD 4 nm__law_row_4)) (da_cons (DO.toL (do_ixA hr (DL.toB dl_str) (DO.toB (do_bin op_mod r_mod (DO.toB (do_ixA hr (db_var (pvD 3 nm__law_row_3)) (DL.toB dl_int))) (DL.toB dl_int))))) (da_cons (DO.toL (do_callF gl__law_row__law_atom h__law_atom (hr.mono (by decide)) (da_cons (DO.toL (do_ixA hr (db_var (pvD 3 nm__law_row_3)) (DL.toB dl_int))) (da_cons (dl_var (pvD 1 nm__law_row_1)) da_nil)))) (da_cons (DO.toL (do_callF gl__law_row__law_atom h__law_atom (hr.mono (by decide)) (da_cons (DO.toL (do_ixA hr (db_var (pvD 3 nm__law_row_3)) (DL.toB dl_int))) (da_cons (dl_var (pvD 1 nm__law_row_1)) da_nil)))) da_nil))))))))
      (ds_cons (ds_set nm__law_row_5 lc__law_row_5 sc__law_row.nd (do_bin op_addD r_add (db_var (pvD 5 nm__law_row_5)) (DO.toB (do_lst (da_cons (DO.toL (do_tup (da_cons dl_str (da_cons (dl_var (pvD 4 nm__law_row_4)) (da_cons (DO.toL (do_ixA hr (db_var (pvD 1 nm__law_row_1)) (DL.toB dl_int))) (da_cons (DO.toL (do_callF gl__law_row__law_atom h__law_atom (hr.mono (by decide)) (da_cons (DO.toL (do_ixA hr (db_var (pvD 3 nm__law_row_3)) (DL.toB dl_int))) (da_cons (dl_var (pvD 1 nm__law_row_1)) da_nil)))) da_nil)))))) (da_cons (DO.toL (do_tup (da_cons dl_str (da_cons (dl_var (pvD 4 nm__law_row_4)) da_nil)))) (da_cons (DO.toL (do_tup (da_cons dl_str (da_cons (DO.toL (do_callF gl__law_row__law_atom h__law_atom (hr.mono (by decide)) (da_cons (DO.toL (do_ixA hr (db_var (pvD 3 nm__law_row_3)) (DL.toB dl_int))) (da_cons (dl_var (pvD 1 nm__law_row_1)) da_nil)))) da_nil)))) da_nil)))))))
      (ds_cons (ds_append (pvD 5 nm__law_row_5) (DO.toL (do_tup (da_cons dl_str (da_cons (DO.toL (do_ixA hr (db_var (pvD 1 nm__law_row_1)) (DL.toB dl_int))) (da_cons (DO.toL (do_callF gl__law_row__law_atom h__law_atom (hr.mono (by decide)) (da_cons (DO.toL (do_ixA hr (db_var (pvD 3 nm__law_row_3)) (DL.toB dl_int))) (da_cons (dl_var (pvD 1 nm__law_row_1)) da_nil)))) (da_cons (DO.toL (do_callF gl__law_row__law_atom h__law_atom (hr.mono (by decide)) (da_cons (DO.toL (do_ixA hr (db_var (pvD 3 nm__law_row_3)) (DL.toB dl_int))) (da_cons (dl_var (pvD 1 nm__law_row_1)) da_nil)))) da_nil)))))))
      (ds_cons (ds_set nm__law_row_5 lc__law_row_5 sc__law_row.nd (do_bin op_addD r_add (db_var (pvD 5 nm__law_row_5)) (DO.toB (do_lst (da_cons (DO.toL (do_tup (da_cons dl_str (da_cons (DO.toL (do_callF gl__law_row__law_atom h__law_atom (hr.mono (by decide)) (da_cons (DO.toL (do_ixA hr (db_var (pvD 3 nm__law_row_3)) (DL.toB dl_int))) (da_cons (dl_var (pvD 1 nm__law_row_1)) da_nil)))) (da_cons (DO.toL (do_bin op_mod r_mod (DO.toB (do_ixA hr (db_var (pvD 3 nm__law_row_3)) (DL.toB dl_int))) (db_var (pvD 2 nm__law_row_2)))) da_nil))))) (da_cons (DO.toL (do_tup (da_cons dl_str (da_cons (DO.toL (do_bin op_mod r_mod (DO.toB (do_ixA hr (db_var (pvD 3 nm__law_row_3)) (DL.toB dl_int))) (db_var (pvD 2 nm__law_row_2)))) da_nil)))) da_nil))))))
      (ds_one (ds_ret (do_ixA hr (DO.toB (do_bin op_addD r_add (db_var (pvD 5 nm__law_row_5)) (DO.toB (do_lst (da_cons (DO.toL (do_tup (da_cons dl_str (da_cons (DO.toL (do_callF gl__law_row__law_atom h__law_atom (hr.mono (by decide)) (da_cons (DO.toL (do_ixA hr (db_var (pvD 3 nm__law_row_3)) (DL.toB dl_int))) (da_cons (dl_var (pvD 1 nm__law_row_1)) da_nil)))) da_nil)))) da_nil))))) (DO.toB (do_bin op_mod r_mod (DO.toB (do_ixA hr (db_var (pvD 3 nm__law_row_3)) (DL.toB dl_int))) (DL.toB dl_int)))))))))))))
abbrev s_number_of : Stmt := top 4
theorem sc_number_of : FnScope ["sign", "one", "other"] ["sign", "one", "other"] (defScope s_number_of) := ⟨rfl, rfl, rfl, by decide +kernel, rfl, by decide +kernel, by decide +kernel⟩
theorem nm_number_of_0 : nmOk (defScope s_number_of) ["sign", "one", "other"] 0 "sign" = true := by decide +kernel
theorem lc_number_of_0 : lcOk (defScope s_number_of) "sign" = true := by decide +kernel
theorem nm_number_of_1 : nmOk (defScope s_number_of) ["sign", "one", "other"] 1 "one" = true := by decide +kernel
theorem lc_number_of_1 : lcOk (defScope s_number_of) "one" = true := by decide +kernel
theorem nm_number_of_2 : nmOk (defScope s_number_of) ["sign", "one", "other"] 2 "other" = true := by decide +kernel
theorem lc_number_of_2 : lcOk (defScope s_number_of) "other" = true := by decide +kernel
theorem ok_number_of (T : Txt P w K mg) (D : DefF K mg "number_of" s_number_of ["sign", "one", "other"]) : OkF P w K mg base "number_of" 1 ["sign", "one", "other"] (spD K 3 F_number_of) :=
  mk_ok D sc_number_of rfl fun f cdv A outer s H E hr => (ds_cons (ds_if (dt_cmp (op_eqA hr) r_eq (db_var (pvD 0 nm_number_of_0)) (DL.toB dl_str) (nomark _)) (ds_one (ds_ret (do_bin op_addD r_add (db_var (pvD 1 nm_number_of_1)) (db_var (pvD 2 nm_number_of_2))))) ds_nil)
      (ds_cons (ds_if (dt_cmp (op_eqA hr) r_eq (db_var (pvD 0 nm_number_of_0)) (DL.toB dl_str) (nomark _)) (ds_one (ds_ret (do_bin op_sub r_sub (db_var (pvD 1 nm_number_of_1)) (db_var (pvD 2 nm_number_of_2))))) ds_nil)
      (ds_cons (ds_if (dt_cmp (op_eqA hr) r_eq (db_var (pvD 0 nm_number_of_0)) (DL.toB dl_str) (nomark _)) (ds_one (ds_ret (do_bin op_mul r_mul (db_var (pvD 1 nm_number_of_1)) (db_var (pvD 2 nm_number_of_2))))) ds_nil)
      (ds_cons (ds_if (dt_cmp (op_eqA hr) r_eq (db_var (pvD 0 nm_number_of_0)) (DL.toB dl_str) (nomark _)) (ds_one (ds_ret (do_if (dt_cmp op_lt r_cmp (db_var (pvD 1 nm_number_of_1)) (db_var (pvD 2 nm_number_of_2)) (nomark _)) (DL.toO dl_int) (DL.toO dl_int)))) ds_nil)
      (ds_cons (ds_if (dt_cmp (op_eqA hr) r_eq (db_var (pvD 0 nm_number_of_0)) (DL.toB dl_str) (nomark _)) (ds_one (ds_ret (do_if (dt_cmp (op_eqA hr) r_eq (db_var (pvD 1 nm_number_of_1)) (db_var (pvD 2 nm_number_of_2)) (nomark _)) (DL.toO dl_int) (DL.toO dl_int)))) ds_nil)
      (ds_cons (ds_if (dt_cmp (op_eqA hr) r_eq (db_var (pvD 0 nm_number_of_0)) (DL.toB dl_str) (nomark _)) (ds_one (ds_ret (do_bin op_and r_int0 (db_var (pvD 1 nm_number_of_1)) (db_var (pvD 2 nm_number_of_2))))) ds_nil)
      (ds_cons (ds_if (dt_cmp (op_eqA hr) r_eq (db_var (pvD 0 nm_number_of_0)) (DL.toB dl_str) (nomark _)) (ds_one (ds_ret (do_bin op_or r_int0 (db_var (pvD 1 nm_number_of_1)) (db_var (pvD 2 nm_number_of_2))))) ds_nil)
      (ds_one (ds_ret (do_bin op_xor r_int0 (db_var (pvD 1 nm_number_of_1)) (db_var (pvD 2 nm_number_of_2))))))))))))
abbrev s_value : Stmt := top 5
theorem sc_value : FnScope ["sign", "one", "other"] ["sign", "one", "other"] (defScope s_value) := ⟨rfl, rfl, rfl, by decide +kernel, rfl, by decide +kernel, by decide +kernel⟩
theorem nm_value_0 : nmOk (defScope s_value) ["sign", "one", "other"] 0 "sign" = true := by decide +kernel
theorem lc_value_0 : lcOk (defScope s_value) "sign" = true := by decide +kernel
theorem nm_value_1 : nmOk (defScope s_value) ["sign", "one", "other"] 1 "one" = true := by decide +kernel
theorem lc_value_1 : lcOk (defScope s_value) "one" = true := by decide +kernel
theorem nm_value_2 : nmOk (defScope s_value) ["sign", "one", "other"] 2 "other" = true := by decide +kernel
theorem lc_value_2 : lcOk (defScope s_value) "other" = true := by decide +kernel
theorem gl_value_number_of : glOk (defScope s_value) "number_of" = true := by decide +kernel
theorem gl_value_WIDE : glOk (defScope s_value) "WIDE" = true := by decide +kernel
theorem ok_value (T : Txt P w K mg) (D : DefF K mg "value" s_value ["sign", "one", "other"]) (h_number_of : OkF P w K mg base "number_of" 1 ["sign", "one", "other"] (spD K 3 (F_number_of))) : OkF P w K mg base "value" 2 ["sign", "one", "other"] (spD K 3 F_value) :=
  mk_ok D sc_value rfl fun f cdv A outer s H E hr => (ds_one (ds_ret (do_bin op_mod r_mod (DO.toB (do_callF gl_value_number_of h_number_of (hr.mono (by decide)) (da_cons (dl_var (pvD 0 nm_value_0)) (da_cons (dl_var (pvD 1 nm_value_1)) (da_cons (dl_var (pvD 2 nm_value_2)) da_nil))))) (DL.toB (dl_glob gl_value_WIDE T.g_WIDE)))))
abbrev s_ways_of : Stmt := top 2
theorem sc_ways_of : FnScope ["number", "row"] ["number", "row"] (defScope s_ways_of) := ⟨rfl, rfl, rfl, by decide +kernel, rfl, by decide +kernel, by decide +kernel⟩
theorem nm_ways_of_0 : nmOk (defScope s_ways_of) ["number", "row"] 0 "number" = true := by decide +kernel
theorem lc_ways_of_0 : lcOk (defScope s_ways_of) "number" = true := by decide +kernel
theorem nm_ways_of_1 : nmOk (defScope s_ways_of) ["number", "row"] 1 "row" = true := by decide +kernel
theorem lc_ways_of_1 : lcOk (defScope s_ways_of) "row" = true := by decide +kernel
theorem ok_ways_of (T : Txt P w K mg) (D : DefF K mg "ways_of" s_ways_of ["number", "row"]) : OkF P w K mg base "ways_of" 1 ["number", "row"] (spD K 2 F_ways_of) :=
  mk_ok D sc_ways_of rfl fun f cdv A outer s H E hr => (ds_cons (ds_if (dt_cmp (op_eqA hr) r_eq (DO.toB (do_ixA hr (db_var (pvD 1 nm_ways_of_1)) (DL.toB dl_int))) (DL.toB dl_str) (nomark _)) (ds_one (ds_ret (do_tup (da_cons (DO.toL (do_ixA hr (db_var (pvD 1 nm_ways_of_1)) (DL.toB dl_int))) da_nil)))) ds_nil)
      (ds_cons (ds_if (dt_cmp (op_eqA hr) r_eq (DO.toB (do_ixA hr (db_var (pvD 1 nm_ways_of_1)) (DL.toB dl_int))) (DL.toB dl_str) (nomark _)) (ds_one (ds_ret (do_tup (da_cons (DO.toL (do_ixA hr (db_var (pvD 1 nm_ways_of_1)) (DL.toB dl_int))) (da_cons (DO.toL (do_bin op_addD r_add (db_var (pvD 0 nm_ways_of_0)) (DL.toB dl_int))) da_nil))))) ds_nil)
      (ds_cons (ds_if (dt_cmp (op_eqA hr) r_eq (DO.toB (do_ixA hr (db_var (pvD 1 nm_ways_of_1)) (DL.toB dl_int))) (DL.toB dl_str) (nomark _)) (ds_one (ds_ret (do_tup da_nil))) ds_nil)
      (ds_one (ds_ret (do_tup (da_cons (DO.toL (do_bin op_addD r_add (db_var (pvD 0 nm_ways_of_0)) (DL.toB dl_int))) da_nil)))))))
abbrev s_ways : Stmt := top 3
theorem sc_ways : FnScope ["program"] ["program"] (defScope s_ways) := ⟨rfl, rfl, rfl, by decide +kernel, rfl, by decide +kernel, by decide +kernel⟩
theorem nm_ways_0 : nmOk (defScope s_ways) ["program"] 0 "program" = true := by decide +kernel
theorem lc_ways_0 : lcOk (defScope s_ways) "program" = true := by decide +kernel
theorem gl_ways_enumerate : glOk (defScope s_ways) "enumerate" = true := by decide +kernel
theorem ok_ways (T : Txt P w K mg) (D : DefF K mg "ways" s_ways ["program"]) (h_ways_of : OkF P w K mg base "ways_of" 1 ["number", "row"] (spD K 2 (F_ways_of))) : OkF P w K mg base "ways" 2 ["program"] (spD K 1 F_ways) :=
  mk_ok D sc_ways rfl fun f cdv A outer s H E hr => (ds_one (ds_ret (do_comp (M := ["number", "row"]) (src := [none, none]) (ts := [0, 1]) (CmpScope.of (N := ["program"]) (outer := defScope s_ways) (by decide +kernel)) rfl (DIF.toB (di_enumerate gl_ways_enumerate T.n_enumerate (da_cons (DO.toL (do_ixA hr (db_var (pvD 0 nm_ways_0)) (DL.toB dl_int))) da_nil))) (fun nd _ _ _ _ => (dg_tup rfl (dgs_cons (dg_name (pg_nameC (N := ["number", "row"]) (i := 0) (by decide +kernel) (by decide +kernel) nd (scC (outer := defScope s_ways) (by exact rfl)))) (dgs_cons (dg_name (pg_nameC (N := ["number", "row"]) (i := 1) (by decide +kernel) (by decide +kernel) nd (scC (outer := defScope s_ways) (by exact rfl)))) dgs_nil)))) (fun _ _ _ _ => dts_nil) (fun _ _ _ _ => (DO.toL (do_callF (by decide +kernel) h_ways_of (hr.mono (by decide)) (da_cons (dl_var (pvD (N := ["number", "row"]) 0 (by decide +kernel) (scC (outer := defScope s_ways) rfl))) (da_cons (dl_var (pvD (N := ["number", "row"]) 1 (by decide +kernel) (scC (outer := defScope s_ways) rfl))) da_nil)) (e1 := (scC (outer := defScope s_ways) rfl))))) (by decide +kernel))))
abbrev s_law : Stmt := top 17
theorem sc_law : FnScope ["_law_script", "_law_names_here", "_law_one", "_law_other", "_law_sign", "_law_found", "_law_many", "_law_rows", "_law_cells", "_law_program"] ["_law_script"] (defScope s_law) := ⟨rfl, rfl, rfl, by decide +kernel, rfl, by decide +kernel, by decide +kernel⟩
theorem nm_law_0 : nmOk (defScope s_law) ["_law_script", "_law_names_here", "_law_one", "_law_other", "_law_sign", "_law_found", "_law_many", "_law_rows", "_law_cells", "_law_program"] 0 "_law_script" = true := by decide +kernel
theorem lc_law_0 : lcOk (defScope s_law) "_law_script" = true := by decide +kernel
theorem nm_law_1 : nmOk (defScope s_law) ["_law_script", "_law_names_here", "_law_one", "_law_other", "_law_sign", "_law_found", "_law_many", "_law_rows", "_law_cells", "_law_program"] 1 "_law_names_here" = true := by decide +kernel
theorem lc_law_1 : lcOk (defScope s_law) "_law_names_here" = true := by decide +kernel
theorem nm_law_2 : nmOk (defScope s_law) ["_law_script", "_law_names_here", "_law_one", "_law_other", "_law_sign", "_law_found", "_law_many", "_law_rows", "_law_cells", "_law_program"] 2 "_law_one" = true := by decide +kernel
theorem lc_law_2 : lcOk (defScope s_law) "_law_one" = true := by decide +kernel
theorem nm_law_3 : nmOk (defScope s_law) ["_law_script", "_law_names_here", "_law_one", "_law_other", "_law_sign", "_law_found", "_law_many", "_law_rows", "_law_cells", "_law_program"] 3 "_law_other" = true := by decide +kernel
theorem lc_law_3 : lcOk (defScope s_law) "_law_other" = true := by decide +kernel
theorem nm_law_4 : nmOk (defScope s_law) ["_law_script", "_law_names_here", "_law_one", "_law_other", "_law_sign", "_law_found", "_law_many", "_law_rows", "_law_cells", "_law_program"] 4 "_law_sign" = true := by decide +kernel
theorem lc_law_4 : lcOk (defScope s_law) "_law_sign" = true := by decide +kernel
theorem nm_law_5 : nmOk (defScope s_law) ["_law_script", "_law_names_here", "_law_one", "_law_other", "_law_sign", "_law_found", "_law_many", "_law_rows", "_law_cells", "_law_program"] 5 "_law_found" = true := by decide +kernel
theorem lc_law_5 : lcOk (defScope s_law) "_law_found" = true := by decide +kernel
theorem nm_law_6 : nmOk (defScope s_law) ["_law_script", "_law_names_here", "_law_one", "_law_other", "_law_sign", "_law_found", "_law_many", "_law_rows", "_law_cells", "_law_program"] 6 "_law_many" = true := by decide +kernel
theorem lc_law_6 : lcOk (defScope s_law) "_law_many" = true := by decide +kernel
theorem nm_law_7 : nmOk (defScope s_law) ["_law_script", "_law_names_here", "_law_one", "_law_other", "_law_sign", "_law_found", "_law_many", "_law_rows", "_law_cells", "_law_program"] 7 "_law_rows" = true := by decide +kernel
theorem lc_law_7 : lcOk (defScope s_law) "_law_rows" = true := by decide +kernel
theorem nm_law_8 : nmOk (defScope s_law) ["_law_script", "_law_names_here", "_law_one", "_law_other", "_law_sign", "_law_found", "_law_many", "_law_rows", "_law_cells", "_law_program"] 8 "_law_cells" = true := by decide +kernel
theorem lc_law_8 : lcOk (defScope s_law) "_law_cells" = true := by decide +kernel
theorem nm_law_9 : nmOk (defScope s_law) ["_law_script", "_law_names_here", "_law_one", "_law_other", "_law_sign", "_law_found", "_law_many", "_law_rows", "_law_cells", "_law_program"] 9 "_law_program" = true := by decide +kernel
theorem lc_law_9 : lcOk (defScope s_law) "_law_program" = true := by decide +kernel
theorem gl_law__law_cell_at : glOk (defScope s_law) "_law_cell_at" = true := by decide +kernel
theorem gl_law__law_names : glOk (defScope s_law) "_law_names" = true := by decide +kernel
theorem gl_law__law_value_by : glOk (defScope s_law) "_law_value_by" = true := by decide +kernel
theorem gl_law_value : glOk (defScope s_law) "value" = true := by decide +kernel
theorem gl_law__law_fits : glOk (defScope s_law) "_law_fits" = true := by decide +kernel
theorem gl_law__law_whole : glOk (defScope s_law) "_law_whole" = true := by decide +kernel
theorem gl_law_len : glOk (defScope s_law) "len" = true := by decide +kernel
theorem gl_law_tuple : glOk (defScope s_law) "tuple" = true := by decide +kernel
theorem gl_law_ways : glOk (defScope s_law) "ways" = true := by decide +kernel
theorem gl_law__law_led : glOk (defScope s_law) "_law_led" = true := by decide +kernel
theorem ok_law {f : Addr} {fd : FuncData} (T : Txt P w K mg) (D : Fun K "law" "law" s_law f fd) (h__law_cell_at : OkF P w K mg base "_law_cell_at" 1 ["_law_script", "_law_k"] (spD K 2 (F__law_cell_at))) (h__law_fits : OkF P w K mg base "_law_fits" 2 ["_law_sign", "_law_one", "_law_other", "_law_found"] (spD K 4 (F__law_fits))) (h__law_led : OkF P w K mg base "_law_led" 2 ["_law_found", "_law_rows"] (spD K 2 (F__law_led))) (h__law_names : OkF P w K mg base "_law_names" 1 ["_law_cell", "_law_many"] (spD K 2 (F__law_names))) (h__law_row : OkF P w K mg base "_law_row" 3 ["_law_cell", "_law_names_here", "_law_many"] (spD K 3 (F__law_row))) (h__law_value_by : OkF P w K mg base "_law_value_by" 1 ["_law_number"] (spD K 1 (F__law_value_by))) (h__law_whole : OkF P w K mg base "_law_whole" 1 ["_law_found"] (spD K 1 (F__law_whole))) (h_value : OkF P w K mg base "value" 2 ["sign", "one", "other"] (spD K 3 (F_value))) (h_ways : OkF P w K mg base "ways" 2 ["program"] (spD K 1 (F_ways))) : FnOk P w K mg base CX0 4 f fd ["_law_script"] (spD K 1 F_law) :=
  fn_ok D sc_law rfl fun cdv A outer s H E hr => (ds_cons (ds_set nm_law_1 lc_law_1 sc_law.nd (DL.toO (DO.toL (do_callF gl_law__law_names h__law_names (hr.mono (by decide)) (da_cons (DO.toL (do_callF gl_law__law_cell_at h__law_cell_at (hr.mono (by decide)) (da_cons (dl_var (pvD 0 nm_law_0)) (da_cons dl_int da_nil)))) (da_cons dl_int da_nil))))))
      (ds_cons (ds_set nm_law_2 lc_law_2 sc_law.nd (DL.toO (DO.toL (do_callF gl_law__law_value_by h__law_value_by (hr.mono (by decide)) (da_cons (DO.toL (do_bin op_mod r_mod (DO.toB (do_callF gl_law__law_cell_at h__law_cell_at (hr.mono (by decide)) (da_cons (dl_var (pvD 0 nm_law_0)) (da_cons dl_int da_nil)))) (DL.toB dl_int))) da_nil)))))
      (ds_cons (ds_set nm_law_3 lc_law_3 sc_law.nd (DL.toO (DO.toL (do_callF gl_law__law_value_by h__law_value_by (hr.mono (by decide)) (da_cons (DO.toL (do_bin op_mod r_mod (DO.toB (do_callF gl_law__law_cell_at h__law_cell_at (hr.mono (by decide)) (da_cons (dl_var (pvD 0 nm_law_0)) (da_cons dl_int da_nil)))) (DL.toB dl_int))) da_nil)))))
      (ds_cons (ds_if (dt_cmp (op_eqA hr) r_eq (DO.toB (do_bin op_mod r_mod (DO.toB (do_callF gl_law__law_cell_at h__law_cell_at (hr.mono (by decide)) (da_cons (dl_var (pvD 0 nm_law_0)) (da_cons dl_int da_nil)))) (DL.toB dl_int))) (DL.toB dl_int) (nomark _)) (ds_one (ds_set nm_law_3 lc_law_3 sc_law.nd (DL.toO (dl_var (pvD 2 nm_law_2))))) ds_nil)
      (ds_cons (ds_for PassesOwn.never rfl (di_seq dl_str) (dg_name (pg_nameD nm_law_4 lc_law_4 sc_law.nd)) (ds_cons (ds_set nm_law_5 lc_law_5 sc_law.nd (do_callF gl_law_value h_value (hr.mono (by decide)) (da_cons (dl_var (pvD 4 nm_law_4)) (da_cons (dl_var (pvD 2 nm_law_2)) (da_cons (dl_var (pvD 3 nm_law_3)) da_nil)))))
      (ds_one (ds_if (DW.t (dw_or (dt_not (dt_truth (DO.toB (do_callFB gl_law__law_whole h__law_whole (hr.mono (by decide)) (dab_cons (db_var (pvD 5 nm_law_5)) dab_nil))) (fun _ => rfl))) (dw_or (dt_not (dt_chain op_le r_cmp op_lt r_cmp (DL.toB dl_int) (db_var (pvD 5 nm_law_5)) (DO.toB (do_bin op_pow r_pow (DL.toB dl_int) (DL.toB dl_int))))) (dw_or1 (dt_not (dt_truth (DO.toB (do_callFB gl_law__law_fits h__law_fits (hr.mono (by decide)) (dab_cons (db_var (pvD 4 nm_law_4)) (dab_cons (db_var (pvD 2 nm_law_2)) (dab_cons (db_var (pvD 3 nm_law_3)) (dab_cons (db_var (pvD 5 nm_law_5)) dab_nil)))))) (fun _ => rfl))))))) (ds_one (ds_ret (DL.toO dl_bl))) ds_nil))))
      (ds_cons (ds_set nm_law_6 lc_law_6 sc_law.nd (DL.toO (DO.toL (do_bin op_addD r_add (DO.toB (do_callB gl_law_len call_len c_len T.n_len bt_len (dab_cons (DO.toB (do_slice (db_var (pvD 0 nm_law_0)) (dp_some (DL.toB dl_int)) (dp_some (DL.toB dl_int)))) dab_nil))) (DL.toB dl_int)))))
      (ds_cons (ds_set nm_law_7 lc_law_7 sc_law.nd (DL.toO (DO.toL (do_bin op_addD r_add (DO.toB (do_comp (M := ["_law_cell", "_law_names_here", "_law_many"]) (src := [none, some 1, some 6]) (ts := [0]) (CmpScope.of (N := ["_law_script", "_law_names_here", "_law_one", "_law_other", "_law_sign", "_law_found", "_law_many", "_law_rows", "_law_cells", "_law_program"]) (outer := defScope s_law) (by decide +kernel)) rfl (dib_seq (DO.toB (do_slice (db_var (pvD 0 nm_law_0)) (dp_some (DL.toB dl_int)) (dp_some (DL.toB dl_int))))) (fun nd _ _ _ _ => (dg_name (pg_nameC (N := ["_law_cell", "_law_names_here", "_law_many"]) (i := 0) (by decide +kernel) (by decide +kernel) nd (scC (outer := defScope s_law) (by exact rfl))))) (fun _ _ _ _ => dts_nil) (fun _ _ _ _ => (DO.toL (do_callF (by decide +kernel) h__law_row (hr.mono (by decide)) (da_cons (dl_var (pvD (N := ["_law_cell", "_law_names_here", "_law_many"]) 0 (by decide +kernel) (scC (outer := defScope s_law) rfl))) (da_cons (dl_var (pvD (N := ["_law_cell", "_law_names_here", "_law_many"]) 1 (by decide +kernel) (scC (outer := defScope s_law) rfl))) (da_cons (dl_var (pvD (N := ["_law_cell", "_law_names_here", "_law_many"]) 2 (by decide +kernel) (scC (outer := defScope s_law) rfl))) da_nil))) (e1 := (scC (outer := defScope s_law) rfl))))) (by decide +kernel))) (DO.toB (do_lst (da_cons (DO.toL (do_tup (da_cons dl_str (da_cons (dl_var (pvD 3 nm_law_3)) da_nil)))) da_nil)))))))
      (ds_cons (ds_set nm_law_8 lc_law_8 sc_law.nd (DL.toO (DO.toL (do_tup (da_cons (DO.toL (do_tup (da_cons (DO.toL (do_ixA hr (db_var (pvD 1 nm_law_1)) (DL.toB dl_int))) (da_cons (dl_var (pvD 2 nm_law_2)) (da_cons dl_bl da_nil))))) (da_cons (DO.toL (do_tup (da_cons (DO.toL (do_ixA hr (db_var (pvD 1 nm_law_1)) (DL.toB dl_int))) (da_cons (dl_var (pvD 3 nm_law_3)) (da_cons dl_bl da_nil))))) da_nil))))))
      (ds_cons (ds_set nm_law_9 lc_law_9 sc_law.nd (DL.toO (DO.toL (do_tup (da_cons (dl_var (pvD 8 nm_law_8)) (da_cons (DO.toL (do_tup (da_cons (DO.toL (do_tup (da_cons (DO.toL (do_ixA hr (db_var (pvD 1 nm_law_1)) (DL.toB dl_int))) (da_cons (DO.toL (do_bin op_addD r_add (DL.toB dl_int) (DO.toB (do_bin op_mod r_mod (db_var (pvD 2 nm_law_2)) (DL.toB dl_int))))) (da_cons (DO.toL (do_cmp (op_eqA hr) r_eq (DO.toB (do_bin op_mod r_mod (db_var (pvD 3 nm_law_3)) (DL.toB dl_int))) (DL.toB dl_int) (nomark _))) da_nil))))) da_nil))) (da_cons (DO.toL (do_callT gl_law_tuple call_tuple_of c_tuple T.n_tuple bt_tuple (dab_cons (db_var (pvD 7 nm_law_7)) dab_nil))) da_nil)))))))
      (ds_cons (ds_set nm_law_5 lc_law_5 sc_law.nd (do_callF gl_law_ways h_ways (hr.mono (by decide)) (da_cons (dl_var (pvD 9 nm_law_9)) da_nil)))
      (ds_cons (ds_if (dt_not (dt_truth (DO.toB (do_callFB gl_law__law_led h__law_led (hr.mono (by decide)) (dab_cons (db_var (pvD 5 nm_law_5)) (dab_cons (db_var (pvD 7 nm_law_7)) dab_nil)))) (fun _ => rfl))) (ds_one (ds_ret (DL.toO dl_bl))) ds_nil)
      (ds_cons (ds_clear (pvD 5 nm_law_5))
      (ds_one (ds_ret (do_callF gl_law__law_led h__law_led (hr.mono (by decide)) (da_cons (DO.toL (do_callF gl_law_ways h_ways (hr.mono (by decide)) (da_cons (dl_var (pvD 9 nm_law_9)) da_nil))) (da_cons (dl_var (pvD 7 nm_law_7)) da_nil)))))))))))))))))
end
end P21

local macro_rules | `(tactic| walk_at "d") => `(tactic| simp -implicitDefEqProofs only [L2.runD_d, L2.finO_rt, L2.finO_nx, L2.sSeq_d, L2.thenO_nx, L2.thenO_rt, L2.thenO_bk, L2.thenO_ct, L2.sNil, L2.sSet, L2.sRet, L2.sRetV, L2.sIf_d, L2.condO_t, L2.condO_f, L2.kB_d, L2.kT_d, L2.sFor_d, L2.sFrz, L2.sDrop, L2.sAsg, L2.s_clear, L2.sAug, L2.sPut, L2.toT, L2.toD, L2.T.d, L2.kD, L2.vL, L2.vB, L2.d2, L2.tB2, L2.fTru, L2.fNot, L2.fAnd_d, L2.fOr_d, L2.vNot, L2.vAnd_d, L2.vOr_d, L2.vIf_d, L2.aNil, L2.aCons, L2.vTup_d, L2.vLst_d, L2.mkL_of, L2.mkTp_of, L2.appL_of, L2.vCall, L2.vCallB, L2.scalT_b, L2.scalT_i, L2.scalT_s, L2.scalT_n, L2.vMeth, L2.vComp_d, L2.vSl, L2.oNone, L2.oSome, L2.vInst, L2.instD, L2.vChain, L2.asBf, L2.vNeg, L2.fIt, L2.fRng, L2.bName, L2.dC, L2.tYesD, L2.gAdd_i, L2.atI_0, L2.atI_1, L2.atI_2, L2.atI_3, L2.atI_4, L2.atI_5, L2.atI_6, L2.atI_7, L2.atI_8, L2.atI_9, L2.atI_10, L2.atI_11, L2.atI_12, L2.atI_m1, L2.gAdd_ls, L2.gIn_l, L2.gIn_t, L2.flatD_n, L2.flatD_b, L2.flatD_i, L2.flatD_s, L2.eqF_s, L2.eqF_i, L2.eqF_is, L2.eqF_si, L2.eqF_sn, L2.eqF_in, L2.eqF_nn, List.all_cons, List.all_nil, List.any_cons, List.any_nil, L2.gSub_i, L2.gMul_l, L2.gMul_r, L2.gDiv_i, L2.gMod_i, L2.gPow_40, L2.gMod_w, L2.gBit_i, L2.gCmp_i, L2.gEq_ii, L2.gEq_ss, L2.gEq_bb, L2.gEq_is, L2.gEq_si, L2.gEq_ns, L2.gEq_sn, L2.gEq_ni, L2.gEq_in, L2.gEq_nn, L2.gNe_ii, L2.gNe_ss, L2.gNe_bb, L2.gIs_n, L2.isNon, L2.gIx_l, L2.gIx_t, L2.gIx_d, L2.gIn_d, L2.gLen_l, L2.gLen_t, L2.gInt_i, L2.gInt_b, L2.gStr_s, L2.gTuple_l, L2.gTuple_t, L2.gList_l, L2.gList_t, L2.itD_l, L2.itD_t, L2.itD_s, L2.truD_b, L2.truD_i, L2.truD_l, L2.truD_t, L2.truD_n, L2.asB_b, L2.asBl_b, L2.asI_i, L2.forD_nil, List.map_cons, List.map_nil, List.length_cons, List.length_nil, List.cons_append, List.nil_append, List.replicate, List.getElem?_cons_zero, List.getElem?_cons_succ, List.set_cons_zero, List.set_cons_succ, Option.bind_some, Option.bind_none, Option.map_some, Option.map_none, Option.join_some, Option.join_none, Nat.reduceAdd, Nat.reduceSub, Nat.reduceLeDiff, Int.reduceLT, Int.reduceEq, eq_self, Int.reduceNeg, Int.reduceLE, if_true, if_false, ite_true, ite_false, Bool.false_eq_true, decide_true, decide_false, Bool.not_true, Bool.not_false, Bool.and_true, Bool.true_and, Bool.or_true, Bool.true_or, Bool.or_false, Bool.false_or, Bool.and_false, Bool.false_and, String.reduceBEq, reduceCtorEq])
local macro_rules | `(tactic| walk_at "dh") => `(tactic| simp -implicitDefEqProofs only [L2.runD_d, L2.finO_rt, L2.finO_nx, L2.sSeq_d, L2.thenO_nx, L2.thenO_rt, L2.thenO_bk, L2.thenO_ct, L2.sNil, L2.sSet, L2.sRet, L2.sRetV, L2.sIf_d, L2.condO_t, L2.condO_f, L2.kB_d, L2.kT_d, L2.sFor_d, L2.sFrz, L2.sDrop, L2.sAsg, L2.s_clear, L2.sAug, L2.sPut, L2.toT, L2.toD, L2.T.d, L2.kD, L2.vL, L2.vB, L2.d2, L2.tB2, L2.fTru, L2.fNot, L2.fAnd_d, L2.fOr_d, L2.vNot, L2.vAnd_d, L2.vOr_d, L2.vIf_d, L2.aNil, L2.aCons, L2.vTup_d, L2.vLst_d, L2.mkL_of, L2.mkTp_of, L2.appL_of, L2.vCall, L2.vCallB, L2.scalT_b, L2.scalT_i, L2.scalT_s, L2.scalT_n, L2.vMeth, L2.vComp_d, L2.vSl, L2.oNone, L2.oSome, L2.vInst, L2.instD, L2.vChain, L2.asBf, L2.vNeg, L2.fIt, L2.fRng, L2.bName, L2.dC, L2.tYesD, L2.gAdd_i, L2.atI_0, L2.atI_1, L2.atI_2, L2.atI_3, L2.atI_4, L2.atI_5, L2.atI_6, L2.atI_7, L2.atI_8, L2.atI_9, L2.atI_10, L2.atI_11, L2.atI_12, L2.atI_m1, L2.gAdd_ls, L2.gIn_l, L2.gIn_t, L2.flatD_n, L2.flatD_b, L2.flatD_i, L2.flatD_s, L2.eqF_s, L2.eqF_i, L2.eqF_is, L2.eqF_si, L2.eqF_sn, L2.eqF_in, L2.eqF_nn, List.all_cons, List.all_nil, List.any_cons, List.any_nil, L2.gSub_i, L2.gMul_l, L2.gMul_r, L2.gDiv_i, L2.gMod_i, L2.gPow_40, L2.gMod_w, L2.gBit_i, L2.gCmp_i, L2.gEq_ii, L2.gEq_ss, L2.gEq_bb, L2.gEq_is, L2.gEq_si, L2.gEq_ns, L2.gEq_sn, L2.gEq_ni, L2.gEq_in, L2.gEq_nn, L2.gNe_ii, L2.gNe_ss, L2.gNe_bb, L2.gIs_n, L2.isNon, L2.gIx_l, L2.gIx_t, L2.gIx_d, L2.gIn_d, L2.gLen_l, L2.gLen_t, L2.gInt_i, L2.gInt_b, L2.gStr_s, L2.gTuple_l, L2.gTuple_t, L2.gList_l, L2.gList_t, L2.itD_l, L2.itD_t, L2.itD_s, L2.truD_b, L2.truD_i, L2.truD_l, L2.truD_t, L2.truD_n, L2.asB_b, L2.asBl_b, L2.asI_i, L2.forD_nil, List.map_cons, List.map_nil, List.length_cons, List.length_nil, List.cons_append, List.nil_append, List.replicate, List.getElem?_cons_zero, List.getElem?_cons_succ, List.set_cons_zero, List.set_cons_succ, Option.bind_some, Option.bind_none, Option.map_some, Option.map_none, Option.join_some, Option.join_none, Nat.reduceAdd, Nat.reduceSub, Nat.reduceLeDiff, Int.reduceLT, Int.reduceEq, eq_self, Int.reduceNeg, Int.reduceLE, if_true, if_false, ite_true, ite_false, Bool.false_eq_true, decide_true, decide_false, Bool.not_true, Bool.not_false, Bool.and_true, Bool.true_and, Bool.or_true, Bool.true_or, Bool.or_false, Bool.false_or, Bool.and_false, Bool.false_and, String.reduceBEq, reduceCtorEq, *])
namespace P21
open PySem L2
theorem atI_getD {α β : Type} (f : α → β) (l : List α) (k : Nat) (h : k < l.length) (d : α) : atI (l.map f) (k : Int) = some (f (l.getD k d)) := by
  unfold atI ixN
  rw [if_pos (by omega), List.length_map, if_pos (by omega)]
  simp [h]
theorem cell_at (ns : List Int) (k : Nat) : F__law_cell_at [.lst (ns.map .int), .int k] = some (.leaf (.int (ns.getD k 0))) := by
  unfold F__law_cell_at
  walk_at "d"
  by_cases h : k < ns.length
  · rw [condO_p (by simpa using h)]
    walk_at "d"
    rw [atI_getD Dt.int ns k h 0]
    rfl
  · rw [condO_n (by simpa using h)]
    walk_at "d"
    simp [List.getD, show ns.length ≤ k by omega]
def InR (n : Int) : Prop := 0 ≤ n ∧ n < wide
theorem value_by (n : Int) : ∃ v, F__law_value_by [.int n] = some (.leaf (.int v)) ∧ InR v := by
  have m0 := Int.emod_nonneg (n / 3) (show (4 : Int) ≠ 0 by decide)
  have m1 := Int.emod_lt_of_pos (n / 3) (show (0 : Int) < 4 by decide)
  unfold F__law_value_by
  walk_at "d"
  by_cases h : n % 3 = 0
  · rw [condO_p (by simpa using h)]
    walk_at "d"
    exact ⟨_, rfl, m0, by rw [wide_eq]; omega⟩
  · rw [condO_n (by simpa using h)]
    walk_at "d"
    by_cases h : n % 3 = 1
    · rw [condO_p (by simpa using h)]
      walk_at "d"
      exact ⟨_, rfl, by rw [wide_eq]; omega, by rw [wide_eq]; omega⟩
    · rw [condO_n (by simpa using h)]
      walk_at "d"
      exact ⟨_, rfl, Int.emod_nonneg _ (by rw [wide_eq]; decide), Int.emod_lt_of_pos _ wide_pos⟩
end P21

namespace P21
open PySem L2
def letters : Str := "abcdefghijklmnopqrstuvwxyz"
theorem letters_len : letters.length = 26 := by decide +kernel
theorem names_0 (c : Int) (i : Nat) (hi : i < 10) : ∃ g : Nat, E__law_names_0 [some (.leaf (.int (0 + (i : Int)))), some (.leaf (.int c)), some (.leaf (.str letters))] = some (.str ⟨#[g]⟩) := by
  have m0 := Int.emod_nonneg c (show (2 : Int) ≠ 0 by decide)
  have m1 := Int.emod_lt_of_pos c (show (0 : Int) < 2 by decide)
  unfold E__law_names_0
  walk_at "d"
  rw [gMul_r (i := 11 * (0 + (i : Int))) (j := c % 2) (by omega) (by omega)]
  walk_at "d"
  obtain ⟨g, e, _⟩ := ix_sign (x := letters) (i := (c / 37 + 11 * (0 + (i : Int)) * (c % 2)) % 26) (by rw [letters_len]; decide) (Int.emod_nonneg _ (by decide)) (by rw [letters_len]; exact Int.emod_lt_of_pos _ (by decide))
  rw [e]
  exact ⟨g, rfl⟩
theorem slice_ok {x : Str} {lo hi : Option Int} (h : x.length ≤ 1000) : ∃ y, gSl (.str x) lo hi = some (.leaf (.str y)) ∧ y.length ≤ x.length :=
  ⟨_, if_pos (small (by omega)), Txt.slice_le x lo hi⟩
theorem gAdd_ss {x y : Str} (h : x.length + y.length ≤ 1000000) : gAdd (.str x) (.str y) = some (.leaf (.str (x ++ y))) := gAdd_s (small h)
theorem app_len (x y : Str) : (x ++ y).length = x.length + y.length := by
  show (x.cps ++ y.cps).size = _
  rw [Array.size_append]
  rfl
theorem names_1 (c p : Int) (m : Str) (hm : m.length ≤ 6) (i : Nat) : ∃ x : Str, E__law_names_1 [some (.leaf (.int (0 + (i : Int)))), some (.leaf (.int c)), some (.leaf (.str letters)), some (.leaf (.int p)), some (.leaf (.str m))] = some (.str x) := by
  unfold E__law_names_1
  walk_at "d"
  obtain ⟨y, ey, hy⟩ := slice_ok (x := m) (lo := none) (hi := some p) (by omega)
  obtain ⟨z, ez, hz⟩ := slice_ok (x := m) (lo := some p) (hi := none) (by omega)
  obtain ⟨g, e, _⟩ := ix_sign (x := letters) (i := (c / 42 + 5 * (0 + (i : Int))) % 26) (by rw [letters_len]; decide) (Int.emod_nonneg _ (by decide)) (by rw [letters_len]; exact Int.emod_lt_of_pos _ (by decide))
  have hg : (⟨#[g]⟩ : Str).length = 1 := rfl
  rw [ey]
  walk_at "d"
  rw [e]
  walk_at "d"
  rw [gAdd_ss (by omega)]
  walk_at "d"
  rw [ez]
  walk_at "d"
  rw [gAdd_ss (by rw [app_len]; omega)]
  exact ⟨_, rfl⟩
theorem paired_str : ∀ {ds ys : List Dt}, Paired (fun _ y => ∃ c : Str, y = .str c) ds ys → ∃ xs : List Str, ys = xs.map .str ∧ xs.length = ds.length
  | _, _, .nil => ⟨[], rfl, rfl⟩
  | _, _, .cons ⟨c, e⟩ t => by
    obtain ⟨xs, e1, e2⟩ := paired_str t
    exact ⟨c :: xs, by rw [e, e1]; rfl, by simp [e2]⟩
theorem names_ok (c : Int) : ∃ xs : List Str, F__law_names [.int c, .int 8] = some (.lst (xs.map .str)) ∧ xs.length = 8 := by
  have b0 := Int.emod_nonneg c (show (6 : Int) ≠ 0 by decide)
  have b1 := Int.emod_lt_of_pos c (show (0 : Int) < 6 by decide)
  unfold F__law_names
  walk_at "d"
  rw [gMod_i (by omega)]
  walk_at "d"
  obtain ⟨ys, e, hp⟩ := compL_ex (bb := bName 0) (ft := tYesD) (fe := E__law_names_0) (ds := rangeD 0 (c % 6).toNat) (δ := [none, some (.leaf (.int c)), some (.leaf (.str letters))]) (P := fun _ y => ∃ c : Nat, y = .str ⟨#[c]⟩) fun d hd => by
    obtain ⟨i, hi, rfl⟩ := mem_range hd
    obtain ⟨g, e⟩ := names_0 c i (by omega)
    exact ⟨_, _, rfl, rfl, e, g, rfl⟩
  obtain ⟨cs, rfl, hl⟩ := paired_sg hp
  rw [range_len] at hl
  rw [rng1_i (rngOk_of (by omega) (by omega)), Option.bind_some, show Str.ofString "abcdefghijklmnopqrstuvwxyz" = letters from rfl, e, Option.bind_some, mkL_of (by unfold sgD; rw [List.length_map]; omega)]
  walk_at "d"
  rw [show Str.ofString "" = ("" : Str) from rfl, join_sgD (by omega)]
  walk_at "d"
  have hm : (⟨cs.toArray⟩ : Str).length ≤ 6 := by
    show cs.toArray.size ≤ 6
    simp
    omega
  obtain ⟨ys, e, hp⟩ := compL_ex (bb := bName 0) (ft := tYesD) (fe := E__law_names_1) (ds := rangeD 0 (8 : Int).toNat) (δ := [none, some (.leaf (.int c)), some (.leaf (.str letters)), some (.leaf (.int (c / 6 % (c % 6 + 1)))), some (.leaf (.str ⟨cs.toArray⟩))]) (P := fun _ y => ∃ c : Str, y = .str c) fun d hd => by
    obtain ⟨i, hi, rfl⟩ := mem_range hd
    obtain ⟨x, e⟩ := names_1 c (c / 6 % (c % 6 + 1)) ⟨cs.toArray⟩ hm i
    exact ⟨_, _, rfl, rfl, e, x, rfl⟩
  obtain ⟨xs, rfl, hx⟩ := paired_str hp
  rw [range_len] at hx
  rw [rng1_i (rngOk_of (by omega) (by omega)), Option.bind_some, e, Option.bind_some, mkL_of (by rw [List.length_map, hx]; decide)]
  walk_at "d"
  exact ⟨xs, rfl, hx⟩
end P21

namespace P21
open PySem L2
def Sm (v : Int) : Prop := 0 ≤ v ∧ v < 2147483629
theorem len7 {α : Type} : ∀ {l : List α}, l.length = 7 → ∃ a b c d e f g, l = [a, b, c, d, e, f, g]
  | [a, b, c, d, e, f, g], _ => ⟨a, b, c, d, e, f, g, rfl⟩
theorem cut_7 {a b c d e f g : Dt} : gSl (.lst [a, b, c, d, e, f, g]) (some 1) none = some (.lst [b, c, d, e, f, g]) := rfl
theorem stream_ok (c : Int) : ∃ v0 v1 v2 v3 v4 v5 : Int, F__law_stream [.int c, .int 6] = some (.lst [.int v0, .int v1, .int v2, .int v3, .int v4, .int v5]) ∧ Sm v0 ∧ Sm v1 ∧ Sm v2 ∧ Sm v3 ∧ Sm v4 ∧ Sm v5 := by
  unfold F__law_stream
  walk_at "d"
  rw [show (6 : Int) + 1 = 7 from rfl, rng1_i (rngOk_of (by omega) (by omega)), Option.bind_some]
  have c0 := Int.emod_nonneg c (show (2147483629 : Int) ≠ 0 by decide)
  have c1 := Int.emod_lt_of_pos c (show (0 : Int) < 2147483629 by decide)
  obtain ⟨δ', e, l, n, x, rfl, hn, hn', hl, hv⟩ := forD_at (all := rangeD 0 (7 : Int).toNat) (bb := bName 4) (g := B__law_stream_0) (P := fun done δ => ∃ (l : List Int) (n : Int) (x : Option T), δ = [some (.leaf (.int c)), some (.leaf (.int 6)), some (.lst (l.map .int)), some (.leaf (.int n)), x] ∧ 0 ≤ n ∧ n < 3000000000 ∧ l.length = done.length ∧ ∀ v ∈ l, Sm v)
    (rangeD 0 (7 : Int).toNat) [] [some (.leaf (.int c)), some (.leaf (.int 6)), some (.lst []), some (.leaf (.int (c % 2147483629 + 69621))), none] rfl ⟨[], _, _, rfl, by omega, by omega, rfl, fun _ h => by cases h⟩
    (fun done d r δ hd h => by
      obtain ⟨hd, hi⟩ := range_at hd
      generalize ei : done.length = i at hd hi h
      subst hd
      obtain ⟨l, n, x, rfl, h0, h1, hl, hv⟩ := h
      refine ⟨[some (.leaf (.int c)), some (.leaf (.int 6)), some (.lst (l.map .int)), some (.leaf (.int n)), some (.leaf (.int (0 + (i : Int))))], [some (.leaf (.int c)), some (.leaf (.int 6)), some (.lst ((l ++ [(n * n + 16807 * n + (0 + (i : Int))) % 2147483629]).map .int)), some (.leaf (.int ((n * n + 16807 * n + (0 + (i : Int))) % 2147483629))), some (.leaf (.int (0 + (i : Int))))], rfl, .inl ?_, l ++ [(n * n + 16807 * n + (0 + (i : Int))) % 2147483629], _, _, rfl, Int.emod_nonneg _ (by decide), Int.lt_trans (Int.emod_lt_of_pos _ (by decide)) (by decide), by simp [hl, ei], ?_⟩
      · unfold B__law_stream_0
        walk_at "d"
        rw [gMul_l (by omega) (by omega)]
        walk_at "d"
        rw [app_d rfl]
        walk_at "d"
        rw [appL_of (by rw [List.length_map, hl]; omega)]
        walk_at "d"
        rw [List.map_append]
        rfl
      · intro v hvm
        rcases List.mem_append.mp hvm with hvm | hvm
        · exact hv v hvm
        · cases List.mem_singleton.mp hvm
          exact ⟨Int.emod_nonneg _ (by decide), Int.emod_lt_of_pos _ (by decide)⟩)
  rw [range_len] at hl
  rw [e]
  walk_at "d"
  obtain ⟨a0, v0, v1, v2, v3, v4, v5, rfl⟩ := len7 hl
  rw [List.map_cons, List.map_cons, List.map_cons, List.map_cons, List.map_cons, List.map_cons, List.map_cons, List.map_nil, cut_7]
  exact ⟨v0, v1, v2, v3, v4, v5, rfl, hv _ (by simp), hv _ (by simp), hv _ (by simp), hv _ (by simp), hv _ (by simp), hv _ (by simp)⟩
end P21

namespace P21
open PySem L2
def At (d : Dt) : Prop := (∃ n, InR n ∧ d = .int n) ∨ ∃ x, d = .str x
theorem pick {xs : List Str} {i : Int} (h0 : 0 ≤ i) (h1 : i < xs.length) : ∃ x, atI (xs.map Dt.str) i = some (.str x) := by
  obtain ⟨v, e, hm⟩ := atI_in (xs := xs.map Dt.str) h0 (by rw [List.length_map]; exact h1)
  obtain ⟨x, _, rfl⟩ := List.mem_map.mp hm
  exact ⟨x, e⟩
theorem atom_ok (c : Int) (xs : List Str) (hx : xs.length = 8) : ∃ d, F__law_atom [.int c, .lst (xs.map .str)] = some (.leaf d) ∧ At d := by
  unfold F__law_atom
  walk_at "d"
  by_cases h : c % 3 = 0
  · rw [condO_p (by simpa using h)]
    walk_at "d"
    obtain ⟨v, e, hv⟩ := value_by (c / 3)
    rw [e]
    walk_at "d"
    exact ⟨_, rfl, .inl ⟨v, hv, rfl⟩⟩
  · rw [condO_n (by simpa using h)]
    walk_at "d"
    rw [List.length_map, hx, gMod_i (by decide)]
    walk_at "d"
    obtain ⟨x, e⟩ := pick (xs := xs) (i := c / 3 % (8 : Nat)) (Int.emod_nonneg _ (by decide)) (by rw [hx]; exact Int.emod_lt_of_pos _ (by decide))
    rw [e]
    walk_at "d"
    exact ⟨_, rfl, .inr ⟨x, rfl⟩⟩
inductive Row (m : Int) : Dt → Prop
  | copy {x : Str} {a : Dt} : At a → Row m (.tup [.str "copy", .str x, a])
  | load {x y : Str} : Row m (.tup [.str "load", .str x, .str y])
  | store {x : Str} {a : Dt} : At a → Row m (.tup [.str "store", .str x, a])
  | op {x s : Str} {a b : Dt} : At a → At b → Row m (.tup [.str "op", .str x, .str s, a, b])
  | take {x y : Str} {a : Dt} : At a → Row m (.tup [.str "take", .str x, .str y, a])
  | hear {x : Str} : Row m (.tup [.str "hear", .str x])
  | say {a : Dt} : At a → Row m (.tup [.str "say", a])
  | lay {x : Str} {a b : Dt} : At a → At b → Row m (.tup [.str "lay", .str x, a, b])
  | iff {a : Dt} {w : Int} : At a → 0 ≤ w → w < m → Row m (.tup [.str "if", a, .int w])
  | go {w : Int} : 0 ≤ w → w < m → Row m (.tup [.str "go", .int w])
  | fin {a : Dt} : At a → Row m (.tup [.str "end", a])
theorem len8 {α : Type} : ∀ {l : List α}, l.length = 8 → ∃ a b c d e f g h, l = [a, b, c, d, e, f, g, h]
  | [a, b, c, d, e, f, g, h], _ => ⟨a, b, c, d, e, f, g, h, rfl⟩
theorem row_ok (c : Int) (xs : List Str) (hx : xs.length = 8) (m : Int) (hm : 0 < m) : ∃ r, F__law_row [.int c, .lst (xs.map .str), .int m] = some (.leaf r) ∧ Row m r := by
  unfold F__law_row
  obtain ⟨v0, v1, v2, v3, v4, v5, es, h0, h1, h2, h3, h4, h5⟩ := stream_ok c
  obtain ⟨a, ea, ha⟩ := atom_ok v2 xs hx
  obtain ⟨b, eb, hb⟩ := atom_ok v3 xs hx
  obtain ⟨x, ex⟩ := pick (xs := xs) (i := v1 % 5) (Int.emod_nonneg _ (by decide)) (by rw [hx]; exact Int.lt_trans (Int.emod_lt_of_pos _ (by decide)) (by decide))
  obtain ⟨x5, e5⟩ := pick (xs := xs) (i := 5) (by decide) (by rw [hx]; decide)
  obtain ⟨x6, e6⟩ := pick (xs := xs) (i := 6) (by decide) (by rw [hx]; decide)
  obtain ⟨x7, e7⟩ := pick (xs := xs) (i := 7) (by decide) (by rw [hx]; decide)
  rw [atI_5] at e5
  rw [atI_6] at e6
  rw [atI_7] at e7
  have sl : ("+-*<=&|^" : Str).length = 8 := by decide +kernel
  obtain ⟨g, eg, _⟩ := ix_sign (x := Str.ofString "+-*<=&|^") (i := v5 % 8) (by rw [show (Str.ofString "+-*<=&|^").length = 8 from sl]; decide) (Int.emod_nonneg _ (by decide)) (by rw [show (Str.ofString "+-*<=&|^").length = 8 from sl]; exact Int.emod_lt_of_pos _ (by decide))
  have w0 := Int.emod_nonneg v4 (show m ≠ 0 by omega)
  have w1 := Int.emod_lt_of_pos v4 hm
  clear h1 h2 h3 h4 h5
  walk_at "dh"
  rw [app_d rfl]
  walk_at "dh"
  rw [appL_of (by simp)]
  walk_at "dh"
  rw [app_d rfl]
  walk_at "dh"
  rw [appL_of (by simp)]
  walk_at "dh"
  obtain ⟨k, hk, ek⟩ := emod_cases v0 (n := 11) (by decide)
  rw [show ((11 : Nat) : Int) = 11 from rfl] at ek
  rw [ek, atI_nat']
  have q : k = 0 ∨ k = 1 ∨ k = 2 ∨ k = 3 ∨ k = 4 ∨ k = 5 ∨ k = 6 ∨ k = 7 ∨ k = 8 ∨ k = 9 ∨ k = 10 := by omega
  rcases q with rfl | rfl | rfl | rfl | rfl | rfl | rfl | rfl | rfl | rfl | rfl
  · exact ⟨_, rfl, .copy ha⟩
  · exact ⟨_, rfl, .load⟩
  · exact ⟨_, rfl, .store ha⟩
  · exact ⟨_, rfl, .op ha hb⟩
  · exact ⟨_, rfl, .take ha⟩
  · exact ⟨_, rfl, .hear⟩
  · exact ⟨_, rfl, .say ha⟩
  · exact ⟨_, rfl, .lay ha hb⟩
  · exact ⟨_, rfl, .iff ha w0 w1⟩
  · exact ⟨_, rfl, .go w0 w1⟩
  · exact ⟨_, rfl, .fin ha⟩
end P21

namespace P21
open PySem L2
theorem ns_pl_mi : (Str.ofString "+" = Str.ofString "-") = False := eq_false (by decide +kernel)
theorem ns_pl_ti : (Str.ofString "+" = Str.ofString "*") = False := eq_false (by decide +kernel)
theorem ns_pl_lt : (Str.ofString "+" = Str.ofString "<") = False := eq_false (by decide +kernel)
theorem ns_pl_eq : (Str.ofString "+" = Str.ofString "=") = False := eq_false (by decide +kernel)
theorem ns_pl_an : (Str.ofString "+" = Str.ofString "&") = False := eq_false (by decide +kernel)
theorem ns_pl_or : (Str.ofString "+" = Str.ofString "|") = False := eq_false (by decide +kernel)
theorem ns_pl_xo : (Str.ofString "+" = Str.ofString "^") = False := eq_false (by decide +kernel)
theorem ns_mi_pl : (Str.ofString "-" = Str.ofString "+") = False := eq_false (by decide +kernel)
theorem ns_mi_ti : (Str.ofString "-" = Str.ofString "*") = False := eq_false (by decide +kernel)
theorem ns_mi_lt : (Str.ofString "-" = Str.ofString "<") = False := eq_false (by decide +kernel)
theorem ns_mi_eq : (Str.ofString "-" = Str.ofString "=") = False := eq_false (by decide +kernel)
theorem ns_mi_an : (Str.ofString "-" = Str.ofString "&") = False := eq_false (by decide +kernel)
theorem ns_mi_or : (Str.ofString "-" = Str.ofString "|") = False := eq_false (by decide +kernel)
theorem ns_mi_xo : (Str.ofString "-" = Str.ofString "^") = False := eq_false (by decide +kernel)
theorem ns_ti_pl : (Str.ofString "*" = Str.ofString "+") = False := eq_false (by decide +kernel)
theorem ns_ti_mi : (Str.ofString "*" = Str.ofString "-") = False := eq_false (by decide +kernel)
theorem ns_ti_lt : (Str.ofString "*" = Str.ofString "<") = False := eq_false (by decide +kernel)
theorem ns_ti_eq : (Str.ofString "*" = Str.ofString "=") = False := eq_false (by decide +kernel)
theorem ns_ti_an : (Str.ofString "*" = Str.ofString "&") = False := eq_false (by decide +kernel)
theorem ns_ti_or : (Str.ofString "*" = Str.ofString "|") = False := eq_false (by decide +kernel)
theorem ns_ti_xo : (Str.ofString "*" = Str.ofString "^") = False := eq_false (by decide +kernel)
theorem ns_lt_pl : (Str.ofString "<" = Str.ofString "+") = False := eq_false (by decide +kernel)
theorem ns_lt_mi : (Str.ofString "<" = Str.ofString "-") = False := eq_false (by decide +kernel)
theorem ns_lt_ti : (Str.ofString "<" = Str.ofString "*") = False := eq_false (by decide +kernel)
theorem ns_lt_eq : (Str.ofString "<" = Str.ofString "=") = False := eq_false (by decide +kernel)
theorem ns_lt_an : (Str.ofString "<" = Str.ofString "&") = False := eq_false (by decide +kernel)
theorem ns_lt_or : (Str.ofString "<" = Str.ofString "|") = False := eq_false (by decide +kernel)
theorem ns_lt_xo : (Str.ofString "<" = Str.ofString "^") = False := eq_false (by decide +kernel)
theorem ns_eq_pl : (Str.ofString "=" = Str.ofString "+") = False := eq_false (by decide +kernel)
theorem ns_eq_mi : (Str.ofString "=" = Str.ofString "-") = False := eq_false (by decide +kernel)
theorem ns_eq_ti : (Str.ofString "=" = Str.ofString "*") = False := eq_false (by decide +kernel)
theorem ns_eq_lt : (Str.ofString "=" = Str.ofString "<") = False := eq_false (by decide +kernel)
theorem ns_eq_an : (Str.ofString "=" = Str.ofString "&") = False := eq_false (by decide +kernel)
theorem ns_eq_or : (Str.ofString "=" = Str.ofString "|") = False := eq_false (by decide +kernel)
theorem ns_eq_xo : (Str.ofString "=" = Str.ofString "^") = False := eq_false (by decide +kernel)
theorem ns_an_pl : (Str.ofString "&" = Str.ofString "+") = False := eq_false (by decide +kernel)
theorem ns_an_mi : (Str.ofString "&" = Str.ofString "-") = False := eq_false (by decide +kernel)
theorem ns_an_ti : (Str.ofString "&" = Str.ofString "*") = False := eq_false (by decide +kernel)
theorem ns_an_lt : (Str.ofString "&" = Str.ofString "<") = False := eq_false (by decide +kernel)
theorem ns_an_eq : (Str.ofString "&" = Str.ofString "=") = False := eq_false (by decide +kernel)
theorem ns_an_or : (Str.ofString "&" = Str.ofString "|") = False := eq_false (by decide +kernel)
theorem ns_an_xo : (Str.ofString "&" = Str.ofString "^") = False := eq_false (by decide +kernel)
theorem ns_or_pl : (Str.ofString "|" = Str.ofString "+") = False := eq_false (by decide +kernel)
theorem ns_or_mi : (Str.ofString "|" = Str.ofString "-") = False := eq_false (by decide +kernel)
theorem ns_or_ti : (Str.ofString "|" = Str.ofString "*") = False := eq_false (by decide +kernel)
theorem ns_or_lt : (Str.ofString "|" = Str.ofString "<") = False := eq_false (by decide +kernel)
theorem ns_or_eq : (Str.ofString "|" = Str.ofString "=") = False := eq_false (by decide +kernel)
theorem ns_or_an : (Str.ofString "|" = Str.ofString "&") = False := eq_false (by decide +kernel)
theorem ns_or_xo : (Str.ofString "|" = Str.ofString "^") = False := eq_false (by decide +kernel)
theorem ns_xo_pl : (Str.ofString "^" = Str.ofString "+") = False := eq_false (by decide +kernel)
theorem ns_xo_mi : (Str.ofString "^" = Str.ofString "-") = False := eq_false (by decide +kernel)
theorem ns_xo_ti : (Str.ofString "^" = Str.ofString "*") = False := eq_false (by decide +kernel)
theorem ns_xo_lt : (Str.ofString "^" = Str.ofString "<") = False := eq_false (by decide +kernel)
theorem ns_xo_eq : (Str.ofString "^" = Str.ofString "=") = False := eq_false (by decide +kernel)
theorem ns_xo_an : (Str.ofString "^" = Str.ofString "&") = False := eq_false (by decide +kernel)
theorem ns_xo_or : (Str.ofString "^" = Str.ofString "|") = False := eq_false (by decide +kernel)
local macro_rules | `(tactic| walk_at "k") => `(tactic| simp -implicitDefEqProofs only [L2.runD_d, L2.finO_rt, L2.finO_nx, L2.sSeq_d, L2.thenO_nx, L2.thenO_rt, L2.thenO_bk, L2.thenO_ct, L2.sNil, L2.sSet, L2.sRet, L2.sRetV, L2.sIf_d, L2.condO_t, L2.condO_f, L2.kB_d, L2.kT_d, L2.sFor_d, L2.sFrz, L2.sDrop, L2.sAsg, L2.s_clear, L2.sAug, L2.sPut, L2.toT, L2.toD, L2.T.d, L2.kD, L2.vL, L2.vB, L2.d2, L2.tB2, L2.fTru, L2.fNot, L2.fAnd_d, L2.fOr_d, L2.vNot, L2.vAnd_d, L2.vOr_d, L2.vIf_d, L2.aNil, L2.aCons, L2.vTup_d, L2.vLst_d, L2.mkL_of, L2.mkTp_of, L2.appL_of, L2.vCall, L2.vCallB, L2.scalT_b, L2.scalT_i, L2.scalT_s, L2.scalT_n, L2.vMeth, L2.vComp_d, L2.vSl, L2.oNone, L2.oSome, L2.vInst, L2.instD, L2.vChain, L2.asBf, L2.vNeg, L2.fIt, L2.fRng, L2.bName, L2.dC, L2.tYesD, L2.gAdd_i, L2.atI_0, L2.atI_1, L2.atI_2, L2.atI_3, L2.atI_4, L2.atI_5, L2.atI_6, L2.atI_7, L2.atI_8, L2.atI_9, L2.atI_10, L2.atI_11, L2.atI_12, L2.atI_m1, L2.gAdd_ls, L2.gIn_l, L2.gIn_t, L2.flatD_n, L2.flatD_b, L2.flatD_i, L2.flatD_s, L2.eqF_s, L2.eqF_i, L2.eqF_is, L2.eqF_si, L2.eqF_sn, L2.eqF_in, L2.eqF_nn, List.all_cons, List.all_nil, List.any_cons, List.any_nil, L2.gSub_i, L2.gMul_l, L2.gMul_r, L2.gDiv_i, L2.gMod_i, L2.gPow_40, L2.gMod_w, L2.gBit_i, L2.gCmp_i, L2.gEq_ii, L2.gEq_ss, L2.gEq_bb, L2.gEq_is, L2.gEq_si, L2.gEq_ns, L2.gEq_sn, L2.gEq_ni, L2.gEq_in, L2.gEq_nn, L2.gNe_ii, L2.gNe_ss, L2.gNe_bb, L2.gIs_n, L2.isNon, L2.gIx_l, L2.gIx_t, L2.gIx_d, L2.gIn_d, L2.gLen_l, L2.gLen_t, L2.gInt_i, L2.gInt_b, L2.gStr_s, L2.gTuple_l, L2.gTuple_t, L2.gList_l, L2.gList_t, L2.itD_l, L2.itD_t, L2.itD_s, L2.truD_b, L2.truD_i, L2.truD_l, L2.truD_t, L2.truD_n, L2.asB_b, L2.asBl_b, L2.asI_i, L2.forD_nil, List.map_cons, List.map_nil, List.length_cons, List.length_nil, List.cons_append, List.nil_append, List.replicate, List.getElem?_cons_zero, List.getElem?_cons_succ, List.set_cons_zero, List.set_cons_succ, Option.bind_some, Option.bind_none, Option.map_some, Option.map_none, Option.join_some, Option.join_none, Nat.reduceAdd, Nat.reduceSub, Nat.reduceLeDiff, Int.reduceLT, Int.reduceEq, eq_self, Int.reduceNeg, Int.reduceLE, if_true, if_false, ite_true, ite_false, Bool.false_eq_true, decide_true, decide_false, Bool.not_true, Bool.not_false, Bool.and_true, Bool.true_and, Bool.or_true, Bool.true_or, Bool.or_false, Bool.false_or, Bool.and_false, Bool.false_and, String.reduceBEq, reduceCtorEq, P21.ns_pl_mi, P21.ns_pl_ti, P21.ns_pl_lt, P21.ns_pl_eq, P21.ns_pl_an, P21.ns_pl_or, P21.ns_pl_xo, P21.ns_mi_pl, P21.ns_mi_ti, P21.ns_mi_lt, P21.ns_mi_eq, P21.ns_mi_an, P21.ns_mi_or, P21.ns_mi_xo, P21.ns_ti_pl, P21.ns_ti_mi, P21.ns_ti_lt, P21.ns_ti_eq, P21.ns_ti_an, P21.ns_ti_or, P21.ns_ti_xo, P21.ns_lt_pl, P21.ns_lt_mi, P21.ns_lt_ti, P21.ns_lt_eq, P21.ns_lt_an, P21.ns_lt_or, P21.ns_lt_xo, P21.ns_eq_pl, P21.ns_eq_mi, P21.ns_eq_ti, P21.ns_eq_lt, P21.ns_eq_an, P21.ns_eq_or, P21.ns_eq_xo, P21.ns_an_pl, P21.ns_an_mi, P21.ns_an_ti, P21.ns_an_lt, P21.ns_an_eq, P21.ns_an_or, P21.ns_an_xo, P21.ns_or_pl, P21.ns_or_mi, P21.ns_or_ti, P21.ns_or_lt, P21.ns_or_eq, P21.ns_or_an, P21.ns_or_xo, P21.ns_xo_pl, P21.ns_xo_mi, P21.ns_xo_ti, P21.ns_xo_lt, P21.ns_xo_eq, P21.ns_xo_an, P21.ns_xo_or])
theorem fits_pl (a b f : Int) : F__law_fits [.str "+", .int a, .int b, .int f] = some (.leaf (.bl (decide ((f - a - b) % wide = 0)))) := by
  unfold F__law_fits
  walk_at "k"
theorem fits_mi (a b f : Int) : F__law_fits [.str "-", .int a, .int b, .int f] = some (.leaf (.bl (decide ((f - a + b) % wide = 0)))) := by
  unfold F__law_fits
  walk_at "k"
theorem InR.l {a : Int} (h : InR a) : -1000000000000000000 < a := by have := h.1; omega
theorem InR.r {a : Int} (h : InR a) : a < 1000000000000000000 := by have := h.2; rw [wide_eq] at this; omega
theorem fits_ti (a b f : Int) (ha : InR a) : F__law_fits [.str "*", .int a, .int b, .int f] = some (.leaf (.bl (decide ((f - a * b) % wide = 0)))) := by
  unfold F__law_fits
  walk_at "k"
  rw [gMul_l ha.l ha.r]
  walk_at "k"
theorem fits_lt (a b f : Int) : F__law_fits [.str "<", .int a, .int b, .int f] = some (.leaf (.bl (decide (f = if a < b then 1 else 0)))) := by
  unfold F__law_fits
  walk_at "k"
  simp only [decide_eq_true_eq]
theorem fits_eq (a b f : Int) : F__law_fits [.str "=", .int a, .int b, .int f] = some (.leaf (.bl (decide (f = if a = b then 1 else 0)))) := by
  unfold F__law_fits
  walk_at "k"
  simp only [decide_eq_true_eq]
structure BitOp (s : Str) (op : Nat → Nat → Nat) : Prop where
  bit : ∀ A B : Nat, F__law_bit [.str s, .int ((A : Int) % 2), .int ((B : Int) % 2)] = some (.leaf (.int ((op A B : Nat) % 2 : Int)))
  half : ∀ A B : Nat, op A B / 2 = op (A / 2) (B / 2)
  zero : op 0 0 = 0
theorem bit_and : BitOp "&" (· &&& ·) where
  bit A B := by
    have e : ((A &&& B : Nat) : Int) % 2 = ((A : Int) % 2) * ((B : Int) % 2) := by
      have e1 := Nat.and_mod_two_pow (a := A) (b := B) (n := 1)
      rw [Nat.pow_one] at e1
      rw [show ∀ C : Nat, (C : Int) % 2 = (C % 2 : Nat) from fun C => by omega, show ∀ C : Nat, (C : Int) % 2 = (C % 2 : Nat) from fun C => by omega, show ∀ C : Nat, (C : Int) % 2 = (C % 2 : Nat) from fun C => by omega, e1]
      rcases Nat.mod_two_eq_zero_or_one A with p | p <;> rcases Nat.mod_two_eq_zero_or_one B with q | q <;> rw [p, q] <;> rfl
    unfold F__law_bit
    rw [e]
    walk_at "k"
    rw [gMul_l (by omega) (by omega)]
    walk_at "k"
  half A B := Nat.and_div_two
  zero := rfl
theorem bit_or : BitOp "|" (· ||| ·) where
  bit A B := by
    have e : ((A ||| B : Nat) : Int) % 2 = ((A : Int) % 2) + ((B : Int) % 2) - ((A : Int) % 2) * ((B : Int) % 2) := by
      have e1 := Nat.or_mod_two_pow (a := A) (b := B) (n := 1)
      rw [Nat.pow_one] at e1
      rw [show ∀ C : Nat, (C : Int) % 2 = (C % 2 : Nat) from fun C => by omega, show ∀ C : Nat, (C : Int) % 2 = (C % 2 : Nat) from fun C => by omega, show ∀ C : Nat, (C : Int) % 2 = (C % 2 : Nat) from fun C => by omega, e1]
      rcases Nat.mod_two_eq_zero_or_one A with p | p <;> rcases Nat.mod_two_eq_zero_or_one B with q | q <;> rw [p, q] <;> rfl
    unfold F__law_bit
    rw [e]
    walk_at "k"
    rw [gMul_l (by omega) (by omega)]
    walk_at "k"
  half A B := Nat.or_div_two
  zero := rfl
theorem bit_xor : BitOp "^" (· ^^^ ·) where
  bit A B := by
    have e : ((A ^^^ B : Nat) : Int) % 2 = (((A : Int) % 2) + ((B : Int) % 2)) % 2 := by
      have e1 := Nat.xor_mod_two_pow (a := A) (b := B) (n := 1)
      rw [Nat.pow_one] at e1
      rw [show ∀ C : Nat, (C : Int) % 2 = (C % 2 : Nat) from fun C => by omega, show ∀ C : Nat, (C : Int) % 2 = (C % 2 : Nat) from fun C => by omega, show ∀ C : Nat, (C : Int) % 2 = (C % 2 : Nat) from fun C => by omega, e1]
      rcases Nat.mod_two_eq_zero_or_one A with p | p <;> rcases Nat.mod_two_eq_zero_or_one B with q | q <;> rw [p, q] <;> rfl
    unfold F__law_bit
    rw [e]
    walk_at "k"
  half A B := Nat.xor_div_two
  zero := rfl
theorem fits_loop {s : Str} {op : Nat → Nat → Nat} (h : BitOp s op) : ∀ (ds : List Dt) (A B : Nat) (x : Option T), ∃ x', forD (bName 4) B__law_fits_0 ds [some (.leaf (.str s)), some (.leaf (.int A)), some (.leaf (.int B)), some (.leaf (.int (op A B : Nat))), x] = some (.nx [some (.leaf (.str s)), some (.leaf (.int (A / 2 ^ ds.length : Nat))), some (.leaf (.int (B / 2 ^ ds.length : Nat))), some (.leaf (.int (op (A / 2 ^ ds.length) (B / 2 ^ ds.length) : Nat))), x'])
  | [], A, B, x => ⟨x, by simp [forD_nil]⟩
  | d :: ds, A, B, x => by
    obtain ⟨x', e⟩ := fits_loop h ds (A / 2) (B / 2) (some (.leaf d))
    refine ⟨x', ?_⟩
    rw [forD_cons (δ1 := [some (.leaf (.str s)), some (.leaf (.int A)), some (.leaf (.int B)), some (.leaf (.int (op A B : Nat))), some (.leaf d)]) (δ2 := [some (.leaf (.str s)), some (.leaf (.int (A / 2 : Nat))), some (.leaf (.int (B / 2 : Nat))), some (.leaf (.int (op (A / 2) (B / 2) : Nat))), some (.leaf d)]) rfl ?_, e]
    · rw [List.length_cons, Nat.pow_succ, Nat.mul_comm, ← Nat.div_div_eq_div_mul, ← Nat.div_div_eq_div_mul]
    · unfold B__law_fits_0
      walk_at "k"
      rw [h.bit]
      walk_at "k"
      rw [← h.half]
      rfl
theorem fits_bit {s : Str} {op : Nat → Nat → Nat} (h : BitOp s op) (n1 : s ≠ "+") (n2 : s ≠ "-") (n3 : s ≠ "*") (n4 : s ≠ "<") (n5 : s ≠ "=") (A B : Nat) (hA : A < 1099511627776) (hB : B < 1099511627776) : F__law_fits [.str s, .int A, .int B, .int (op A B : Nat)] = some (.leaf (.bl true)) := by
  have n1 := eq_false n1
  have n2 := eq_false n2
  have n3 := eq_false n3
  have n4 := eq_false n4
  have n5 := eq_false n5
  unfold F__law_fits
  walk_at "dh"
  rw [rng1_i (rngOk_of (by omega) (by omega)), Option.bind_some]
  obtain ⟨x', e⟩ := fits_loop h (rangeD 0 (40 : Int).toNat) A B none
  rw [range_len, show (40 : Int).toNat = 40 from rfl, Nat.div_eq_of_lt (a := A) (Nat.lt_of_lt_of_le hA (by decide)), Nat.div_eq_of_lt (a := B) (Nat.lt_of_lt_of_le hB (by decide)), h.zero] at e
  rw [show (40 : Int).toNat = 40 from rfl, e]
  walk_at "k"
  rfl
end P21

local macro_rules | `(tactic| walk_at "k") => `(tactic| simp -implicitDefEqProofs only [L2.runD_d, L2.finO_rt, L2.finO_nx, L2.sSeq_d, L2.thenO_nx, L2.thenO_rt, L2.thenO_bk, L2.thenO_ct, L2.sNil, L2.sSet, L2.sRet, L2.sRetV, L2.sIf_d, L2.condO_t, L2.condO_f, L2.kB_d, L2.kT_d, L2.sFor_d, L2.sFrz, L2.sDrop, L2.sAsg, L2.s_clear, L2.sAug, L2.sPut, L2.toT, L2.toD, L2.T.d, L2.kD, L2.vL, L2.vB, L2.d2, L2.tB2, L2.fTru, L2.fNot, L2.fAnd_d, L2.fOr_d, L2.vNot, L2.vAnd_d, L2.vOr_d, L2.vIf_d, L2.aNil, L2.aCons, L2.vTup_d, L2.vLst_d, L2.mkL_of, L2.mkTp_of, L2.appL_of, L2.vCall, L2.vCallB, L2.scalT_b, L2.scalT_i, L2.scalT_s, L2.scalT_n, L2.vMeth, L2.vComp_d, L2.vSl, L2.oNone, L2.oSome, L2.vInst, L2.instD, L2.vChain, L2.asBf, L2.vNeg, L2.fIt, L2.fRng, L2.bName, L2.dC, L2.tYesD, L2.gAdd_i, L2.atI_0, L2.atI_1, L2.atI_2, L2.atI_3, L2.atI_4, L2.atI_5, L2.atI_6, L2.atI_7, L2.atI_8, L2.atI_9, L2.atI_10, L2.atI_11, L2.atI_12, L2.atI_m1, L2.gAdd_ls, L2.gIn_l, L2.gIn_t, L2.flatD_n, L2.flatD_b, L2.flatD_i, L2.flatD_s, L2.eqF_s, L2.eqF_i, L2.eqF_is, L2.eqF_si, L2.eqF_sn, L2.eqF_in, L2.eqF_nn, List.all_cons, List.all_nil, List.any_cons, List.any_nil, L2.gSub_i, L2.gMul_l, L2.gMul_r, L2.gDiv_i, L2.gMod_i, L2.gPow_40, L2.gMod_w, L2.gBit_i, L2.gCmp_i, L2.gEq_ii, L2.gEq_ss, L2.gEq_bb, L2.gEq_is, L2.gEq_si, L2.gEq_ns, L2.gEq_sn, L2.gEq_ni, L2.gEq_in, L2.gEq_nn, L2.gNe_ii, L2.gNe_ss, L2.gNe_bb, L2.gIs_n, L2.isNon, L2.gIx_l, L2.gIx_t, L2.gIx_d, L2.gIn_d, L2.gLen_l, L2.gLen_t, L2.gInt_i, L2.gInt_b, L2.gStr_s, L2.gTuple_l, L2.gTuple_t, L2.gList_l, L2.gList_t, L2.itD_l, L2.itD_t, L2.itD_s, L2.truD_b, L2.truD_i, L2.truD_l, L2.truD_t, L2.truD_n, L2.asB_b, L2.asBl_b, L2.asI_i, L2.forD_nil, List.map_cons, List.map_nil, List.length_cons, List.length_nil, List.cons_append, List.nil_append, List.replicate, List.getElem?_cons_zero, List.getElem?_cons_succ, List.set_cons_zero, List.set_cons_succ, Option.bind_some, Option.bind_none, Option.map_some, Option.map_none, Option.join_some, Option.join_none, Nat.reduceAdd, Nat.reduceSub, Nat.reduceLeDiff, Int.reduceLT, Int.reduceEq, eq_self, Int.reduceNeg, Int.reduceLE, if_true, if_false, ite_true, ite_false, Bool.false_eq_true, decide_true, decide_false, Bool.not_true, Bool.not_false, Bool.and_true, Bool.true_and, Bool.or_true, Bool.true_or, Bool.or_false, Bool.false_or, Bool.and_false, Bool.false_and, String.reduceBEq, reduceCtorEq, P21.ns_pl_mi, P21.ns_pl_ti, P21.ns_pl_lt, P21.ns_pl_eq, P21.ns_pl_an, P21.ns_pl_or, P21.ns_pl_xo, P21.ns_mi_pl, P21.ns_mi_ti, P21.ns_mi_lt, P21.ns_mi_eq, P21.ns_mi_an, P21.ns_mi_or, P21.ns_mi_xo, P21.ns_ti_pl, P21.ns_ti_mi, P21.ns_ti_lt, P21.ns_ti_eq, P21.ns_ti_an, P21.ns_ti_or, P21.ns_ti_xo, P21.ns_lt_pl, P21.ns_lt_mi, P21.ns_lt_ti, P21.ns_lt_eq, P21.ns_lt_an, P21.ns_lt_or, P21.ns_lt_xo, P21.ns_eq_pl, P21.ns_eq_mi, P21.ns_eq_ti, P21.ns_eq_lt, P21.ns_eq_an, P21.ns_eq_or, P21.ns_eq_xo, P21.ns_an_pl, P21.ns_an_mi, P21.ns_an_ti, P21.ns_an_lt, P21.ns_an_eq, P21.ns_an_or, P21.ns_an_xo, P21.ns_or_pl, P21.ns_or_mi, P21.ns_or_ti, P21.ns_or_lt, P21.ns_or_eq, P21.ns_or_an, P21.ns_or_xo, P21.ns_xo_pl, P21.ns_xo_mi, P21.ns_xo_ti, P21.ns_xo_lt, P21.ns_xo_eq, P21.ns_xo_an, P21.ns_xo_or])
namespace P21
open PySem L2
theorem whole_i (v : Int) : F__law_whole [.int v] = some (.leaf (.bl true)) := by
  unfold F__law_whole
  walk_at "d"
theorem turn {s : Str} {a b v : Int} (hv : F_value [.str s, .int a, .int b] = some (.leaf (.int v))) (hr : InR v) (hf : F__law_fits [.str s, .int a, .int b, .int v] = some (.leaf (.bl true))) (s0 s1 x s6 s7 s8 s9 : Option T) :
    B_law_0 [s0, s1, some (.leaf (.int a)), some (.leaf (.int b)), some (.leaf (.str s)), x, s6, s7, s8, s9] = some (.nx [s0, s1, some (.leaf (.int a)), some (.leaf (.int b)), some (.leaf (.str s)), some (.leaf (.int v)), s6, s7, s8, s9]) := by
  unfold B_law_0
  walk_at "d"
  rw [hv]
  walk_at "d"
  rw [whole_i]
  walk_at "d"
  rw [if_pos (by simpa using hr.1), show decide (v < wide) = true by simpa using hr.2]
  walk_at "d"
  rw [hf]
  walk_at "d"
theorem WIDE_eq : c_WIDE = .int wide := by rw [wide_eq]; rfl
theorem value_of {s : Str} {a b n : Int} (h : F_number_of [.str s, .int a, .int b] = some (.leaf (.int n))) : F_value [.str s, .int a, .int b] = some (.leaf (.int (n % wide))) := by
  unfold F_value
  rw [WIDE_eq]
  walk_at "k"
  rw [h]
  walk_at "k"
theorem value_pl (a b : Int) : F_value [.str "+", .int a, .int b] = some (.leaf (.int ((a + b) % wide))) := value_of (by
  unfold F_number_of
  walk_at "k")
theorem value_mi (a b : Int) : F_value [.str "-", .int a, .int b] = some (.leaf (.int ((a - b) % wide))) := value_of (by
  unfold F_number_of
  walk_at "k")
theorem value_ti (a b : Int) (ha : InR a) : F_value [.str "*", .int a, .int b] = some (.leaf (.int ((a * b) % wide))) := value_of (by
  unfold F_number_of
  walk_at "k"
  rw [gMul_l ha.l ha.r]
  walk_at "k")
theorem inR_mod {n : Int} (h : InR n) : n % wide = n := Int.emod_eq_of_lt h.1 h.2
theorem iteR {p : Prop} [Decidable p] : InR (if p then 1 else 0) := by split <;> exact ⟨by decide, by rw [wide_eq]; decide⟩
theorem natR {n : Nat} (h : n < 2 ^ 40) : InR n := ⟨by omega, by rw [wide_eq]; have : (2 ^ 40 : Nat) = 1099511627776 := rfl; omega⟩
theorem value_lt (a b : Int) : F_value [.str "<", .int a, .int b] = some (.leaf (.int (if a < b then 1 else 0))) := by
  refine (value_of (n := if a < b then 1 else 0) ?_).trans (by rw [inR_mod iteR])
  unfold F_number_of
  walk_at "k"
  by_cases h : a < b
  · rw [condO_p (by simpa using h), if_pos h]
    walk_at "k"
  · rw [condO_n (by simpa using h), if_neg h]
    walk_at "k"
theorem value_eq (a b : Int) : F_value [.str "=", .int a, .int b] = some (.leaf (.int (if a = b then 1 else 0))) := by
  refine (value_of (n := if a = b then 1 else 0) ?_).trans (by rw [inR_mod iteR])
  unfold F_number_of
  walk_at "k"
  by_cases h : a = b
  · rw [condO_p (by simpa using h), if_pos h]
    walk_at "k"
  · rw [condO_n (by simpa using h), if_neg h]
    walk_at "k"
theorem value_an (A B : Nat) (hB : B < 2 ^ 40) : F_value [.str "&", .int A, .int B] = some (.leaf (.int (A &&& B : Nat))) := by
  refine (value_of (n := (A &&& B : Nat)) ?_).trans (by rw [inR_mod (natR (Nat.and_lt_two_pow _ hB))])
  unfold F_number_of
  walk_at "k"
  rw [PyProof.Rows.bitAnd_pp (by omega) (by omega)]
  rfl
theorem xor_add (m : Nat) : ∀ n : Nat, (m ^^^ n) + (m &&& n) = (m ||| n) := by
  induction m using Nat.strongRecOn with
  | ind m ih =>
    intro n
    by_cases h0 : m = 0
    · subst h0; simp
    · have q := ih (m / 2) (by omega) (n / 2)
      rw [← Nat.or_div_two, ← Nat.and_div_two, ← Nat.xor_div_two] at q
      have o1 := @Nat.or_mod_two_eq_one m n
      have a1 := @Nat.and_mod_two_eq_one m n
      have x1 := @Nat.xor_mod_two_eq_one m n
      omega
theorem or_nat (A B : Nat) : Builtin.bitOr A B = (A ||| B : Nat) := by
  have e := PyProof.Rows.nat_or_add_and A B
  rw [PyProof.Rows.bitOr_and, PyProof.Rows.bitAnd_pp (by omega) (by omega), Int.toNat_natCast, Int.toNat_natCast]
  omega
theorem xor_nat (A B : Nat) : Builtin.bitXor A B = (A ^^^ B : Nat) := by
  have e := xor_add A B
  unfold Builtin.bitXor
  rw [or_nat, PyProof.Rows.bitAnd_pp (by omega) (by omega), Int.toNat_natCast, Int.toNat_natCast]
  omega
theorem value_or (A B : Nat) (hA : A < 2 ^ 40) (hB : B < 2 ^ 40) : F_value [.str "|", .int A, .int B] = some (.leaf (.int (A ||| B : Nat))) := by
  refine (value_of (n := (A ||| B : Nat)) ?_).trans (by rw [inR_mod (natR (Nat.or_lt_two_pow hA hB))])
  unfold F_number_of
  walk_at "k"
  rw [or_nat]
theorem value_xo (A B : Nat) (hA : A < 2 ^ 40) (hB : B < 2 ^ 40) : F_value [.str "^", .int A, .int B] = some (.leaf (.int (A ^^^ B : Nat))) := by
  refine (value_of (n := (A ^^^ B : Nat)) ?_).trans (by rw [inR_mod (natR (Nat.xor_lt_two_pow hA hB))])
  unfold F_number_of
  walk_at "k"
  rw [xor_nat]
theorem mod_fit (a b : Int) : (a % wide - b) % wide = (a - b) % wide := Int.emod_sub_emod ..
theorem modR (a : Int) : InR (a % wide) := ⟨Int.emod_nonneg _ (by rw [wide_eq]; decide), Int.emod_lt_of_pos _ wide_pos⟩
theorem signs_eq : signD (Str.ofString "+-*<=&|^") = [.str (Str.ofString "+"), .str (Str.ofString "-"), .str (Str.ofString "*"), .str (Str.ofString "<"), .str (Str.ofString "="), .str (Str.ofString "&"), .str (Str.ofString "|"), .str (Str.ofString "^")] := by rfl
theorem loop_signs (A B : Nat) (hA : A < 2 ^ 40) (hB : B < 2 ^ 40) (s0 s1 s6 s7 s8 s9 : Option T) : ∃ y z, forD (bName 4) B_law_0 (signD (Str.ofString "+-*<=&|^")) [s0, s1, some (.leaf (.int A)), some (.leaf (.int B)), none, none, s6, s7, s8, s9] = some (.nx [s0, s1, some (.leaf (.int A)), some (.leaf (.int B)), y, z, s6, s7, s8, s9]) := by
  have hA' : A < 1099511627776 := hA
  have hB' : B < 1099511627776 := hB
  rw [signs_eq,
    forD_cons rfl (turn (value_pl A B) (modR _) (by rw [fits_pl, show ((A : Int) + B) % wide - A - B = ((A : Int) + B) % wide - (A + B) by omega, mod_fit, Int.sub_self]; rfl) ..),
    forD_cons rfl (turn (value_mi A B) (modR _) (by rw [fits_mi, show ((A : Int) - B) % wide - A + B = ((A : Int) - B) % wide - (A - B) by omega, mod_fit, Int.sub_self]; rfl) ..),
    forD_cons rfl (turn (value_ti A B (natR hA)) (modR _) (by rw [fits_ti _ _ _ (natR hA), mod_fit, Int.sub_self]; rfl) ..),
    forD_cons rfl (turn (value_lt A B) iteR (by rw [fits_lt]; simp) ..),
    forD_cons rfl (turn (value_eq A B) iteR (by rw [fits_eq]; simp) ..),
    forD_cons rfl (turn (value_an A B hB) (natR (Nat.and_lt_two_pow _ hB)) (fits_bit bit_and (by decide +kernel) (by decide +kernel) (by decide +kernel) (by decide +kernel) (by decide +kernel) A B hA' hB') ..),
    forD_cons rfl (turn (value_or A B hA hB) (natR (Nat.or_lt_two_pow hA hB)) (fits_bit bit_or (by decide +kernel) (by decide +kernel) (by decide +kernel) (by decide +kernel) (by decide +kernel) A B hA' hB') ..),
    forD_cons rfl (turn (value_xo A B hA hB) (natR (Nat.xor_lt_two_pow hA hB)) (fits_bit bit_xor (by decide +kernel) (by decide +kernel) (by decide +kernel) (by decide +kernel) (by decide +kernel) A B hA' hB') ..),
    forD_nil]
  exact ⟨_, _, rfl⟩
end P21

local macro_rules | `(tactic| walk_at "k") => `(tactic| simp -implicitDefEqProofs only [L2.runD_d, L2.finO_rt, L2.finO_nx, L2.sSeq_d, L2.thenO_nx, L2.thenO_rt, L2.thenO_bk, L2.thenO_ct, L2.sNil, L2.sSet, L2.sRet, L2.sRetV, L2.sIf_d, L2.condO_t, L2.condO_f, L2.kB_d, L2.kT_d, L2.sFor_d, L2.sFrz, L2.sDrop, L2.sAsg, L2.s_clear, L2.sAug, L2.sPut, L2.toT, L2.toD, L2.T.d, L2.kD, L2.vL, L2.vB, L2.d2, L2.tB2, L2.fTru, L2.fNot, L2.fAnd_d, L2.fOr_d, L2.vNot, L2.vAnd_d, L2.vOr_d, L2.vIf_d, L2.aNil, L2.aCons, L2.vTup_d, L2.vLst_d, L2.mkL_of, L2.mkTp_of, L2.appL_of, L2.vCall, L2.vCallB, L2.scalT_b, L2.scalT_i, L2.scalT_s, L2.scalT_n, L2.vMeth, L2.vComp_d, L2.vSl, L2.oNone, L2.oSome, L2.vInst, L2.instD, L2.vChain, L2.asBf, L2.vNeg, L2.fIt, L2.fRng, L2.bName, L2.dC, L2.tYesD, L2.gAdd_i, L2.atI_0, L2.atI_1, L2.atI_2, L2.atI_3, L2.atI_4, L2.atI_5, L2.atI_6, L2.atI_7, L2.atI_8, L2.atI_9, L2.atI_10, L2.atI_11, L2.atI_12, L2.atI_m1, L2.gAdd_ls, L2.gIn_l, L2.gIn_t, L2.flatD_n, L2.flatD_b, L2.flatD_i, L2.flatD_s, L2.eqF_s, L2.eqF_i, L2.eqF_is, L2.eqF_si, L2.eqF_sn, L2.eqF_in, L2.eqF_nn, List.all_cons, List.all_nil, List.any_cons, List.any_nil, L2.gSub_i, L2.gMul_l, L2.gMul_r, L2.gDiv_i, L2.gMod_i, L2.gPow_40, L2.gMod_w, L2.gBit_i, L2.gCmp_i, L2.gEq_ii, L2.gEq_ss, L2.gEq_bb, L2.gEq_is, L2.gEq_si, L2.gEq_ns, L2.gEq_sn, L2.gEq_ni, L2.gEq_in, L2.gEq_nn, L2.gNe_ii, L2.gNe_ss, L2.gNe_bb, L2.gIs_n, L2.isNon, L2.gIx_l, L2.gIx_t, L2.gIx_d, L2.gIn_d, L2.gLen_l, L2.gLen_t, L2.gInt_i, L2.gInt_b, L2.gStr_s, L2.gTuple_l, L2.gTuple_t, L2.gList_l, L2.gList_t, L2.itD_l, L2.itD_t, L2.itD_s, L2.truD_b, L2.truD_i, L2.truD_l, L2.truD_t, L2.truD_n, L2.asB_b, L2.asBl_b, L2.asI_i, L2.forD_nil, List.map_cons, List.map_nil, List.length_cons, List.length_nil, List.cons_append, List.nil_append, List.replicate, List.getElem?_cons_zero, List.getElem?_cons_succ, List.set_cons_zero, List.set_cons_succ, Option.bind_some, Option.bind_none, Option.map_some, Option.map_none, Option.join_some, Option.join_none, Nat.reduceAdd, Nat.reduceSub, Nat.reduceLeDiff, Int.reduceLT, Int.reduceEq, eq_self, Int.reduceNeg, Int.reduceLE, if_true, if_false, ite_true, ite_false, Bool.false_eq_true, decide_true, decide_false, Bool.not_true, Bool.not_false, Bool.and_true, Bool.true_and, Bool.or_true, Bool.true_or, Bool.or_false, Bool.false_or, Bool.and_false, Bool.false_and, String.reduceBEq, reduceCtorEq, L2.ne_copy_op, L2.ne_copy_load, L2.ne_copy_store, L2.ne_copy_take, L2.ne_copy_lay, L2.ne_copy_hear, L2.ne_copy_say, L2.ne_copy_if, L2.ne_copy_go, L2.ne_copy_end, L2.ne_op_copy, L2.ne_op_load, L2.ne_op_store, L2.ne_op_take, L2.ne_op_lay, L2.ne_op_hear, L2.ne_op_say, L2.ne_op_if, L2.ne_op_go, L2.ne_op_end, L2.ne_load_copy, L2.ne_load_op, L2.ne_load_store, L2.ne_load_take, L2.ne_load_lay, L2.ne_load_hear, L2.ne_load_say, L2.ne_load_if, L2.ne_load_go, L2.ne_load_end, L2.ne_store_copy, L2.ne_store_op, L2.ne_store_load, L2.ne_store_take, L2.ne_store_lay, L2.ne_store_hear, L2.ne_store_say, L2.ne_store_if, L2.ne_store_go, L2.ne_store_end, L2.ne_take_copy, L2.ne_take_op, L2.ne_take_load, L2.ne_take_store, L2.ne_take_lay, L2.ne_take_hear, L2.ne_take_say, L2.ne_take_if, L2.ne_take_go, L2.ne_take_end, L2.ne_lay_copy, L2.ne_lay_op, L2.ne_lay_load, L2.ne_lay_store, L2.ne_lay_take, L2.ne_lay_hear, L2.ne_lay_say, L2.ne_lay_if, L2.ne_lay_go, L2.ne_lay_end, L2.ne_hear_copy, L2.ne_hear_op, L2.ne_hear_load, L2.ne_hear_store, L2.ne_hear_take, L2.ne_hear_lay, L2.ne_hear_say, L2.ne_hear_if, L2.ne_hear_go, L2.ne_hear_end, L2.ne_say_copy, L2.ne_say_op, L2.ne_say_load, L2.ne_say_store, L2.ne_say_take, L2.ne_say_lay, L2.ne_say_hear, L2.ne_say_if, L2.ne_say_go, L2.ne_say_end, L2.ne_if_copy, L2.ne_if_op, L2.ne_if_load, L2.ne_if_store, L2.ne_if_take, L2.ne_if_lay, L2.ne_if_hear, L2.ne_if_say, L2.ne_if_go, L2.ne_if_end, L2.ne_go_copy, L2.ne_go_op, L2.ne_go_load, L2.ne_go_store, L2.ne_go_take, L2.ne_go_lay, L2.ne_go_hear, L2.ne_go_say, L2.ne_go_if, L2.ne_go_end, L2.ne_end_copy, L2.ne_end_op, L2.ne_end_load, L2.ne_end_store, L2.ne_end_take, L2.ne_end_lay, L2.ne_end_hear, L2.ne_end_say, L2.ne_end_if, L2.ne_end_go, L2.ns_pl_mi, L2.ns_pl_ti, L2.ns_pl_lt, L2.ns_pl_eq, L2.ns_pl_an, L2.ns_pl_or, L2.ns_pl_xo, L2.ns_mi_pl, L2.ns_mi_ti, L2.ns_mi_lt, L2.ns_mi_eq, L2.ns_mi_an, L2.ns_mi_or, L2.ns_mi_xo, L2.ns_ti_pl, L2.ns_ti_mi, L2.ns_ti_lt, L2.ns_ti_eq, L2.ns_ti_an, L2.ns_ti_or, L2.ns_ti_xo, L2.ns_lt_pl, L2.ns_lt_mi, L2.ns_lt_ti, L2.ns_lt_eq, L2.ns_lt_an, L2.ns_lt_or, L2.ns_lt_xo, L2.ns_eq_pl, L2.ns_eq_mi, L2.ns_eq_ti, L2.ns_eq_lt, L2.ns_eq_an, L2.ns_eq_or, L2.ns_eq_xo, L2.ns_an_pl, L2.ns_an_mi, L2.ns_an_ti, L2.ns_an_lt, L2.ns_an_eq, L2.ns_an_or, L2.ns_an_xo, L2.ns_or_pl, L2.ns_or_mi, L2.ns_or_ti, L2.ns_or_lt, L2.ns_or_eq, L2.ns_or_an, L2.ns_or_xo, L2.ns_xo_pl, L2.ns_xo_mi, L2.ns_xo_ti, L2.ns_xo_lt, L2.ns_xo_eq, L2.ns_xo_an, L2.ns_xo_or])
local macro_rules | `(tactic| walk_at "kh") => `(tactic| simp -implicitDefEqProofs only [L2.runD_d, L2.finO_rt, L2.finO_nx, L2.sSeq_d, L2.thenO_nx, L2.thenO_rt, L2.thenO_bk, L2.thenO_ct, L2.sNil, L2.sSet, L2.sRet, L2.sRetV, L2.sIf_d, L2.condO_t, L2.condO_f, L2.kB_d, L2.kT_d, L2.sFor_d, L2.sFrz, L2.sDrop, L2.sAsg, L2.s_clear, L2.sAug, L2.sPut, L2.toT, L2.toD, L2.T.d, L2.kD, L2.vL, L2.vB, L2.d2, L2.tB2, L2.fTru, L2.fNot, L2.fAnd_d, L2.fOr_d, L2.vNot, L2.vAnd_d, L2.vOr_d, L2.vIf_d, L2.aNil, L2.aCons, L2.vTup_d, L2.vLst_d, L2.mkL_of, L2.mkTp_of, L2.appL_of, L2.vCall, L2.vCallB, L2.scalT_b, L2.scalT_i, L2.scalT_s, L2.scalT_n, L2.vMeth, L2.vComp_d, L2.vSl, L2.oNone, L2.oSome, L2.vInst, L2.instD, L2.vChain, L2.asBf, L2.vNeg, L2.fIt, L2.fRng, L2.bName, L2.dC, L2.tYesD, L2.gAdd_i, L2.atI_0, L2.atI_1, L2.atI_2, L2.atI_3, L2.atI_4, L2.atI_5, L2.atI_6, L2.atI_7, L2.atI_8, L2.atI_9, L2.atI_10, L2.atI_11, L2.atI_12, L2.atI_m1, L2.gAdd_ls, L2.gIn_l, L2.gIn_t, L2.flatD_n, L2.flatD_b, L2.flatD_i, L2.flatD_s, L2.eqF_s, L2.eqF_i, L2.eqF_is, L2.eqF_si, L2.eqF_sn, L2.eqF_in, L2.eqF_nn, List.all_cons, List.all_nil, List.any_cons, List.any_nil, L2.gSub_i, L2.gMul_l, L2.gMul_r, L2.gDiv_i, L2.gMod_i, L2.gPow_40, L2.gMod_w, L2.gBit_i, L2.gCmp_i, L2.gEq_ii, L2.gEq_ss, L2.gEq_bb, L2.gEq_is, L2.gEq_si, L2.gEq_ns, L2.gEq_sn, L2.gEq_ni, L2.gEq_in, L2.gEq_nn, L2.gNe_ii, L2.gNe_ss, L2.gNe_bb, L2.gIs_n, L2.isNon, L2.gIx_l, L2.gIx_t, L2.gIx_d, L2.gIn_d, L2.gLen_l, L2.gLen_t, L2.gInt_i, L2.gInt_b, L2.gStr_s, L2.gTuple_l, L2.gTuple_t, L2.gList_l, L2.gList_t, L2.itD_l, L2.itD_t, L2.itD_s, L2.truD_b, L2.truD_i, L2.truD_l, L2.truD_t, L2.truD_n, L2.asB_b, L2.asBl_b, L2.asI_i, L2.forD_nil, List.map_cons, List.map_nil, List.length_cons, List.length_nil, List.cons_append, List.nil_append, List.replicate, List.getElem?_cons_zero, List.getElem?_cons_succ, List.set_cons_zero, List.set_cons_succ, Option.bind_some, Option.bind_none, Option.map_some, Option.map_none, Option.join_some, Option.join_none, Nat.reduceAdd, Nat.reduceSub, Nat.reduceLeDiff, Int.reduceLT, Int.reduceEq, eq_self, Int.reduceNeg, Int.reduceLE, if_true, if_false, ite_true, ite_false, Bool.false_eq_true, decide_true, decide_false, Bool.not_true, Bool.not_false, Bool.and_true, Bool.true_and, Bool.or_true, Bool.true_or, Bool.or_false, Bool.false_or, Bool.and_false, Bool.false_and, String.reduceBEq, reduceCtorEq, L2.ne_copy_op, L2.ne_copy_load, L2.ne_copy_store, L2.ne_copy_take, L2.ne_copy_lay, L2.ne_copy_hear, L2.ne_copy_say, L2.ne_copy_if, L2.ne_copy_go, L2.ne_copy_end, L2.ne_op_copy, L2.ne_op_load, L2.ne_op_store, L2.ne_op_take, L2.ne_op_lay, L2.ne_op_hear, L2.ne_op_say, L2.ne_op_if, L2.ne_op_go, L2.ne_op_end, L2.ne_load_copy, L2.ne_load_op, L2.ne_load_store, L2.ne_load_take, L2.ne_load_lay, L2.ne_load_hear, L2.ne_load_say, L2.ne_load_if, L2.ne_load_go, L2.ne_load_end, L2.ne_store_copy, L2.ne_store_op, L2.ne_store_load, L2.ne_store_take, L2.ne_store_lay, L2.ne_store_hear, L2.ne_store_say, L2.ne_store_if, L2.ne_store_go, L2.ne_store_end, L2.ne_take_copy, L2.ne_take_op, L2.ne_take_load, L2.ne_take_store, L2.ne_take_lay, L2.ne_take_hear, L2.ne_take_say, L2.ne_take_if, L2.ne_take_go, L2.ne_take_end, L2.ne_lay_copy, L2.ne_lay_op, L2.ne_lay_load, L2.ne_lay_store, L2.ne_lay_take, L2.ne_lay_hear, L2.ne_lay_say, L2.ne_lay_if, L2.ne_lay_go, L2.ne_lay_end, L2.ne_hear_copy, L2.ne_hear_op, L2.ne_hear_load, L2.ne_hear_store, L2.ne_hear_take, L2.ne_hear_lay, L2.ne_hear_say, L2.ne_hear_if, L2.ne_hear_go, L2.ne_hear_end, L2.ne_say_copy, L2.ne_say_op, L2.ne_say_load, L2.ne_say_store, L2.ne_say_take, L2.ne_say_lay, L2.ne_say_hear, L2.ne_say_if, L2.ne_say_go, L2.ne_say_end, L2.ne_if_copy, L2.ne_if_op, L2.ne_if_load, L2.ne_if_store, L2.ne_if_take, L2.ne_if_lay, L2.ne_if_hear, L2.ne_if_say, L2.ne_if_go, L2.ne_if_end, L2.ne_go_copy, L2.ne_go_op, L2.ne_go_load, L2.ne_go_store, L2.ne_go_take, L2.ne_go_lay, L2.ne_go_hear, L2.ne_go_say, L2.ne_go_if, L2.ne_go_end, L2.ne_end_copy, L2.ne_end_op, L2.ne_end_load, L2.ne_end_store, L2.ne_end_take, L2.ne_end_lay, L2.ne_end_hear, L2.ne_end_say, L2.ne_end_if, L2.ne_end_go, L2.ns_pl_mi, L2.ns_pl_ti, L2.ns_pl_lt, L2.ns_pl_eq, L2.ns_pl_an, L2.ns_pl_or, L2.ns_pl_xo, L2.ns_mi_pl, L2.ns_mi_ti, L2.ns_mi_lt, L2.ns_mi_eq, L2.ns_mi_an, L2.ns_mi_or, L2.ns_mi_xo, L2.ns_ti_pl, L2.ns_ti_mi, L2.ns_ti_lt, L2.ns_ti_eq, L2.ns_ti_an, L2.ns_ti_or, L2.ns_ti_xo, L2.ns_lt_pl, L2.ns_lt_mi, L2.ns_lt_ti, L2.ns_lt_eq, L2.ns_lt_an, L2.ns_lt_or, L2.ns_lt_xo, L2.ns_eq_pl, L2.ns_eq_mi, L2.ns_eq_ti, L2.ns_eq_lt, L2.ns_eq_an, L2.ns_eq_or, L2.ns_eq_xo, L2.ns_an_pl, L2.ns_an_mi, L2.ns_an_ti, L2.ns_an_lt, L2.ns_an_eq, L2.ns_an_or, L2.ns_an_xo, L2.ns_or_pl, L2.ns_or_mi, L2.ns_or_ti, L2.ns_or_lt, L2.ns_or_eq, L2.ns_or_an, L2.ns_or_xo, L2.ns_xo_pl, L2.ns_xo_mi, L2.ns_xo_ti, L2.ns_xo_lt, L2.ns_xo_eq, L2.ns_xo_an, L2.ns_xo_or, *])
namespace P21
open PySem L2
theorem led_in (s0 s1 s2 s3 : Option T) : ∀ (ws : List Int) (x : Option T), ∃ y, forD (bName 4) B__law_led_0 (ws.map .int) [s0, s1, s2, s3, x] = some (.nx [s0, s1, s2, s3, y])
  | [], x => ⟨x, rfl⟩
  | w :: ws, x => by
    obtain ⟨y, e⟩ := led_in s0 s1 s2 s3 ws (some (.leaf (.int w)))
    refine ⟨y, ?_⟩
    rw [List.map_cons, forD_cons (δ1 := [s0, s1, s2, s3, some (.leaf (.int w))]) (δ2 := [s0, s1, s2, s3, some (.leaf (.int w))]) rfl ?_, e]
    unfold B__law_led_0
    walk_at "d"
    rw [whole_i]
    walk_at "d"
theorem flat_ints : ∀ ws : List Int, (ws.map Dt.int).all flatD = true
  | [] => rfl
  | w :: ws => by rw [List.map_cons, List.all_cons, flat_ints ws]; rfl
def Led (k : Nat) (r : Dt) (ws : List Int) : Prop := F_ways_of [.int k, r] = some (.leaf (.tup (ws.map .int))) ∧ ∀ (fs rs : List Dt) (x y : Option T), atI fs (k : Int) = some (.tup (ws.map .int)) → atI rs (k : Int) = some r →
  ∃ x' y', B__law_led_1 [some (.leaf (.lst fs)), some (.leaf (.lst rs)), some (.leaf (.int k)), x, y] = some (.nx [some (.leaf (.lst fs)), some (.leaf (.lst rs)), some (.leaf (.int k)), x', y'])
theorem led_copy {x : Str} {a : Dt} (k : Nat) : Led k (.tup [.str "copy", .str x, a]) [(k : Int) + 1] := by
  constructor
  · unfold F_ways_of
    walk_at "k"
  · intro fs rs u v h1 h2
    unfold B__law_led_1
    walk_at "kh"
    rw [gEq_self (by rfl)]
    walk_at "kh"
    obtain ⟨y, e⟩ := led_in (some (.leaf (.lst fs))) (some (.leaf (.lst rs))) (some (.leaf (.int k))) (some (.leaf (.lst ([(k : Int) + 1].map .int)))) [(k : Int) + 1] v
    exact ⟨_, _, e⟩
theorem led_load {x y : Str} (k : Nat) : Led k (.tup [.str "load", .str x, .str y]) [(k : Int) + 1] := by
  constructor
  · unfold F_ways_of
    walk_at "k"
  · intro fs rs u v h1 h2
    unfold B__law_led_1
    walk_at "kh"
    rw [gEq_self (by rfl)]
    walk_at "kh"
    obtain ⟨y, e⟩ := led_in (some (.leaf (.lst fs))) (some (.leaf (.lst rs))) (some (.leaf (.int k))) (some (.leaf (.lst ([(k : Int) + 1].map .int)))) [(k : Int) + 1] v
    exact ⟨_, _, e⟩
theorem led_store {x : Str} {a : Dt} (k : Nat) : Led k (.tup [.str "store", .str x, a]) [(k : Int) + 1] := by
  constructor
  · unfold F_ways_of
    walk_at "k"
  · intro fs rs u v h1 h2
    unfold B__law_led_1
    walk_at "kh"
    rw [gEq_self (by rfl)]
    walk_at "kh"
    obtain ⟨y, e⟩ := led_in (some (.leaf (.lst fs))) (some (.leaf (.lst rs))) (some (.leaf (.int k))) (some (.leaf (.lst ([(k : Int) + 1].map .int)))) [(k : Int) + 1] v
    exact ⟨_, _, e⟩
theorem led_op {x s : Str} {a b : Dt} (k : Nat) : Led k (.tup [.str "op", .str x, .str s, a, b]) [(k : Int) + 1] := by
  constructor
  · unfold F_ways_of
    walk_at "k"
  · intro fs rs u v h1 h2
    unfold B__law_led_1
    walk_at "kh"
    rw [gEq_self (by rfl)]
    walk_at "kh"
    obtain ⟨y, e⟩ := led_in (some (.leaf (.lst fs))) (some (.leaf (.lst rs))) (some (.leaf (.int k))) (some (.leaf (.lst ([(k : Int) + 1].map .int)))) [(k : Int) + 1] v
    exact ⟨_, _, e⟩
theorem led_take {x y : Str} {a : Dt} (k : Nat) : Led k (.tup [.str "take", .str x, .str y, a]) [(k : Int) + 1] := by
  constructor
  · unfold F_ways_of
    walk_at "k"
  · intro fs rs u v h1 h2
    unfold B__law_led_1
    walk_at "kh"
    rw [gEq_self (by rfl)]
    walk_at "kh"
    obtain ⟨y, e⟩ := led_in (some (.leaf (.lst fs))) (some (.leaf (.lst rs))) (some (.leaf (.int k))) (some (.leaf (.lst ([(k : Int) + 1].map .int)))) [(k : Int) + 1] v
    exact ⟨_, _, e⟩
theorem led_hear {x : Str} (k : Nat) : Led k (.tup [.str "hear", .str x]) [(k : Int) + 1] := by
  constructor
  · unfold F_ways_of
    walk_at "k"
  · intro fs rs u v h1 h2
    unfold B__law_led_1
    walk_at "kh"
    rw [gEq_self (by rfl)]
    walk_at "kh"
    obtain ⟨y, e⟩ := led_in (some (.leaf (.lst fs))) (some (.leaf (.lst rs))) (some (.leaf (.int k))) (some (.leaf (.lst ([(k : Int) + 1].map .int)))) [(k : Int) + 1] v
    exact ⟨_, _, e⟩
theorem led_say {a : Dt} (k : Nat) : Led k (.tup [.str "say", a]) [(k : Int) + 1] := by
  constructor
  · unfold F_ways_of
    walk_at "k"
  · intro fs rs u v h1 h2
    unfold B__law_led_1
    walk_at "kh"
    rw [gEq_self (by rfl)]
    walk_at "kh"
    obtain ⟨y, e⟩ := led_in (some (.leaf (.lst fs))) (some (.leaf (.lst rs))) (some (.leaf (.int k))) (some (.leaf (.lst ([(k : Int) + 1].map .int)))) [(k : Int) + 1] v
    exact ⟨_, _, e⟩
theorem led_lay {x : Str} {a b : Dt} (k : Nat) : Led k (.tup [.str "lay", .str x, a, b]) [(k : Int) + 1] := by
  constructor
  · unfold F_ways_of
    walk_at "k"
  · intro fs rs u v h1 h2
    unfold B__law_led_1
    walk_at "kh"
    rw [gEq_self (by rfl)]
    walk_at "kh"
    obtain ⟨y, e⟩ := led_in (some (.leaf (.lst fs))) (some (.leaf (.lst rs))) (some (.leaf (.int k))) (some (.leaf (.lst ([(k : Int) + 1].map .int)))) [(k : Int) + 1] v
    exact ⟨_, _, e⟩
theorem led_if {a : Dt} {w : Int} (k : Nat) : Led k (.tup [.str "if", a, .int w]) [w, (k : Int) + 1] := by
  constructor
  · unfold F_ways_of
    walk_at "k"
  · intro fs rs u v h1 h2
    unfold B__law_led_1
    walk_at "kh"
    rw [gEq_self (by rfl)]
    walk_at "kh"
    obtain ⟨y, e⟩ := led_in (some (.leaf (.lst fs))) (some (.leaf (.lst rs))) (some (.leaf (.int k))) (some (.leaf (.lst ([w, (k : Int) + 1].map .int)))) [w, (k : Int) + 1] v
    exact ⟨_, _, e⟩
theorem led_go {w : Int} (k : Nat) : Led k (.tup [.str "go", .int w]) [w] := by
  constructor
  · unfold F_ways_of
    walk_at "k"
  · intro fs rs u v h1 h2
    unfold B__law_led_1
    walk_at "kh"
    rw [gEq_self (by rfl)]
    walk_at "kh"
    obtain ⟨y, e⟩ := led_in (some (.leaf (.lst fs))) (some (.leaf (.lst rs))) (some (.leaf (.int k))) (some (.leaf (.lst ([w].map .int)))) [w] v
    exact ⟨_, _, e⟩
theorem led_end {a : Dt} (k : Nat) : Led k (.tup [.str "end", a]) [] := by
  constructor
  · unfold F_ways_of
    walk_at "k"
  · intro fs rs u v h1 h2
    unfold B__law_led_1
    walk_at "kh"
    rw [gEq_self (by rfl)]
    walk_at "kh"
    obtain ⟨y, e⟩ := led_in (some (.leaf (.lst fs))) (some (.leaf (.lst rs))) (some (.leaf (.int k))) (some (.leaf (.lst ([].map .int)))) [] v
    exact ⟨_, _, e⟩
theorem led_row {m : Int} {r : Dt} (h : Row m r) (k : Nat) : ∃ ws, Led k r ws := by
  cases h
  · exact ⟨_, led_copy k⟩
  · exact ⟨_, led_load k⟩
  · exact ⟨_, led_store k⟩
  · exact ⟨_, led_op k⟩
  · exact ⟨_, led_take k⟩
  · exact ⟨_, led_hear k⟩
  · exact ⟨_, led_say k⟩
  · exact ⟨_, led_lay k⟩
  · exact ⟨_, led_if k⟩
  · exact ⟨_, led_go k⟩
  · exact ⟨_, led_end k⟩
end P21

namespace P21
open PySem L2
theorem paired_get {P : Dt → Dt → Prop} : ∀ {ds ys : List Dt} {k : Nat} {d : Dt}, Paired P ds ys → ds[k]? = some d → ∃ y, ys[k]? = some y ∧ P d y
  | _, _, 0, _, .cons h _, e => by cases e; exact ⟨_, rfl, h⟩
  | _, _, k + 1, _, .cons _ t, e => by
    obtain ⟨y, e', h⟩ := paired_get (k := k) t (by simpa using e)
    exact ⟨y, by simpa using e', h⟩
theorem paired_mem {P : Dt → Dt → Prop} : ∀ {ds ys : List Dt} {y : Dt}, Paired P ds ys → y ∈ ys → ∃ d, d ∈ ds ∧ P d y
  | _, _, _, .cons h t, e => by
    rcases List.mem_cons.mp e with rfl | e
    · exact ⟨_, List.mem_cons_self, h⟩
    · obtain ⟨d, hd, q⟩ := paired_mem t e
      exact ⟨d, List.mem_cons_of_mem _ hd, q⟩
theorem enum_mem {l : List Dt} {d : Dt} (h : d ∈ enumL 0 l) : ∃ (k : Nat) (e : Dt), e ∈ l ∧ d = .tup [.int k, e] := by
  obtain ⟨k, hk, rfl⟩ := List.mem_iff_getElem.mp h
  have e : (enumL 0 l)[k]? = some (enumL 0 l)[k] := List.getElem?_eq_getElem hk
  rw [enumL_get] at e
  obtain ⟨x, hx, q⟩ := Option.map_eq_some_iff.mp e
  exact ⟨0 + k, x, List.mem_of_getElem? hx, q.symm⟩
theorem ways_ok {m : Int} {rs : List Dt} (hl : rs.length ≤ 1000) (h : ∀ r ∈ rs, Row m r) (a b : Dt) : ∃ fs, F_ways [.tup [a, b, .tup rs]] = some (.lst fs) ∧ fs.length = rs.length ∧ ∀ (k : Nat) r, rs[k]? = some r → ∃ ws, fs[k]? = some (.tup (ws.map .int)) ∧ Led k r ws := by
  obtain ⟨fs, e, hp⟩ := compL_ex (bb := bTup 2 (bCons (bName 0) (bCons (bName 1) bNil))) (ft := tYesD) (fe := E_ways_0) (ds := enumL 0 rs) (δ := [none, none]) (P := fun d y => ∃ (k : Nat) (r : Dt) (ws : List Int), d = .tup [.int k, r] ∧ Led k r ws ∧ y = .tup (ws.map .int)) fun d hd => by
    obtain ⟨k, r, hr, rfl⟩ := enum_mem hd
    obtain ⟨ws, hw⟩ := led_row (h r hr) k
    refine ⟨[some (.leaf (.int k)), some (.leaf r)], _, rfl, rfl, ?_, k, r, ws, rfl, hw, rfl⟩
    unfold E_ways_0
    walk_at "d"
    rw [hw.1]
    rfl
  have hlen : fs.length = rs.length := by rw [← Paired.length hp, enumL_len]
  refine ⟨fs, ?_, hlen, fun k r hr => ?_⟩
  · unfold F_ways
    walk_at "d"
    show (finO (Option.map Out.rt ((some (enumL 0 rs)).bind _))) = _
    rw [Option.bind_some, e, Option.bind_some, mkL_of (by omega)]
    rfl
  · have ee : (enumL 0 rs)[k]? = some (.tup [.int ((0 + k : Nat) : Int), r]) := by rw [enumL_get, hr]; rfl
    obtain ⟨y, ey, k', r', ws, q, hw, rfl⟩ := paired_get hp ee
    injection q with q
    injection q with q1 q2
    injection q2 with q2
    injection q1 with q1
    cases q2
    have : k' = k := by omega
    subst this
    exact ⟨ws, ey, hw⟩
theorem led_ok {rs fs : List Dt} (hl : rs.length ≤ 1000) (hf : fs.length = rs.length) (h : ∀ (k : Nat) r, rs[k]? = some r → ∃ ws, fs[k]? = some (.tup (ws.map .int)) ∧ Led k r ws) : F__law_led [.lst fs, .lst rs] = some (.leaf (.bl true)) := by
  unfold F__law_led
  walk_at "d"
  rw [hf]
  walk_at "d"
  rw [rng1_n (by omega), Option.bind_some]
  obtain ⟨δ', e, x, y, z, rfl⟩ := forD_at (bb := bName 2) (g := B__law_led_1) (all := rangeD 0 rs.length) (P := fun done δ => ∃ x y z, δ = [some (.leaf (.lst fs)), some (.leaf (.lst rs)), x, y, z]) (rangeD 0 rs.length) [] [some (.leaf (.lst fs)), some (.leaf (.lst rs)), none, none, none] rfl ⟨_, _, _, rfl⟩ (fun done d r δ hd hP => by
    obtain ⟨rfl, hi⟩ := range_at hd
    obtain ⟨x, y, z, rfl⟩ := hP
    obtain ⟨ws, hw, q⟩ := h done.length rs[done.length] (List.getElem?_eq_getElem hi)
    obtain ⟨x', y', e⟩ := q.2 fs rs y z (by rw [atI_nat', hw]) (by rw [atI_nat', List.getElem?_eq_getElem hi])
    rw [Int.zero_add]
    exact ⟨_, _, rfl, .inl e, _, _, _, rfl⟩)
  rw [e]
  walk_at "d"
theorem main (ns : List Int) (h : ns.length ≤ 63) : F_law [.lst (ns.map .int)] = some (.leaf (.bl true)) := by
  unfold F_law
  obtain ⟨xs, e1, hx⟩ := names_ok (ns.getD 0 0)
  obtain ⟨v, e2, hv⟩ := value_by (ns.getD 1 0 % 2147483629)
  obtain ⟨w, e3, hw⟩ := value_by (ns.getD 2 0 % 2147483629)
  have c0 : F__law_cell_at [.lst (ns.map .int), .int 0] = some (.leaf (.int (ns.getD 0 0))) := cell_at ns 0
  have c1 : F__law_cell_at [.lst (ns.map .int), .int 1] = some (.leaf (.int (ns.getD 1 0))) := cell_at ns 1
  have c2 : F__law_cell_at [.lst (ns.map .int), .int 2] = some (.leaf (.int (ns.getD 2 0))) := cell_at ns 2
  generalize ns.getD 0 0 = a0 at *
  generalize ns.getD 1 0 = a1 at *
  generalize ns.getD 2 0 = a2 at *
  obtain ⟨x5, e5⟩ := pick (xs := xs) (i := 5) (by decide) (by rw [hx]; decide)
  obtain ⟨x6, e6⟩ := pick (xs := xs) (i := 6) (by decide) (by rw [hx]; decide)
  obtain ⟨x7, e7⟩ := pick (xs := xs) (i := 7) (by decide) (by rw [hx]; decide)
  rw [atI_5] at e5
  rw [atI_6] at e6
  rw [atI_7] at e7
  walk_at "d"
  rw [c0]
  walk_at "d"
  rw [e1]
  walk_at "d"
  rw [c1]
  walk_at "d"
  rw [e2]
  walk_at "d"
  rw [c2]
  walk_at "d"
  rw [e3]
  walk_at "d"
  rw [c2]
  walk_at "d"
  obtain ⟨u, hu, eu⟩ : ∃ u, InR u ∧ condO (some (decide (a2 % 5 = 1))) (sSet 3 (toT (vL 2))) sNil [some (T.leaf (Dt.lst (List.map Dt.int ns))), some (T.leaf (Dt.lst (List.map Dt.str xs))), some (T.leaf (Dt.int v)), some (T.leaf (Dt.int w)), none, none, none, none, none, none] = some (.nx [some (T.leaf (Dt.lst (List.map Dt.int ns))), some (T.leaf (Dt.lst (List.map Dt.str xs))), some (T.leaf (Dt.int v)), some (T.leaf (Dt.int u)), none, none, none, none, none, none]) := by
    by_cases q : a2 % 5 = 1
    · rw [condO_p (by simpa using q)]
      exact ⟨v, hv, rfl⟩
    · rw [condO_n (by simpa using q)]
      exact ⟨w, hw, rfl⟩
  rw [eu]
  clear eu
  obtain ⟨A, rfl⟩ := Int.eq_ofNat_of_zero_le hv.1
  obtain ⟨B, rfl⟩ := Int.eq_ofNat_of_zero_le hu.1
  have hA : A < 2 ^ 40 := by have := hv.2; rw [wide_eq] at this; have : (2 ^ 40 : Nat) = 1099511627776 := rfl; omega
  have hB : B < 2 ^ 40 := by have := hu.2; rw [wide_eq] at this; have : (2 ^ 40 : Nat) = 1099511627776 := rfl; omega
  walk_at "d"
  obtain ⟨y, z, el⟩ := loop_signs A B hA hB (some (T.leaf (Dt.lst (List.map Dt.int ns)))) (some (T.leaf (Dt.lst (List.map Dt.str xs)))) none none none none
  rw [el]
  clear el
  obtain ⟨cs, ec, hc⟩ : ∃ cs : List Int, gSl (.lst (ns.map Dt.int)) (some 3) (some 53) = some (.lst (cs.map .int)) ∧ cs.length ≤ 63 := by
    refine ⟨(ns.drop (HT.sIx (ns.map Dt.int).length 0 (some 3))).take (HT.sIx (ns.map Dt.int).length (ns.map Dt.int).length (some 53) - HT.sIx (ns.map Dt.int).length 0 (some 3)), ?_, ?_⟩
    · rw [List.map_take, List.map_drop]
      rfl
    · rw [List.length_take, List.length_drop]
      omega
  walk_at "d"
  rw [ec]
  walk_at "d"
  rw [ec]
  walk_at "d"
  rw [List.length_map]
  obtain ⟨rs, er, hp⟩ := compL_ex (bb := bName 0) (ft := tYesD) (fe := E_law_0) (ds := cs.map Dt.int) (δ := [none, some (.leaf (.lst (xs.map .str))), some (.leaf (.int ((cs.length : Int) + 1)))]) (P := fun _ r => Row ((cs.length : Int) + 1) r) fun d hd => by
    obtain ⟨c, _, rfl⟩ := List.mem_map.mp hd
    obtain ⟨r, e, hr⟩ := row_ok c xs hx ((cs.length : Int) + 1) (by omega)
    refine ⟨_, r, rfl, rfl, ?_, hr⟩
    unfold E_law_0
    walk_at "d"
    rw [e]
    rfl
  have hl : rs.length = cs.length := by rw [← Paired.length hp, List.length_map]
  rw [er]
  walk_at "d"
  rw [mkL_of (by omega)]
  walk_at "d"
  rw [gAdd_ls (by simp only [List.length_cons, List.length_nil]; omega)]
  walk_at "d"
  rw [e6]
  walk_at "d"
  rw [e5]
  walk_at "d"
  rw [e7]
  walk_at "d"
  have hrows : ∀ r ∈ rs ++ [Dt.tup [.str (Str.ofString "end"), .int B]], Row ((cs.length : Int) + 1) r := fun r hr => by
    rcases List.mem_append.mp hr with hr | hr
    · obtain ⟨_, _, q⟩ := paired_mem hp hr
      exact q
    · cases List.mem_singleton.mp hr
      exact .fin (.inl ⟨B, hu, rfl⟩)
  have hlen : (rs ++ [Dt.tup [.str (Str.ofString "end"), .int B]]).length ≤ 1000 := by simp only [List.length_append, List.length_cons, List.length_nil]; omega
  obtain ⟨fs, ef, hf, hled⟩ := ways_ok hlen hrows (.tup [.tup [.str x5, .int A, .bl false], .tup [.str x6, .int B, .bl true]]) (.tup [.tup [.str x7, .int (1 + (A : Int) % 8), .bl (decide ((B : Int) % 2 = 1))]])
  rw [ef]
  walk_at "d"
  rw [led_ok hlen hf hled]
  walk_at "d"
  rw [ef]
  walk_at "d"
  rw [led_ok hlen hf hled]
  walk_at "d"
end P21

namespace P21
open PySem L2
def sp_law (K : PySem.W.Frag) : Sp := fun vs H Q _ => ∃ (a : Addr) (ns : List Int), vs = [.ref a] ∧ SqL K H a (ns.map V.int) ∧ ns.length ≤ 63 ∧ Only H ∧ ∀ H', Q (.bl true) H'
theorem law_sp {K : PySem.W.Frag} {vs : List V} {H : Hp} {Q : VK} {E : XK} (h : sp_law K vs H Q E) : spD K 1 F_law vs H Q E := by
  obtain ⟨a, ns, rfl, hS, hl, hO, q⟩ := h
  refine ⟨H, [.lst (ns.map .int)], .leaf (.bl true), Same.refl H, rfl, ?_, main ns hl, fun v H' F' S st o _ => ?_⟩
  · simp only [Reps, Rep]
    exact ⟨_, [], rfl, ⟨a, _, rfl, hS, Reps.map (fun _ => rep_int) ns⟩, rfl⟩
  · have o : Rep K F' (.bl true) v := o
    simp only [Rep] at o
    subst o
    exact q H'
theorem all_mk {l : PySem.W.OpenLaw} {w : World} {K : PySem.W.Frag} {h : Heap} {mg : Str → Option Value} {fa : Addr} (X : K.In h) (G : h.Ns mainGlobals mg) (hfa : mg "law" = some (.ref fa))
    {f0 : Addr} {od0 an0 : Option Addr} {sl0 : Array (Option Value)} {oc0 kV0 dc0 pm0 cd0 ct0 : Value}
    (a0 : PySem.W.nsIn K mainGlobals "_law_cell_at" = some (some (.ref f0))) (l0 : K.lookup f0 = some ⟨oc0, od0, .func (PySem.W.fnOf "_law_cell_at" "_law_cell_at" (defArgs s__law_cell_at) (defBody s__law_cell_at) (defScope s__law_cell_at) .none kV0 dc0 pm0 an0 cd0 ct0), sl0⟩) (c0 : PySem.W.codeIn K cd0 "_law_cell_at" = true) (k0 : PySem.W.keepIn K (.ref f0) = true)
    {f1 : Addr} {od1 an1 : Option Addr} {sl1 : Array (Option Value)} {oc1 kV1 dc1 pm1 cd1 ct1 : Value}
    (a1 : PySem.W.nsIn K mainGlobals "_law_bit" = some (some (.ref f1))) (l1 : K.lookup f1 = some ⟨oc1, od1, .func (PySem.W.fnOf "_law_bit" "_law_bit" (defArgs s__law_bit) (defBody s__law_bit) (defScope s__law_bit) .none kV1 dc1 pm1 an1 cd1 ct1), sl1⟩) (c1 : PySem.W.codeIn K cd1 "_law_bit" = true) (k1 : PySem.W.keepIn K (.ref f1) = true)
    {f2 : Addr} {od2 an2 : Option Addr} {sl2 : Array (Option Value)} {oc2 kV2 dc2 pm2 cd2 ct2 : Value}
    (a2 : PySem.W.nsIn K mainGlobals "_law_fits" = some (some (.ref f2))) (l2 : K.lookup f2 = some ⟨oc2, od2, .func (PySem.W.fnOf "_law_fits" "_law_fits" (defArgs s__law_fits) (defBody s__law_fits) (defScope s__law_fits) .none kV2 dc2 pm2 an2 cd2 ct2), sl2⟩) (c2 : PySem.W.codeIn K cd2 "_law_fits" = true) (k2 : PySem.W.keepIn K (.ref f2) = true)
    {f3 : Addr} {od3 an3 : Option Addr} {sl3 : Array (Option Value)} {oc3 kV3 dc3 pm3 cd3 ct3 : Value}
    (a3 : PySem.W.nsIn K mainGlobals "_law_whole" = some (some (.ref f3))) (l3 : K.lookup f3 = some ⟨oc3, od3, .func (PySem.W.fnOf "_law_whole" "_law_whole" (defArgs s__law_whole) (defBody s__law_whole) (defScope s__law_whole) .none kV3 dc3 pm3 an3 cd3 ct3), sl3⟩) (c3 : PySem.W.codeIn K cd3 "_law_whole" = true) (k3 : PySem.W.keepIn K (.ref f3) = true)
    {f4 : Addr} {od4 an4 : Option Addr} {sl4 : Array (Option Value)} {oc4 kV4 dc4 pm4 cd4 ct4 : Value}
    (a4 : PySem.W.nsIn K mainGlobals "_law_led" = some (some (.ref f4))) (l4 : K.lookup f4 = some ⟨oc4, od4, .func (PySem.W.fnOf "_law_led" "_law_led" (defArgs s__law_led) (defBody s__law_led) (defScope s__law_led) .none kV4 dc4 pm4 an4 cd4 ct4), sl4⟩) (c4 : PySem.W.codeIn K cd4 "_law_led" = true) (k4 : PySem.W.keepIn K (.ref f4) = true)
    {f5 : Addr} {od5 an5 : Option Addr} {sl5 : Array (Option Value)} {oc5 kV5 dc5 pm5 cd5 ct5 : Value}
    (a5 : PySem.W.nsIn K mainGlobals "_law_names" = some (some (.ref f5))) (l5 : K.lookup f5 = some ⟨oc5, od5, .func (PySem.W.fnOf "_law_names" "_law_names" (defArgs s__law_names) (defBody s__law_names) (defScope s__law_names) .none kV5 dc5 pm5 an5 cd5 ct5), sl5⟩) (c5 : PySem.W.codeIn K cd5 "_law_names" = true) (k5 : PySem.W.keepIn K (.ref f5) = true)
    {f6 : Addr} {od6 an6 : Option Addr} {sl6 : Array (Option Value)} {oc6 kV6 dc6 pm6 cd6 ct6 : Value}
    (a6 : PySem.W.nsIn K mainGlobals "_law_value_by" = some (some (.ref f6))) (l6 : K.lookup f6 = some ⟨oc6, od6, .func (PySem.W.fnOf "_law_value_by" "_law_value_by" (defArgs s__law_value_by) (defBody s__law_value_by) (defScope s__law_value_by) .none kV6 dc6 pm6 an6 cd6 ct6), sl6⟩) (c6 : PySem.W.codeIn K cd6 "_law_value_by" = true) (k6 : PySem.W.keepIn K (.ref f6) = true)
    {f7 : Addr} {od7 an7 : Option Addr} {sl7 : Array (Option Value)} {oc7 kV7 dc7 pm7 cd7 ct7 : Value}
    (a7 : PySem.W.nsIn K mainGlobals "_law_atom" = some (some (.ref f7))) (l7 : K.lookup f7 = some ⟨oc7, od7, .func (PySem.W.fnOf "_law_atom" "_law_atom" (defArgs s__law_atom) (defBody s__law_atom) (defScope s__law_atom) .none kV7 dc7 pm7 an7 cd7 ct7), sl7⟩) (c7 : PySem.W.codeIn K cd7 "_law_atom" = true) (k7 : PySem.W.keepIn K (.ref f7) = true)
    {f8 : Addr} {od8 an8 : Option Addr} {sl8 : Array (Option Value)} {oc8 kV8 dc8 pm8 cd8 ct8 : Value}
    (a8 : PySem.W.nsIn K mainGlobals "_law_stream" = some (some (.ref f8))) (l8 : K.lookup f8 = some ⟨oc8, od8, .func (PySem.W.fnOf "_law_stream" "_law_stream" (defArgs s__law_stream) (defBody s__law_stream) (defScope s__law_stream) .none kV8 dc8 pm8 an8 cd8 ct8), sl8⟩) (c8 : PySem.W.codeIn K cd8 "_law_stream" = true) (k8 : PySem.W.keepIn K (.ref f8) = true)
    {f9 : Addr} {od9 an9 : Option Addr} {sl9 : Array (Option Value)} {oc9 kV9 dc9 pm9 cd9 ct9 : Value}
    (a9 : PySem.W.nsIn K mainGlobals "_law_row" = some (some (.ref f9))) (l9 : K.lookup f9 = some ⟨oc9, od9, .func (PySem.W.fnOf "_law_row" "_law_row" (defArgs s__law_row) (defBody s__law_row) (defScope s__law_row) .none kV9 dc9 pm9 an9 cd9 ct9), sl9⟩) (c9 : PySem.W.codeIn K cd9 "_law_row" = true) (k9 : PySem.W.keepIn K (.ref f9) = true)
    {f10 : Addr} {od10 an10 : Option Addr} {sl10 : Array (Option Value)} {oc10 kV10 dc10 pm10 cd10 ct10 : Value}
    (a10 : PySem.W.nsIn K mainGlobals "number_of" = some (some (.ref f10))) (l10 : K.lookup f10 = some ⟨oc10, od10, .func (PySem.W.fnOf "number_of" "number_of" (defArgs s_number_of) (defBody s_number_of) (defScope s_number_of) .none kV10 dc10 pm10 an10 cd10 ct10), sl10⟩) (c10 : PySem.W.codeIn K cd10 "number_of" = true) (k10 : PySem.W.keepIn K (.ref f10) = true)
    {f11 : Addr} {od11 an11 : Option Addr} {sl11 : Array (Option Value)} {oc11 kV11 dc11 pm11 cd11 ct11 : Value}
    (a11 : PySem.W.nsIn K mainGlobals "value" = some (some (.ref f11))) (l11 : K.lookup f11 = some ⟨oc11, od11, .func (PySem.W.fnOf "value" "value" (defArgs s_value) (defBody s_value) (defScope s_value) .none kV11 dc11 pm11 an11 cd11 ct11), sl11⟩) (c11 : PySem.W.codeIn K cd11 "value" = true) (k11 : PySem.W.keepIn K (.ref f11) = true)
    {f12 : Addr} {od12 an12 : Option Addr} {sl12 : Array (Option Value)} {oc12 kV12 dc12 pm12 cd12 ct12 : Value}
    (a12 : PySem.W.nsIn K mainGlobals "ways_of" = some (some (.ref f12))) (l12 : K.lookup f12 = some ⟨oc12, od12, .func (PySem.W.fnOf "ways_of" "ways_of" (defArgs s_ways_of) (defBody s_ways_of) (defScope s_ways_of) .none kV12 dc12 pm12 an12 cd12 ct12), sl12⟩) (c12 : PySem.W.codeIn K cd12 "ways_of" = true) (k12 : PySem.W.keepIn K (.ref f12) = true)
    {f13 : Addr} {od13 an13 : Option Addr} {sl13 : Array (Option Value)} {oc13 kV13 dc13 pm13 cd13 ct13 : Value}
    (a13 : PySem.W.nsIn K mainGlobals "ways" = some (some (.ref f13))) (l13 : K.lookup f13 = some ⟨oc13, od13, .func (PySem.W.fnOf "ways" "ways" (defArgs s_ways) (defBody s_ways) (defScope s_ways) .none kV13 dc13 pm13 an13 cd13 ct13), sl13⟩) (c13 : PySem.W.codeIn K cd13 "ways" = true) (k13 : PySem.W.keepIn K (.ref f13) = true)
    {f14 : Addr} {od14 an14 : Option Addr} {sl14 : Array (Option Value)} {oc14 kV14 dc14 pm14 cd14 ct14 : Value}
    (a14 : PySem.W.nsIn K mainGlobals "law" = some (some (.ref f14))) (l14 : K.lookup f14 = some ⟨oc14, od14, .func (PySem.W.fnOf "law" "law" (defArgs s_law) (defBody s_law) (defScope s_law) .none kV14 dc14 pm14 an14 cd14 ct14), sl14⟩) (c14 : PySem.W.codeIn K cd14 "law" = true) (k14 : PySem.W.keepIn K (.ref f14) = true)
    (z_bool : PySem.W.nsIn K mainGlobals "bool" = some none)
    (z_enumerate : PySem.W.nsIn K mainGlobals "enumerate" = some none)
    (z_int : PySem.W.nsIn K mainGlobals "int" = some none)
    (z_isinstance : PySem.W.nsIn K mainGlobals "isinstance" = some none)
    (z_len : PySem.W.nsIn K mainGlobals "len" = some none)
    (z_list : PySem.W.nsIn K mainGlobals "list" = some none)
    (z_range : PySem.W.nsIn K mainGlobals "range" = some none)
    (z_tuple : PySem.W.nsIn K mainGlobals "tuple" = some none)
    {u_WIDE : Value} (b_WIDE : PySem.W.nsIn K mainGlobals "WIDE" = some (some u_WIDE)) (r_WIDE : RelV (.int 1099511627776) u_WIDE)
    (x_bool_NoneType : PySem.W.kitOne K (.type "NoneType") (.type "bool") = some false)
    (x_bool_bool : PySem.W.kitOne K (.type "bool") (.type "bool") = some true)
    (x_bool_int : PySem.W.kitOne K (.type "int") (.type "bool") = some false)
    (x_bool_str : PySem.W.kitOne K (.type "str") (.type "bool") = some false)
    (x_bool_tuple : PySem.W.kitOne K (.type "tuple") (.type "bool") = some false)
    (x_bool_list : PySem.W.kitOne K (.type "list") (.type "bool") = some false)
    (x_bool_dict : PySem.W.kitOne K (.type "dict") (.type "bool") = some false)
    (x_int_NoneType : PySem.W.kitOne K (.type "NoneType") (.type "int") = some false)
    (x_int_bool : PySem.W.kitOne K (.type "bool") (.type "int") = some true)
    (x_int_int : PySem.W.kitOne K (.type "int") (.type "int") = some true)
    (x_int_str : PySem.W.kitOne K (.type "str") (.type "int") = some false)
    (x_int_tuple : PySem.W.kitOne K (.type "tuple") (.type "int") = some false)
    (x_int_list : PySem.W.kitOne K (.type "list") (.type "int") = some false)
    (x_int_dict : PySem.W.kitOne K (.type "dict") (.type "int") = some false)
    (x_list_NoneType : PySem.W.kitOne K (.type "NoneType") (.type "list") = some false)
    (x_list_bool : PySem.W.kitOne K (.type "bool") (.type "list") = some false)
    (x_list_int : PySem.W.kitOne K (.type "int") (.type "list") = some false)
    (x_list_str : PySem.W.kitOne K (.type "str") (.type "list") = some false)
    (x_list_tuple : PySem.W.kitOne K (.type "tuple") (.type "list") = some false)
    (x_list_list : PySem.W.kitOne K (.type "list") (.type "list") = some true)
    (x_list_dict : PySem.W.kitOne K (.type "dict") (.type "list") = some false)
    (x_tuple_NoneType : PySem.W.kitOne K (.type "NoneType") (.type "tuple") = some false)
    (x_tuple_bool : PySem.W.kitOne K (.type "bool") (.type "tuple") = some false)
    (x_tuple_int : PySem.W.kitOne K (.type "int") (.type "tuple") = some false)
    (x_tuple_str : PySem.W.kitOne K (.type "str") (.type "tuple") = some false)
    (x_tuple_tuple : PySem.W.kitOne K (.type "tuple") (.type "tuple") = some true)
    (x_tuple_list : PySem.W.kitOne K (.type "list") (.type "tuple") = some false)
    (x_tuple_dict : PySem.W.kitOne K (.type "dict") (.type "tuple") = some false)
    : ∃ fd : FuncData, (∀ (s : Shared) (v : Value), BindsTo s fd ⟨[v], []⟩ [("_law_script", v)]) ∧ ∀ base : Heap, K.In base → base.Ns mainGlobals mg → FnOk l.prog w K mg base CX0 4 fa fd ["_law_script"] (sp_law K) := by
  have e := hfa.symm.trans (PySem.W.mg_of X G a14)
  cases e
  have T : Txt l.prog w K mg := { n_bool := PySem.W.mg_none_of X G z_bool, n_enumerate := PySem.W.mg_none_of X G z_enumerate, n_int := PySem.W.mg_none_of X G z_int, n_isinstance := PySem.W.mg_none_of X G z_isinstance, n_len := PySem.W.mg_none_of X G z_len, n_list := PySem.W.mg_none_of X G z_list, n_range := PySem.W.mg_none_of X G z_range, n_tuple := PySem.W.mg_none_of X G z_tuple, g_WIDE := glob_int ⟨_, PySem.W.mg_of X G b_WIDE, r_WIDE⟩, k_bool := fun d => (by cases d <;> first | exact x_bool_NoneType | exact x_bool_bool | exact x_bool_int | exact x_bool_str | exact x_bool_tuple | exact x_bool_list | exact x_bool_dict), k_int := fun d => (by cases d <;> first | exact x_int_NoneType | exact x_int_bool | exact x_int_int | exact x_int_str | exact x_int_tuple | exact x_int_list | exact x_int_dict), k_list := fun d => (by cases d <;> first | exact x_list_NoneType | exact x_list_bool | exact x_list_int | exact x_list_str | exact x_list_tuple | exact x_list_list | exact x_list_dict), k_tuple := fun d => (by cases d <;> first | exact x_tuple_NoneType | exact x_tuple_bool | exact x_tuple_int | exact x_tuple_str | exact x_tuple_tuple | exact x_tuple_list | exact x_tuple_dict) }
  have D0 : DefF K mg "_law_cell_at" s__law_cell_at ["_law_script", "_law_k"] := DefF.mk' X G a0 l0 c0 k0 fun _ _ _ _ _ _ us hl => match us, hl with | [_, _], _ => rfl
  have D1 : DefF K mg "_law_bit" s__law_bit ["_law_sign", "_law_one", "_law_other"] := DefF.mk' X G a1 l1 c1 k1 fun _ _ _ _ _ _ us hl => match us, hl with | [_, _, _], _ => rfl
  have D2 : DefF K mg "_law_fits" s__law_fits ["_law_sign", "_law_one", "_law_other", "_law_found"] := DefF.mk' X G a2 l2 c2 k2 fun _ _ _ _ _ _ us hl => match us, hl with | [_, _, _, _], _ => rfl
  have D3 : DefF K mg "_law_whole" s__law_whole ["_law_found"] := DefF.mk' X G a3 l3 c3 k3 fun _ _ _ _ _ _ us hl => match us, hl with | [_], _ => rfl
  have D4 : DefF K mg "_law_led" s__law_led ["_law_found", "_law_rows"] := DefF.mk' X G a4 l4 c4 k4 fun _ _ _ _ _ _ us hl => match us, hl with | [_, _], _ => rfl
  have D5 : DefF K mg "_law_names" s__law_names ["_law_cell", "_law_many"] := DefF.mk' X G a5 l5 c5 k5 fun _ _ _ _ _ _ us hl => match us, hl with | [_, _], _ => rfl
  have D6 : DefF K mg "_law_value_by" s__law_value_by ["_law_number"] := DefF.mk' X G a6 l6 c6 k6 fun _ _ _ _ _ _ us hl => match us, hl with | [_], _ => rfl
  have D7 : DefF K mg "_law_atom" s__law_atom ["_law_number", "_law_names_here"] := DefF.mk' X G a7 l7 c7 k7 fun _ _ _ _ _ _ us hl => match us, hl with | [_, _], _ => rfl
  have D8 : DefF K mg "_law_stream" s__law_stream ["_law_cell", "_law_many"] := DefF.mk' X G a8 l8 c8 k8 fun _ _ _ _ _ _ us hl => match us, hl with | [_, _], _ => rfl
  have D9 : DefF K mg "_law_row" s__law_row ["_law_cell", "_law_names_here", "_law_many"] := DefF.mk' X G a9 l9 c9 k9 fun _ _ _ _ _ _ us hl => match us, hl with | [_, _, _], _ => rfl
  have D10 : DefF K mg "number_of" s_number_of ["sign", "one", "other"] := DefF.mk' X G a10 l10 c10 k10 fun _ _ _ _ _ _ us hl => match us, hl with | [_, _, _], _ => rfl
  have D11 : DefF K mg "value" s_value ["sign", "one", "other"] := DefF.mk' X G a11 l11 c11 k11 fun _ _ _ _ _ _ us hl => match us, hl with | [_, _, _], _ => rfl
  have D12 : DefF K mg "ways_of" s_ways_of ["number", "row"] := DefF.mk' X G a12 l12 c12 k12 fun _ _ _ _ _ _ us hl => match us, hl with | [_, _], _ => rfl
  have D13 : DefF K mg "ways" s_ways ["program"] := DefF.mk' X G a13 l13 c13 k13 fun _ _ _ _ _ _ us hl => match us, hl with | [_], _ => rfl
  refine ⟨PySem.W.fnOf "law" "law" (defArgs s_law) (defBody s_law) (defScope s_law) .none kV14 dc14 pm14 an14 cd14 ct14, fun s v => .of_eq rfl, fun base _ _ => ?_⟩
  have h__law_cell_at := ok__law_cell_at (P := l.prog) (w := w) (base := base) T D0 
  have h__law_bit := ok__law_bit (P := l.prog) (w := w) (base := base) T D1 
  have h__law_fits := ok__law_fits (P := l.prog) (w := w) (base := base) T D2 h__law_bit
  have h__law_whole := ok__law_whole (P := l.prog) (w := w) (base := base) T D3 
  have h__law_led := ok__law_led (P := l.prog) (w := w) (base := base) T D4 h__law_whole
  have h__law_names := ok__law_names (P := l.prog) (w := w) (base := base) T D5 
  have h__law_value_by := ok__law_value_by (P := l.prog) (w := w) (base := base) T D6 
  have h__law_atom := ok__law_atom (P := l.prog) (w := w) (base := base) T D7 h__law_value_by
  have h__law_stream := ok__law_stream (P := l.prog) (w := w) (base := base) T D8 
  have h__law_row := ok__law_row (P := l.prog) (w := w) (base := base) T D9 h__law_atom h__law_stream
  have h_number_of := ok_number_of (P := l.prog) (w := w) (base := base) T D10 
  have h_value := ok_value (P := l.prog) (w := w) (base := base) T D11 h_number_of
  have h_ways_of := ok_ways_of (P := l.prog) (w := w) (base := base) T D12 
  have h_ways := ok_ways (P := l.prog) (w := w) (base := base) T D13 h_ways_of
  exact (ok_law T (fun_mk (st := s_law) l14 c14 k14) h__law_cell_at h__law_fits h__law_led h__law_names h__law_row h__law_value_by h__law_whole h_value h_ways).imp fun vs H Q E z => law_sp z
theorem walk {l : PySem.W.OpenLaw} {q : Program} {loose : List Str} {XP : (Str → Option Value) → Heap → Prop} {YP : World → Heap → Prop} {d : DefRec} {K : Params → PySem.W.Frag} (hn : l.most = some 63) (hdf : d.params.defaults = [])
    (hY : ∀ (w : World) (h : Heap), YP w h → (K w.params).In h)
    (F : ∀ (w : World) (mg : Str → Option Value) (fa : Addr) (h : Heap), (K w.params).In h → h.Ns mainGlobals mg → mg d.name = some (.ref fa) →
      ∃ fd : FuncData, (∀ (s : Shared) (u : Value), BindsTo s fd ⟨[u], []⟩ [("_law_script", u)]) ∧ ∀ base : Heap, (K w.params).In base → base.Ns mainGlobals mg → FnOk l.prog w (K w.params) mg base CX0 4 fa fd ["_law_script"] (sp_law (K w.params))) :
    PySem.W.WalkO q loose XP YP l.row.toRowW d [] (fun f vs => PySem.call f vs) :=
  L2.walk_of (n := 63) (k := 4) (x := "_law_script") (CX := fun _ => CX0) (sp := fun w => sp_law (K w.params)) hn (by decide) hdf ⟨rfl, by decide, by decide⟩ hY F (fun _ _ a ns hl hO hS => ⟨a, ns, rfl, hS, hl, hO, fun _ => rfl⟩) fun _ _ _ _ _ z => z
end P21
open PySem PySem.W PyProof.Rows
set_option maxRecDepth 100000 in
set_option maxHeartbeats 0 in
theorem PySem.Challenge.cw_dimhouse_k21_ways_and_values_holds : PySem.Challenge.rw_dimhouse_k21_ways_and_values.Holds := by
  w_on; o_law; k_head; (case hw => w_witness2)
  k_fill
  refine P21.walk (l := PySem.Challenge.rw_dimhouse_k21_ways_and_values) rfl rfl (fun w h Y => PySem.W.kIn_of Y) ?F
  case F =>
    intro w mg fa h KX G hmg
    refine' P21.all_mk KX G hmg ?a0 ?l0 ?c0 ?k0 ?a1 ?l1 ?c1 ?k1 ?a2 ?l2 ?c2 ?k2 ?a3 ?l3 ?c3 ?k3 ?a4 ?l4 ?c4 ?k4 ?a5 ?l5 ?c5 ?k5 ?a6 ?l6 ?c6 ?k6 ?a7 ?l7 ?c7 ?k7 ?a8 ?l8 ?c8 ?k8 ?a9 ?l9 ?c9 ?k9 ?a10 ?l10 ?c10 ?k10 ?a11 ?l11 ?c11 ?k11 ?a12 ?l12 ?c12 ?k12 ?a13 ?l13 ?c13 ?k13 ?a14 ?l14 ?c14 ?k14 ?z_bool ?z_enumerate ?z_int ?z_isinstance ?z_len ?z_list ?z_range ?z_tuple ?b_WIDE ?r_WIDE ?x_bool_NoneType ?x_bool_bool ?x_bool_int ?x_bool_str ?x_bool_tuple ?x_bool_list ?x_bool_dict ?x_int_NoneType ?x_int_bool ?x_int_int ?x_int_str ?x_int_tuple ?x_int_list ?x_int_dict ?x_list_NoneType ?x_list_bool ?x_list_int ?x_list_str ?x_list_tuple ?x_list_list ?x_list_dict ?x_tuple_NoneType ?x_tuple_bool ?x_tuple_int ?x_tuple_str ?x_tuple_tuple ?x_tuple_list ?x_tuple_dict
    (case a0 => k_is)
    (case l0 => k_is)
    (case c0 => k_is)
    (case k0 => k_is)
    (case a1 => k_is)
    (case l1 => k_is)
    (case c1 => k_is)
    (case k1 => k_is)
    (case a2 => k_is)
    (case l2 => k_is)
    (case c2 => k_is)
    (case k2 => k_is)
    (case a3 => k_is)
    (case l3 => k_is)
    (case c3 => k_is)
    (case k3 => k_is)
    (case a4 => k_is)
    (case l4 => k_is)
    (case c4 => k_is)
    (case k4 => k_is)
    (case a5 => k_is)
    (case l5 => k_is)
    (case c5 => k_is)
    (case k5 => k_is)
    (case a6 => k_is)
    (case l6 => k_is)
    (case c6 => k_is)
    (case k6 => k_is)
    (case a7 => k_is)
    (case l7 => k_is)
    (case c7 => k_is)
    (case k7 => k_is)
    (case a8 => k_is)
    (case l8 => k_is)
    (case c8 => k_is)
    (case k8 => k_is)
    (case a9 => k_is)
    (case l9 => k_is)
    (case c9 => k_is)
    (case k9 => k_is)
    (case a10 => k_is)
    (case l10 => k_is)
    (case c10 => k_is)
    (case k10 => k_is)
    (case a11 => k_is)
    (case l11 => k_is)
    (case c11 => k_is)
    (case k11 => k_is)
    (case a12 => k_is)
    (case l12 => k_is)
    (case c12 => k_is)
    (case k12 => k_is)
    (case a13 => k_is)
    (case l13 => k_is)
    (case c13 => k_is)
    (case k13 => k_is)
    (case a14 => k_is)
    (case l14 => k_is)
    (case c14 => k_is)
    (case k14 => k_is)
    (case z_bool => k_is)
    (case z_enumerate => k_is)
    (case z_int => k_is)
    (case z_isinstance => k_is)
    (case z_len => k_is)
    (case z_list => k_is)
    (case z_range => k_is)
    (case z_tuple => k_is)
    (case b_WIDE => k_is)
    (case r_WIDE => exact ⟨_, rfl⟩)
    (case x_bool_NoneType => first | k_is | rfl)
    (case x_bool_bool => first | k_is | rfl)
    (case x_bool_int => first | k_is | rfl)
    (case x_bool_str => first | k_is | rfl)
    (case x_bool_tuple => first | k_is | rfl)
    (case x_bool_list => first | k_is | rfl)
    (case x_bool_dict => first | k_is | rfl)
    (case x_int_NoneType => first | k_is | rfl)
    (case x_int_bool => first | k_is | rfl)
    (case x_int_int => first | k_is | rfl)
    (case x_int_str => first | k_is | rfl)
    (case x_int_tuple => first | k_is | rfl)
    (case x_int_list => first | k_is | rfl)
    (case x_int_dict => first | k_is | rfl)
    (case x_list_NoneType => first | k_is | rfl)
    (case x_list_bool => first | k_is | rfl)
    (case x_list_int => first | k_is | rfl)
    (case x_list_str => first | k_is | rfl)
    (case x_list_tuple => first | k_is | rfl)
    (case x_list_list => first | k_is | rfl)
    (case x_list_dict => first | k_is | rfl)
    (case x_tuple_NoneType => first | k_is | rfl)
    (case x_tuple_bool => first | k_is | rfl)
    (case x_tuple_int => first | k_is | rfl)
    (case x_tuple_str => first | k_is | rfl)
    (case x_tuple_tuple => first | k_is | rfl)
    (case x_tuple_list => first | k_is | rfl)
    (case x_tuple_dict => first | k_is | rfl)
