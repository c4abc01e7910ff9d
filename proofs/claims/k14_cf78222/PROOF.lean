import PyProof.Rows.All
import KE.KNest
import Wide.All
import OpenK.AllK
import Wide.FinOn
import Lean
import PyProof.EqAt
import PyProof.EqKinds
import PyProof.TupleCall
import PySem.Challenge.RW_dimhouse_k14_programs_in_order
set_option Elab.async false
set_option linter.all false
namespace P14
open PySem PySem.W PyProof.Rows
section
local macro_rules | `(tactic| o_head $_) => `(tactic| exact (by assumption : ∀ p : Prop, p) _)
set_option maxRecDepth 100000 in
set_option maxHeartbeats 0 in
theorem pre (h0 : ∀ p : Prop, p) : PySem.Challenge.rw_dimhouse_k14_programs_in_order.row.Holds := by
  k_head
end
def seen : Program := { PySem.Challenge.pw_dimhouse_k14_programs_in_order with main := { PySem.Challenge.pw_dimhouse_k14_programs_in_order.main with body := [1, 2, 3, 4, 5, 6, 8, 9, 11, 12, 13, 14, 15, 16, 18, 19, 20, 21, 22, 23, 24, 25, 26, 27, 28].filterMap fun i => PySem.Challenge.pw_dimhouse_k14_programs_in_order.main.body[i]? } }
noncomputable abbrev hook : Hook := kHook P14.pre.heap_1 [2, 3, 15, 22, 23, 24, 25, 28, 35, 37, 38, 40, 41, 42, 43, 44, 47, 54, 56, 57, 59, 60, 61, 62, 63, 66, 73, 75, 76, 78, 79, 80, 81, 82, 85, 92, 94, 95, 97, 98, 99, 100, 101, 104, 111, 113, 114, 116, 117, 118, 119, 120, 123, 125, 126, 128, 129, 130, 133, 134, 135, 136, 137, 139, 140, 142, 143, 144, 147, 148, 149, 152, 153, 154, 156, 157, 159, 160, 161, 163, 164, 166, 167, 168, 170, 171, 173, 174, 175, 178, 179, 180, 182, 183, 185, 186, 187, 189, 190, 192, 193, 194, 196, 197, 199, 200, 201, 203, 204, 206, 207, 208, 210, 211, 213, 214, 215, 217, 218, 220, 221, 222, 224, 225, 227, 228, 229, 232, 233] (fun _ => by kernel_rfl)
theorem map_two {α β γ : Type} {x : Option α} {f : α → β} {g : α → γ} {a : β} {b : γ} (h : x.map f = some a) (h' : x.map g = some b) : x.map (fun s => (f s, g s)) = some (a, b) := by
  cases x with
  | none => cases h
  | some s => simp only [Option.map_some, Option.some.injEq] at h h' ⊢; rw [h, h']
set_option maxRecDepth 100000 in
set_option maxHeartbeats 0 in
theorem run_false (w : World) : (fencedOpening treeTable PySem.Challenge.rw_dimhouse_k14_programs_in_order.row.prog w 4214).map (fun s₀ => (topFrom treeTable PySem.Challenge.rw_dimhouse_k14_programs_in_order.row.prog (w.withFollow "special-get-raises" false) 4214 s₀).map (fun s => (openSeen seen [PySem.Str.ofString "CELL_PLACES", PySem.Str.ofString "SHELF_PLACES"] (importedModules PySem.Challenge.rw_dimhouse_k14_programs_in_order.row.prog.main.body) (fun s => xlAt seen [] s && recOk (RowW.records (OpenRow.toRowW PySem.Challenge.rw_dimhouse_k14_programs_in_order.row)) s) true s, Hook.obs hook s))) = some (some (openGood seen [PySem.Str.ofString "CELL_PLACES", PySem.Str.ofString "SHELF_PLACES"], Hook.val hook (w.withFollow "special-get-raises" false))) := by
  kernel_rfl
set_option maxRecDepth 100000 in
set_option maxHeartbeats 0 in
theorem run_true (w : World) : (fencedOpening treeTable PySem.Challenge.rw_dimhouse_k14_programs_in_order.row.prog w 4214).map (fun s₀ => (topFrom treeTable PySem.Challenge.rw_dimhouse_k14_programs_in_order.row.prog (w.withFollow "special-get-raises" true) 4214 s₀).map (fun s => (openSeen seen [PySem.Str.ofString "CELL_PLACES", PySem.Str.ofString "SHELF_PLACES"] (importedModules PySem.Challenge.rw_dimhouse_k14_programs_in_order.row.prog.main.body) (fun s => xlAt seen [] s && recOk (RowW.records (OpenRow.toRowW PySem.Challenge.rw_dimhouse_k14_programs_in_order.row)) s) true s, Hook.obs hook s))) = some (some (openGood seen [PySem.Str.ofString "CELL_PLACES", PySem.Str.ofString "SHELF_PLACES"], Hook.val hook (w.withFollow "special-get-raises" true))) := by
  kernel_rfl
end P14
set_option maxRecDepth 100000
namespace L2
open PySem PySem.Spec PyProof.Rows

noncomputable abbrev Key := Sum Int Str
noncomputable def keyIs : Key → Value → Bool
  | .inl k, v => Value.isInt k v
  | .inr x, v => Value.isStrOf x v
noncomputable def keyH (w : World) : Key → Int
  | .inl k => hashInt k
  | .inr x => hashStr w x
theorem keyIs_shape : ∀ {k : Key} {v : Value}, keyIs k v = true → (∃ i t, k = Sum.inl i ∧ v = Value.int i t) ∨ (∃ x t, k = Sum.inr x ∧ v = Value.str x t)
  | .inl i, v, h => by
    obtain ⟨t, e⟩ := Value.isInt_shape (k := i) (v := v) h
    exact .inl ⟨i, t, rfl, e⟩
  | .inr x, v, h => by
    obtain ⟨t, e⟩ := Value.isStrOf_shape (x := x) (v := v) h
    exact .inr ⟨x, t, rfl, e⟩
theorem keyIs_int (i : Int) (t : Tok) : keyIs (.inl i) (.int i t) = true := by simp [keyIs, Value.isInt]
theorem keyIs_str (x : Str) (t : Tok) : keyIs (.inr x) (.str x t) = true := by simp [keyIs, Value.isStrOf]
theorem key_ll (a b : Int) : decide ((Sum.inl a : Key) = Sum.inl b) = (a == b) := by
  by_cases e : a = b
  · subst e; simp
  · have h : ¬ (Sum.inl a : Key) = Sum.inl b := fun q => e (Sum.inl.inj q)
    rw [decide_eq_false h]
    exact (beq_eq_false_iff_ne.mpr e).symm
theorem key_rr (a b : Str) : decide ((Sum.inr a : Key) = Sum.inr b) = decide (a = b) := by
  by_cases e : a = b
  · subst e; simp
  · have h : ¬ (Sum.inr a : Key) = Sum.inr b := fun q => e (Sum.inr.inj q)
    rw [decide_eq_false h, decide_eq_false e]
theorem key_lr (a : Int) (b : Str) : decide ((Sum.inl a : Key) = Sum.inr b) = false := decide_eq_false (fun q => nomatch q)
theorem key_rl (a : Str) (b : Int) : decide ((Sum.inr a : Key) = Sum.inl b) = false := decide_eq_false (fun q => nomatch q)

noncomputable def mixKind (prog : Program) (w : World) : PySem.KeyKind prog w Key where
  is := keyIs
  hash := keyH w
  inj := fun v a b ha hb => by
    rcases keyIs_shape ha with ⟨i, t, rfl, rfl⟩ | ⟨x, t, rfl, rfl⟩
    · rcases keyIs_shape hb with ⟨j, u, rfl, e⟩ | ⟨y, u, rfl, e⟩
      · injection e with e1 _; rw [e1]
      · exact nomatch e
    · rcases keyIs_shape hb with ⟨j, u, rfl, e⟩ | ⟨y, u, rfl, e⟩
      · exact nomatch e
      · injection e with e1 _; rw [e1]
  byValue := fun k v h => by
    rcases keyIs_shape h with ⟨i, t, rfl, rfl⟩ | ⟨x, t, rfl, rfl⟩ <;> rfl
  pyHash := fun hv h => by
    rcases keyIs_shape hv with ⟨i, t, rfl, rfl⟩ | ⟨x, t, rfl, rfl⟩
    · exact wpAny_pyHash_int h
    · exact wpAny_pyHash_str h
  eqBool := fun hu hv h => by
    rcases keyIs_shape hu with ⟨i, t, rfl, rfl⟩ | ⟨x, t, rfl, rfl⟩
    · rcases keyIs_shape hv with ⟨j, u, rfl, rfl⟩ | ⟨y, u, rfl, rfl⟩
      · rw [key_ll] at h; exact wpAny_eqBool_int h
      · rw [key_lr] at h; exact SeqAt.EqAt.int_str i t y u _ _ _ _ h
    · rcases keyIs_shape hv with ⟨j, u, rfl, rfl⟩ | ⟨y, u, rfl, rfl⟩
      · rw [key_rl] at h; exact SeqAt.EqAt.str_int x t j u _ _ _ _ h
      · rw [key_rr] at h; exact wpAny_eqBool_str h
  «strs» := fun k x t v h => by
    rcases keyIs_shape h with ⟨i, u, rfl, e⟩ | ⟨y, u, rfl, e⟩
    · exact nomatch e
    · injection e with e1 _
      subst e1
      cases v <;> rfl

theorem mixKind_int (prog : Program) (w : World) (i : Int) (t : Tok) : (mixKind prog w).is (.inl i) (.int i t) = true := keyIs_int i t
theorem mixKind_str (prog : Program) (w : World) (x : Str) (t : Tok) : (mixKind prog w).is (.inr x) (.str x t) = true := keyIs_str x t
end L2

namespace L2
open PySem PySem.Spec PyProof.Rows

inductive V where
  | non | bl (b : Bool) | int (i : Int) | str (x : Str) | byt (b : Array UInt8) | flt (b : UInt64) | ref (a : Addr) | ty (n : String)
  deriving DecidableEq

noncomputable def RelV : V → Value → Prop
  | .non, u => u = Value.none
  | .bl b, u => u = Value.bool b
  | .int i, u => ∃ t, u = Value.int i t
  | .str x, u => ∃ t, u = Value.str x t
  | .byt b, u => ∃ t, u = Value.bytes b t
  | .flt b, u => ∃ t, u = Value.float b t
  | .ref a, u => u = Value.ref a
  | .ty n, u => u = Value.type n

noncomputable abbrev Vals : List V → List Value → Prop := Paired RelV
theorem Vals.length {xs : List V} {us : List Value} (r : Vals xs us) : xs.length = us.length := Paired.length r
theorem Vals.get : ∀ {xs : List V} {us : List Value} {i : Nat} {x : V}, Vals xs us → xs[i]? = some x → ∃ u, us[i]? = some u ∧ RelV x u
  | _, _, _, _, .nil, e => by simp at e
  | _, _, 0, _, .cons r _, e => by simp at e; subst e; exact ⟨_, rfl, r⟩
  | _, _, i + 1, x, .cons _ t, e => by
    obtain ⟨u, h1, h2⟩ := Vals.get (i := i) (x := x) t (by simpa using e)
    exact ⟨u, by simpa using h1, h2⟩
theorem Vals.set {x : V} {u : Value} (r : RelV x u) : ∀ {xs : List V} {us : List Value} (i : Nat), Vals xs us → Vals (xs.set i x) (us.set i u)
  | _, _, _, .nil => .nil
  | _, _, 0, .cons _ t => .cons r t
  | _, _, i + 1, .cons q t => .cons q (Vals.set r i t)
theorem Vals.append : ∀ {xs ys : List V} {us ws : List Value}, Vals xs us → Vals ys ws → Vals (xs ++ ys) (us ++ ws)
  | _, _, _, _, .nil, s => s
  | _, _, _, _, .cons r t, s => .cons r (Vals.append t s)
theorem Vals.take : ∀ {xs : List V} {us : List Value} (n : Nat), Vals xs us → Vals (xs.take n) (us.take n)
  | _, _, 0, _ => .nil
  | _, _, _ + 1, .nil => .nil
  | _, _, n + 1, .cons r t => .cons r (Vals.take n t)
theorem Vals.drop : ∀ {xs : List V} {us : List Value} (n : Nat), Vals xs us → Vals (xs.drop n) (us.drop n)
  | _, _, 0, r => r
  | _, _, _ + 1, .nil => .nil
  | _, _, n + 1, .cons _ t => Vals.drop n t
noncomputable def RelO : Option V → Option Value → Prop
  | some v, some u => RelV v u
  | none, none => True
  | _, _ => False
noncomputable def KV {κ : Type} : List (κ × V) → List (κ × Value) → Prop := Paired fun (p : κ × V) (q : κ × Value) => p.1 = q.1 ∧ RelV p.2 q.2

noncomputable def kV : Key → V
  | .inl i => .int i
  | .inr x => .str x

inductive HO where
  | lst (xs : List V)
  | tup (xs : List V)
  | dK (kvs : List (Key × V)) | dT (kvs : List (List Key × V))
  | set (S : Int → Bool) (n : Nat)
  | ins (C dx : Addr) (fs : List (Str × V))
  | own (x : Addr)
  | xd (fs : List (Str × V))
  | met (f x : Addr)
  | rng (lo hi : Int)
  | frz (o : Obj) (u : HO)
  | tbl (ps : Array Value)
  | code (q : Str)
  | ctab (qs : List ((Nat × Nat) × Str))
  | ext (φ : Heap → Prop)

noncomputable abbrev Hp := Addr → Option HO
noncomputable def upd (H : Hp) (a : Addr) (o : HO) : Hp := fun b => if b = a then some o else H b
theorem upd_same {H : Hp} {a : Addr} {o : HO} : upd H a o a = some o := by unfold upd; rw [if_pos rfl]
theorem upd_ne {H : Hp} {a b : Addr} {o : HO} (h : b ≠ a) : upd H a o b = H b := by unfold upd; rw [if_neg h]
theorem upd_upd {H : Hp} {a : Addr} {o u : HO} : upd (upd H a o) a u = upd H a u := by
  funext b; unfold upd; split <;> rfl
theorem ne_of {H : Hp} {a b : Addr} {o u : HO} (h : H a = some o) (h' : H b = some u) (d : o ≠ u) : a ≠ b := by
  intro e; subst e; rw [h] at h'; exact d (Option.some.inj h')
theorem ne_of_none {H : Hp} {a b : Addr} {o : HO} (h : H a = some o) (h' : H b = none) : a ≠ b := by
  intro e; subst e; rw [h] at h'; cases h'

section
variable (P : Program) (w : World)
noncomputable def ObjOk (H : Hp) (h : Heap) (a : Addr) : HO → Prop
  | .lst xs => xs.length ≤ sizeLine ∧ ∃ (its : List Value) (n : Nat), Vals xs its ∧ h.get? a = some { cls := .type "list", data := .seq its.toArray n }
  | .tup xs => xs.length ≤ sizeLine ∧ ∃ its : List Value, Vals xs its ∧ IsTup h a its.toArray
  | .dK kvs => kvs.length ≤ sizeLine ∧ (a == sysModules) = false ∧ ∃ vs, KV kvs vs ∧ h.DictOf (mixKind P w) a vs
  | .dT kvs => kvs.length ≤ sizeLine ∧ (a == sysModules) = false ∧ ∃ xs : List (List Key × Addr × Value),
      Paired (fun (p : List Key × V) (q : List Key × Addr × Value) => p.1 = q.1 ∧ H q.2.1 = some (.tup (p.1.map kV)) ∧ RelV p.2 q.2.2) kvs xs ∧
      ∃ o es ep, h.get? a = some o ∧ o.ExactDict ∧ o.data = .dict es ep ∧ es.toList = xs.map (entryOfKey (tupleKind (mixKind P w))) ∧ (xs.map (·.1)).Nodup
  | .set S n => h.SetOf (intKind P w) a S n
  | .ins C dx fs => H dx = some (.own a) ∧ fs.length ≤ 1000 ∧ dx ≠ a ∧ h.get? a = some (PySem.W.instObj C dx) ∧
      ∃ mA, h.Ns1 dx mA ∧ (∀ f, RelO (fs.lookup f) (mA f)) ∧ PySem.Within mA (fs.map (·.1))
  | .own _ => ∃ o, h.get? a = some o
  | .xd fs => ∃ mA, h.Ns1 a mA ∧ ∀ f, RelO (fs.lookup f) (mA f)
  | .rng lo hi => ∃ t u v, h.get? a = some { cls := .type "range", data := .fields #[.int lo t, .int hi u, .int 1 v] }
  | .frz o u => h.get? a = some o ∧ ObjOk H h a u
  | .tbl ps => h.get? a = some { cls := .none, data := .fields ps }
  | .code q => h.CodeRec (.ref a) q
  | .ctab qs => ∃ ps : Array Value, h.get? a = some { cls := .none, data := .fields ps } ∧ TriplesOk ps.toList ∧ ∀ (pos : Pos) (q : Str) (v : Value), ((pos.line, pos.col), q) ∈ qs → codeAmong pos ps.toList = some v → ∃ c o, v = .ref c ∧ H c = some (.frz o (.code q))
  | .met f x => h.get? a = some (PySem.W.methodObj (.ref f) (.ref x))
  | .ext φ => φ h ∧ (∃ o, h.get? a = some o) ∧ ∀ h1 h2 : Heap, φ h1 → (∀ o, h1.get? a = some o → h2.get? a = some o) → φ h2
noncomputable def HOk (H : Hp) (h : Heap) : Prop := ∀ a o, H a = some o → ObjOk P w H h a o
end

section
variable {P : Program} {w : World} {H H' : Hp} {h h' : Heap} {a : Addr} {o : HO}
theorem ObjOk.lt (x : ObjOk P w H h a o) : a < h.objs.size := by
  cases o with
  | lst xs => obtain ⟨_, _, _, _, e⟩ := x; exact Heap.lt_size e
  | tup xs => obtain ⟨_, _, _, p⟩ := x; exact p.lt
  | dK kvs => obtain ⟨_, _, _, _, o, _, _, e, _⟩ := x; exact Heap.lt_size e
  | dT kvs => obtain ⟨_, _, _, _, o, _, _, e, _⟩ := x; exact Heap.lt_size e
  | set S n => obtain ⟨o, _, _, _, e, _⟩ := x; exact Heap.lt_size e
  | ins C dx fs => obtain ⟨_, _, _, e, _⟩ := x; exact Heap.lt_size e
  | own y => obtain ⟨_, e⟩ := x; exact Heap.lt_size e
  | xd fs => obtain ⟨_, ⟨_, _, _, e, _⟩, _⟩ := x; exact Heap.lt_size e
  | rng lo hi => obtain ⟨_, _, _, e⟩ := x; exact Heap.lt_size e
  | frz ob u => obtain ⟨e, _⟩ := x; exact Heap.lt_size e
  | tbl ps => exact Heap.lt_size (show h.get? a = some _ from x)
  | code q => obtain ⟨c, o, vs, t, e, g, _⟩ := x; cases e; exact Heap.lt_size g
  | ctab qs => obtain ⟨ps, g, _⟩ := x; exact Heap.lt_size g
  | met f y => exact Heap.lt_size (show h.get? a = some _ from x)
  | ext φ => obtain ⟨_, ⟨_, e⟩, _⟩ := x; exact Heap.lt_size e
theorem Paired.mapP {α β : Type} {F G : α → β → Prop} : ∀ {l₁ : List α} {l₂ : List β}, Paired F l₁ l₂ → (∀ a b, F a b → G a b) → Paired G l₁ l₂
  | _, _, .nil, _ => .nil
  | _, _, .cons r t, f => .cons (f _ _ r) (Paired.mapP t f)
theorem ObjOk.stay (x : ObjOk P w H h a o) (k : ∀ b u, (b = a ∨ H b = some (.own a)) → h.get? b = some u → h'.get? b = some u)
    (ho : ∀ b, H b = some (.own a) → H' b = some (.own a)) (ht : ∀ b xs, H b = some (.tup xs) → H' b = some (.tup xs)) (hcd : ∀ b ob q, H b = some (.frz ob (.code q)) → H' b = some (.frz ob (.code q))) : ObjOk P w H' h' a o := by
  induction o with
  | lst xs => obtain ⟨z, its, n, r, e⟩ := x; exact ⟨z, its, n, r, k _ _ (.inl rfl) e⟩
  | tup xs => obtain ⟨z, its, r, ob, e, c⟩ := x; exact ⟨z, its, r, ob, k _ _ (.inl rfl) e, c⟩
  | dK kvs => obtain ⟨z, y, vs, r, ob, es, ep, e, c⟩ := x; exact ⟨z, y, vs, r, ob, es, ep, k _ _ (.inl rfl) e, c⟩
  | dT kvs =>
    obtain ⟨z, y, xs, r, ob, es, ep, e, c⟩ := x
    exact ⟨z, y, xs, Paired.mapP r fun p q z => ⟨z.1, ht _ _ z.2.1, z.2.2⟩, ob, es, ep, k _ _ (.inl rfl) e, c⟩
  | set S n => obtain ⟨ob, es, ep, t, e, c⟩ := x; exact ⟨ob, es, ep, t, k _ _ (.inl rfl) e, c⟩
  | ins C dx fs =>
    obtain ⟨d, z, ne, e, mA, ⟨od, es, ep, e2, c⟩, r⟩ := x
    exact ⟨ho _ d, z, ne, k _ _ (.inl rfl) e, mA, ⟨od, es, ep, k _ _ (.inr d) e2, c⟩, r⟩
  | own y => obtain ⟨ob, e⟩ := x; exact ⟨ob, k _ _ (.inl rfl) e⟩
  | xd fs => obtain ⟨mA, ⟨od, es, ep, e, c⟩, r⟩ := x; exact ⟨mA, ⟨od, es, ep, k _ _ (.inl rfl) e, c⟩, r⟩
  | rng lo hi => obtain ⟨t, u, v, e⟩ := x; exact ⟨t, u, v, k _ _ (.inl rfl) e⟩
  | frz ob u ih => obtain ⟨e, q⟩ := x; exact ⟨k _ _ (.inl rfl) e, ih q⟩
  | tbl ps =>
    have e : h.get? a = some { cls := .none, data := .fields ps } := x
    show h'.get? a = some { cls := .none, data := .fields ps }
    exact k a _ (.inl rfl) e
  | code q => obtain ⟨c, o, vs, t, e, g, r⟩ := x; cases e; exact ⟨a, o, vs, t, rfl, k a _ (.inl rfl) g, r⟩
  | ctab qs => obtain ⟨ps, g, r1, r2⟩ := x; exact ⟨ps, k a _ (.inl rfl) g, r1, fun pos q v h1 h2 => let ⟨c, ob, e, g⟩ := r2 pos q v h1 h2; ⟨c, ob, e, hcd c ob q g⟩⟩
  | met f y =>
    have e : h.get? a = some (PySem.W.methodObj (.ref f) (.ref y)) := x
    show h'.get? a = some (PySem.W.methodObj (.ref f) (.ref y))
    exact k a _ (.inl rfl) e
  | ext φ => obtain ⟨p, ⟨o, e⟩, st⟩ := x; exact ⟨st _ _ p fun o q => k _ _ (.inl rfl) q, ⟨o, k _ _ (.inl rfl) e⟩, st⟩
theorem HOk.lt (x : HOk P w H h) (e : H a = some o) : a < h.objs.size := (x a o e).lt
theorem HOk.fresh (x : HOk P w H h) (e : h.objs.size ≤ a) : H a = none := by
  cases q : H a with
  | none => rfl
  | some u => exact absurd (Nat.lt_of_lt_of_le (x.lt q) e) (Nat.lt_irrefl _)
theorem HOk.kept (x : HOk P w H h) (k : ∀ b u, h.get? b = some u → h'.get? b = some u) : HOk P w H h' := fun a o e =>
  (x a o e).stay (fun b u _ q => k b u q) (fun _ q => q) (fun _ _ q => q) fun _ _ _ q => q
theorem HOk.laid (x : HOk P w H h) (k : ∀ b u, h.get? b = some u → h'.get? b = some u) (hp : h.objs.size ≤ a) (new : ObjOk P w (upd H a o) h' a o) : HOk P w (upd H a o) h' := fun b u e => by
  have hn := x.fresh hp
  by_cases hb : b = a
  · subst hb; rw [upd_same] at e; cases e; exact new
  · rw [upd_ne hb] at e
    exact (x b u e).stay (fun c v _ q => k c v q) (fun c q => by rw [upd_ne (ne_of_none q hn)]; exact q) (fun c xs q => by rw [upd_ne (ne_of_none q hn)]; exact q) fun c ob xs q => by rw [upd_ne (ne_of_none q hn)]; exact q
end

noncomputable def Rd (H : Hp) (a : Addr) (u : HO) : Prop := H a = some u ∨ ∃ o, H a = some (.frz o u)
theorem Rd.of {H : Hp} {a : Addr} {u : HO} (h : H a = some u) : Rd H a u := .inl h
theorem Rd.ok {P : Program} {w : World} {H : Hp} {h : Heap} {a : Addr} {u : HO} (r : Rd H a u) (x : HOk P w H h) : ObjOk P w H h a u := by
  rcases r with r | ⟨o, r⟩
  · exact x a u r
  · obtain ⟨_, q⟩ := x a _ r
    exact q
noncomputable def Mut : Option HO → Prop
  | some (.lst _) => True
  | some (.dK _) => True
  | some (.dT _) => True
  | some (.set _ _) => True
  | some (.ins _ _ _) => True
  | some (.ext _) => True
  | _ => False
section
variable {P : Program} {w : World} {H : Hp} {h h' : Heap} {x e : Addr} {o' : HO}
theorem HOk.write (ok : HOk P w H h) (mu : Mut (H x)) (he : e = x ∨ H e = some (.own x)) (k : ∀ b u, b ≠ e → h.get? b = some u → h'.get? b = some u) (heo : ∃ u, h'.get? e = some u)
    (new : ObjOk P w (upd H x o') h' x o') : HOk P w (upd H x o') h' := fun b u q => by
  have nown : ∀ c y, H c = some (.own y) → c ≠ x := fun c y r z => by subst z; rw [r] at mu; exact mu
  have ntup : ∀ c xs, H c = some (.tup xs) → c ≠ x := fun c xs r z => by subst z; rw [r] at mu; exact mu
  have ncod : ∀ c ob xs, H c = some (.frz ob (.code xs)) → c ≠ x := fun c ob xs r z => by subst z; rw [r] at mu; exact mu
  by_cases hb : b = x
  · subst hb; rw [upd_same] at q; cases q; exact new
  · rw [upd_ne hb] at q
    by_cases hbe : b = e
    · have q' : H b = some (.own x) := by
        rcases he with z | z
        · exact absurd (hbe.trans z) hb
        · rw [hbe]; exact z
      rw [q] at q'; cases q'
      obtain ⟨v, hv⟩ := heo
      exact ⟨v, by rw [hbe]; exact hv⟩
    · refine (ok b u q).stay (fun c v hc r => k c v ?_ r) (fun c r => by rw [upd_ne (nown c b r)]; exact r) (fun c xs r => by rw [upd_ne (ntup c xs r)]; exact r) fun c ob xs r => by rw [upd_ne (ncod c ob xs r)]; exact r
      rcases hc with rfl | hc
      · exact hbe
      · rintro rfl
        rcases he with z | z
        · exact nown c b hc z
        · rw [hc] at z; cases z; exact hb rfl
end

structure Un (fs ex : List Addr) (H H' : Hp) (h h' : Heap) : Prop where
  keep : ∀ b o, h.get? b = some o → H b = none → b ∉ fs → b ∉ ex → h'.get? b = some o
  slot : ∀ b o, h.get? b = some o → H b = none → b ∈ fs → b ∉ ex → ∃ sl, h'.get? b = some { o with slots := sl }
  free : ∀ b o, h.get? b = some o → H b = none → b ∉ ex → H' b = none
  there : ∀ b o, h.get? b = some o → b ∉ ex → ∃ o', h'.get? b = some o'
  tups : ∀ b xs, H b = some (.tup xs) → H' b = some (.tup xs)
  frzs : ∀ b o u, H b = some (.frz o u) → H' b = some (.frz o u)
  tbls : ∀ b ps, H b = some (.tbl ps) → ∃ more, H' b = some (.tbl (ps ++ more))
  cts : ∀ b qs, H b = some (.ctab qs) → H' b = some (.ctab qs)
section
variable {fs fs' ex ex' : List Addr} {H H1 H2 : Hp} {h h1 h2 h' : Heap} {a x e : Addr} {o : HO}
theorem Un.any (u : Un fs ex H H1 h h1) {b : Addr} {ob : Obj} (q : h.get? b = some ob) (n : H b = none) (hx : b ∉ ex) : ∃ sl, h1.get? b = some { ob with slots := sl } := by
  by_cases hb : b ∈ fs
  · exact u.slot b ob q n hb hx
  · exact ⟨ob.slots, u.keep b ob q n hb hx⟩
theorem Un.trans (a : Un fs ex H H1 h h1) (b : Un fs ex H1 H2 h1 h2) : Un fs ex H H2 h h2 where
  keep := fun c ob q n hc hx => b.keep c ob (a.keep c ob q n hc hx) (a.free c ob q n hx) hc hx
  slot := fun c ob q n hc hx => by
    obtain ⟨sl, e1⟩ := a.slot c ob q n hc hx
    obtain ⟨sl', e2⟩ := b.slot c _ e1 (a.free c ob q n hx) hc hx
    exact ⟨sl', e2⟩
  free := fun c ob q n hx => by
    obtain ⟨o', e1⟩ := a.there c ob q hx
    exact b.free c o' e1 (a.free c ob q n hx) hx
  there := fun c ob q hx => by
    obtain ⟨o', e1⟩ := a.there c ob q hx
    exact b.there c o' e1 hx
  tups := fun c xs q => b.tups c xs (a.tups c xs q)
  frzs := fun c ob xs q => b.frzs c ob xs (a.frzs c ob xs q)
  tbls := fun c ps q => by
    obtain ⟨m1, e1⟩ := a.tbls c ps q
    obtain ⟨m2, e2⟩ := b.tbls c _ e1
    exact ⟨m1 ++ m2, by rw [e2, Array.append_assoc]⟩
  cts := fun c qs q => b.cts c qs (a.cts c qs q)
theorem Un.kept (k : ∀ b u, h.get? b = some u → h'.get? b = some u) : Un fs ex H H h h' :=
  ⟨fun b ob q _ _ _ => k b ob q, fun b ob q _ _ _ => ⟨ob.slots, k b ob q⟩, fun _ _ _ n _ => n, fun b ob q _ => ⟨ob, k b ob q⟩, fun _ _ q => q, fun _ _ _ q => q, fun _ ps q => ⟨#[], by rw [q]; simp⟩, fun _ _ q => q⟩
theorem Un.refl : Un fs ex H H h h := Un.kept fun _ _ q => q
theorem Un.laid (k : ∀ b u, h.get? b = some u → h'.get? b = some u) (hp : h.objs.size ≤ a) (hn : H a = none) : Un fs ex H (upd H a o) h h' where
  keep := fun b u q _ _ _ => k b u q
  slot := fun b u q _ _ _ => ⟨u.slots, k b u q⟩
  free := fun b u q n _ => by rw [upd_ne (Nat.ne_of_lt (Nat.lt_of_lt_of_le (Heap.lt_size q) hp))]; exact n
  there := fun b u q _ => ⟨u, k b u q⟩
  tups := fun b xs q => by rw [upd_ne (ne_of_none q hn)]; exact q
  frzs := fun b u xs q => by rw [upd_ne (ne_of_none q hn)]; exact q
  tbls := fun b ps q => ⟨#[], by rw [upd_ne (ne_of_none q hn), q]; simp⟩
  cts := fun b qs q => by rw [upd_ne (ne_of_none q hn)]; exact q
theorem Un.write (mu : Mut (H x)) (he : e = x ∨ H e = some (.own x)) (k : ∀ b u, b ≠ e → h.get? b = some u → h'.get? b = some u) (heo : ∃ u, h'.get? e = some u) : Un fs ex H (upd H x o) h h' := by
  have hx : ∀ b, H b = none → b ≠ x := fun b n z => by subst z; rw [n] at mu; exact mu
  have hb : ∀ b, H b = none → b ≠ e := fun b n z => by
    subst z
    rcases he with r | r
    · exact hx b n r
    · rw [n] at r; cases r
  have hm : ∀ b u, H b = some u → ¬ Mut (some u) → b ≠ x := fun b u q nm z => by subst z; rw [q] at mu; exact nm mu
  refine ⟨fun b u q n _ _ => k b u (hb b n) q, fun b u q n _ _ => ⟨u.slots, k b u (hb b n) q⟩, fun b u q n _ => by rw [upd_ne (hx b n)]; exact n, fun b u q _ => ?_,
    fun b xs q => by rw [upd_ne (hm b _ q fun z => z)]; exact q, fun b u xs q => by rw [upd_ne (hm b _ q fun z => z)]; exact q, fun b ps q => ⟨#[], by rw [upd_ne (hm b _ q fun z => z), q]; simp⟩, fun b xs q => by rw [upd_ne (hm b _ q fun z => z)]; exact q⟩
  by_cases hbe : b = e
  · subst hbe; exact heo
  · exact ⟨u, k b u hbe q⟩
end

noncomputable def trk (h : Heap) (H : Hp) : List Addr := (List.range h.objs.size).filter fun a => (H a).isSome
noncomputable def hidT (h : Heap) (H : Hp) : Heap := PySem.W.hideAll h (trk h H)
theorem hidT_size (h : Heap) (H : Hp) : (hidT h H).objs.size = h.objs.size := PySem.W.hideAll_size _ _
theorem hidT_get {h : Heap} {H : Hp} {b : Addr} {o : Obj} (e : h.get? b = some o) (n : H b = none) : (hidT h H).get? b = some o :=
  PySem.W.hideAll_get _ e fun hm => by
    have q : (H b).isSome = true := (List.mem_filter.mp hm).2
    rw [n] at q; simp at q
theorem of_hidT {h : Heap} {H : Hp} {b : Addr} {o : Obj} (e : (hidT h H).get? b = some o) : h.get? b = some o ∧ H b = none := by
  have e' : h.get? b = some o := PySem.W.of_hideAll (trk h H) e
  refine ⟨e', ?_⟩
  cases q : H b with
  | none => rfl
  | some x =>
    have hm : b ∈ trk h H := List.mem_filter.mpr ⟨List.mem_range.mpr (Heap.lt_size e'), by simp [q]⟩
    have z : (hidT h H).get? b = none := PySem.W.hideAll_none (trk h H) hm
    rw [z] at e; cases e

noncomputable def allNews (g h : Heap) (L : Addr) : List (Addr × Obj) := (List.range h.objs.size).filterMap fun a => if a = L ∨ (g.get? a).isSome = true then none else (h.get? a).map fun o => (a, o)
noncomputable def rest (g h : Heap) (L d : Addr) : List (Addr × Obj) := (allNews g h L).filter fun p => decide (p.1 ≠ d)
end L2

namespace L2
open PySem PySem.Spec PyProof.Rows

noncomputable def nestNames : List Str := ["way_to_reading", "spoilt"]
noncomputable def nestQ (x : Str) (ss : List Stmt) : List ((Nat × Nat) × Str) := ss.filterMap fun st => match st with
  | .FunctionDef name _ _ _ _ _ _ _ _ pos => some ((pos.line, pos.col), x ++ ".<locals>." ++ name)
  | _ => none
noncomputable def tabOne (K : PySem.W.Frag) (x : Str) : Option (Addr × List ((Nat × Nat) × Str)) := match PySem.W.tabIn K x with
  | some (_, P) => (match PySem.W.nsIn K mainGlobals x with
    | some (some (.ref f)) => (match K.lookup f with
      | some o => (match o.data with
        | .func fd => (match fd.body with
          | .stmts b => some (P, nestQ x b)
          | _ => none)
        | _ => none)
      | none => none)
    | _ => none)
  | none => none
noncomputable def tabsK (K : PySem.W.Frag) : List (Addr × List ((Nat × Nat) × Str)) := nestNames.filterMap (tabOne K)
structure Mod (K : PySem.W.Frag) (mg : Str → Option Value) (base : Heap) : Prop where
  kin : K.In base
  glob : base.Ns mainGlobals mg
  blt : ∃ mb, base.Ns builtinsNs mb ∧ ∀ x : Str, x ≠ "__name__" → mb x = bootBuiltins x
  nolimit : base.NoLimit

structure Cx where
  prog : Program
  w : World
  K : PySem.W.Frag
  mg : Str → Option Value
  base : Heap
  A : Around
  N : List Str
  s₀ : Shared
  H₀ : Hp
  env : Env
  outer : List Env
  stack : List Env
  ex : List Addr
  fn : Str → Bool
  calm : Bool
  pn : List (Addr × Obj)
  xe : Value → Shared → Prop
noncomputable def frs (l : List Env) : List Addr := l.filterMap (·.frame)
noncomputable abbrev Cx.fs (X : Cx) : List Addr := frs X.outer

noncomputable def Vis (sc : Scope) (x : Str) : Prop := sc.names.lookup x = some .local ∨ sc.names.lookup x = some .cell ∨ sc.names.lookup x = some .free
noncomputable def Loc (sc : Scope) (x : Str) : Prop := sc.names.lookup x = some .local ∨ sc.names.lookup x = some .cell
noncomputable def Look (env : Env) (h : Heap) (m : Str → Option Value) (x : Str) (u : Value) : Prop :=
  (env.kindOf x = some .local ∧ m x = some u) ∨ ((env.kindOf x = some .cell ∨ env.kindOf x = some .free) ∧ ∃ c, env.cells.lookup x = some c ∧ h.IsCell c (some u))

structure Cx.Ok (X : Cx) : Prop where
  mod : Mod X.K X.mg X.base
  kind : X.env.scope.kind = .function
  glob : X.env.globals = mainGlobals
  blt : X.env.builtins = builtinsNs
  above : X.s₀.heap.objs.size ≤ X.env.locals
  inj : ∀ x y c, X.env.cells.lookup x = some c → X.env.cells.lookup y = some c → x = y
  has : ∀ x, (X.env.kindOf x = some .cell ∨ X.env.kindOf x = some .free) → ∃ c, X.env.cells.lookup x = some c
  cab : ∀ x c, X.fn x = true → X.env.cells.lookup x = some c → X.s₀.heap.objs.size ≤ c
  hd : X.calm = true → X.A.handled = none
  frames : X.A.frames = some X.stack
  stk : X.stack = X.outer ∨ (X.stack = X.env :: X.outer ∧ X.env.frame = some X.env.locals)
  exf : ∀ b ∈ X.ex, b ≠ X.env.locals ∧ ∀ x c, X.env.cells.lookup x = some c → c ≠ b
  bs : ∀ b o, X.base.get? b = some o → X.s₀.heap.get? b = some o ∧ X.H₀ b = none
  bsz : X.base.objs.size ≤ X.s₀.heap.objs.size
  noex : ∀ b o, X.base.get? b = some o → b ∉ X.ex
  exfs : ∀ b ∈ X.ex, b ∉ X.fs
  funs : X.s₀.heap.FunFrames X.base X.outer
  frf : ∀ b ∈ X.fs, X.H₀ b = none
  tb : ∀ p ∈ tabsK X.K, X.H₀ p.1 = some (.ctab p.2)

structure Inv (X : Cx) (pins : List (Addr × Obj)) (σ : List (Option V)) (H : Hp) (s : Shared) : Prop where
  ok : X.Ok
  os : s.os = X.s₀.os
  bare : AllBare s.gens
  base : Un X.fs X.ex X.H₀ H X.s₀.heap s.heap
  loc : ∃ m, s.heap.Ns X.env.locals m ∧ ∀ (i : Nat) (x : Str) (v : V), X.N[i]? = some x → σ[i]? = some (some v) → Vis X.env.scope x → ∃ u, RelV v u ∧ Look X.env s.heap m x u
  cell : ∀ x c, X.env.cells.lookup x = some c → ∃ v, s.heap.IsCell c v
  free : H X.env.locals = none
  freeC : ∀ x c, X.env.cells.lookup x = some c → H c = none
  pin : ∀ p ∈ X.pn ++ pins, s.heap.get? p.1 = some p.2 ∧ H p.1 = none ∧ p.1 ≠ X.env.locals ∧ p.1 ∉ X.fs ∧ ∀ v, p.2.data ≠ .cell v
  hok : HOk X.prog X.w H s.heap
  len : σ.length = X.N.length

section
variable {X : Cx} {pins : List (Addr × Obj)} {σ : List (Option V)} {H H' : Hp} {s : Shared} {h' : Heap}

theorem Cx.Ok.nofr (ok : X.Ok) {b : Addr} {o : Obj} (e : X.base.get? b = some o) : b ∉ X.fs := fun hb => by
  have := (ok.funs.mem hb).1
  rw [e] at this; cases this
theorem Inv.bs (I : Inv X pins σ H s) : ∀ b o, X.base.get? b = some o → s.heap.get? b = some o ∧ H b = none := fun b o e =>
  ⟨I.base.keep b o (I.ok.bs b o e).1 (I.ok.bs b o e).2 (I.ok.nofr e) (I.ok.noex b o e), I.base.free b o (I.ok.bs b o e).1 (I.ok.bs b o e).2 (I.ok.noex b o e)⟩
theorem Inv.bk (I : Inv X pins σ H s) : ∀ b o, X.base.get? b = some o → s.heap.get? b = some o := fun b o e => (I.bs b o e).1
theorem Inv.mod (I : Inv X pins σ H s) : Mod X.K X.mg X.base := I.ok.mod
theorem Inv.kIn (I : Inv X pins σ H s) : X.K.In s.heap := I.ok.mod.kin.keeps I.bk
theorem Inv.fr (I : Inv X pins σ H s) : ∃ m, Fr X.base X.env.locals s.heap m :=
  let ⟨m, hn, _⟩ := I.loc
  ⟨m, hn, I.bk, Nat.le_trans I.ok.bsz I.ok.above⟩
theorem Inv.lt (I : Inv X pins σ H s) : X.env.locals < s.heap.objs.size := let ⟨_, hn, _⟩ := I.loc; hn.lt
theorem Inv.sz (I : Inv X pins σ H s) : X.s₀.heap.objs.size ≤ s.heap.objs.size := Nat.le_trans I.ok.above (Nat.le_of_lt I.lt)
theorem Inv.nofs (I : Inv X pins σ H s) {a : Addr} (h : s.heap.objs.size ≤ a) : a ∉ X.fs := fun hb => by
  obtain ⟨_, o, ho, _⟩ := I.ok.funs.mem hb
  exact absurd (Nat.lt_of_lt_of_le (Heap.lt_size ho) (Nat.le_trans I.sz h)) (Nat.lt_irrefl _)
theorem Inv.cne (I : Inv X pins σ H s) : ∀ x c, X.env.cells.lookup x = some c → c ≠ X.env.locals := fun x c e z => by
  obtain ⟨v, o, ho, hd⟩ := I.cell x c e
  obtain ⟨m, ⟨o', es, ep, ho', hd', _⟩, _⟩ := I.loc
  rw [z, ho'] at ho; cases ho; rw [hd'] at hd; cases hd
theorem Inv.funs (I : Inv X pins σ H s) : s.heap.FunFrames X.base X.outer := by
  have all : ∀ (l : List Env), (∀ b ∈ frs l, b ∈ X.fs) → X.s₀.heap.FunFrames X.base l → s.heap.FunFrames X.base l := by
    intro l
    induction l with
    | nil => intro _ _; trivial
    | cons env r ih =>
      intro hs hl
      obtain ⟨hk, ⟨L, o, hf, hn, ho, hd⟩, hr⟩ := hl
      have hL : L ∈ X.fs := hs L (by unfold frs; rw [List.filterMap_cons, hf]; exact List.mem_cons_self)
      obtain ⟨sl, e⟩ := I.base.slot L o ho (I.ok.frf L hL) hL fun z => I.ok.exfs L z hL
      exact ⟨hk, ⟨L, _, hf, hn, e, hd⟩, ih (fun b hb => hs b (by unfold frs; rw [List.filterMap_cons, hf]; exact List.mem_cons_of_mem _ hb)) hr⟩
  exact all X.outer (fun _ hb => hb) I.ok.funs

theorem Inv.stack (I : Inv X pins σ H s) : s.heap.FunFrames X.base X.stack := by
  rcases I.ok.stk with e | ⟨e, hf⟩
  · rw [e]; exact I.funs
  · rw [e]
    obtain ⟨m, hn, _⟩ := I.loc
    refine .cons (by rw [I.ok.kind]; decide) hf hn ?_ I.funs
    exact Heap.get?_none_of_le (Nat.le_trans I.ok.bsz I.ok.above)
theorem Inv.stkSub (I : Inv X pins σ H s) : ∀ b ∈ frs X.stack, b ∈ X.env.locals :: X.fs := fun b hb => by
  rcases I.ok.stk with e | ⟨e, hf⟩
  · rw [e] at hb; exact List.mem_cons_of_mem _ hb
  · rw [e] at hb
    unfold frs at hb
    rw [List.filterMap_cons, hf] at hb
    exact hb
theorem Inv.stkFree (I : Inv X pins σ H s) : ∀ b ∈ frs X.stack, H b = none := fun b hb => by
  rcases List.mem_cons.mp (I.stkSub b hb) with e | hb
  · rw [e]; exact I.free
  · obtain ⟨_, o, ho, _⟩ := I.ok.funs.mem hb
    exact I.base.free b o ho (I.ok.frf b hb) fun z => I.ok.exfs b z hb

theorem Inv.step {g' : Array GenState} {t' : Nat} {d' : Drawn} {ch : List Addr} (I : Inv X pins σ H s)
    (hch : ∀ b ∈ ch, (b ∈ X.ex ∨ X.s₀.heap.objs.size ≤ b) ∧ b ≠ X.env.locals ∧ (∀ x c, X.env.cells.lookup x = some c → c ≠ b) ∧ ∀ p ∈ X.pn ++ pins, p.1 ≠ b)
    (keep : ∀ b o, b ≠ X.env.locals → b ∉ X.fs → b ∉ ch → s.heap.get? b = some o → H b = none → h'.get? b = some o)
    (slot : ∀ b o, b ≠ X.env.locals → b ∈ X.fs → b ∉ ch → s.heap.get? b = some o → H b = none → ∃ sl, h'.get? b = some { o with slots := sl }) (free : ∀ b o, b ∉ ch → s.heap.get? b = some o → H b = none → H' b = none)
    (there : ∀ b o, b ∉ ch → s.heap.get? b = some o → ∃ o', h'.get? b = some o')
    (tups : ∀ b xs, H b = some (.tup xs) → H' b = some (.tup xs)) (frzs : ∀ b o u, H b = some (.frz o u) → H' b = some (.frz o u)) (tbls : ∀ b ps, H b = some (.tbl ps) → ∃ more, H' b = some (.tbl (ps ++ more))) (cts : ∀ b qs, H b = some (.ctab qs) → H' b = some (.ctab qs))
    (ns : ∀ m, s.heap.Ns X.env.locals m → h'.Ns X.env.locals m) (hok : HOk X.prog X.w H' h') (hg : AllBare g') :
    Inv X pins σ H' { s with heap := h', gens := g', drawn := d', toks := t' } := by
  have neL : ∀ b o, X.s₀.heap.get? b = some o → b ≠ X.env.locals := fun b o e => Nat.ne_of_lt (Nat.lt_of_lt_of_le (Heap.lt_size e) I.ok.above)
  have neC : ∀ b o, X.s₀.heap.get? b = some o → b ∉ X.ex → b ∉ ch := fun b o e hx hb => by
    rcases (hch b hb).1 with z | z
    · exact hx z
    · exact absurd (Nat.lt_of_lt_of_le (Heap.lt_size e) z) (Nat.lt_irrefl _)
  have cellK : ∀ x c, X.env.cells.lookup x = some c → ∀ v, s.heap.IsCell c v → h'.IsCell c v := fun x c e v ⟨o, ho, hd⟩ => by
    have nch : c ∉ ch := fun z => (hch c z).2.2.1 x c e rfl
    by_cases hc : c ∈ X.fs
    · obtain ⟨sl, q⟩ := slot c o (I.cne x c e) hc nch ho (I.freeC x c e)
      exact ⟨_, q, hd⟩
    · exact ⟨o, keep c o (I.cne x c e) hc nch ho (I.freeC x c e), hd⟩
  refine ⟨I.ok, I.os, hg, ⟨fun b o e n hb hx => ?_, fun b o e n hb hx => ?_, fun b o e n hx => ?_, fun b o e hx => ?_, fun b xs e => tups b xs (I.base.tups b xs e), fun b o xs e => frzs b o xs (I.base.frzs b o xs e), fun b ps e => ?_, fun b qs e => cts b qs (I.base.cts b qs e)⟩, ?_, fun x c e => ?_, ?_, fun x c e => ?_, fun p hp => ?_, hok, I.len⟩
  · exact keep b o (neL b o e) hb (neC b o e hx) (I.base.keep b o e n hb hx) (I.base.free b o e n hx)
  · obtain ⟨sl, e1⟩ := I.base.slot b o e n hb hx
    obtain ⟨sl', e2⟩ := slot b _ (neL b o e) hb (neC b o e hx) e1 (I.base.free b o e n hx)
    exact ⟨sl', e2⟩
  · obtain ⟨o', e1⟩ := I.base.there b o e hx
    exact free b o' (neC b o e hx) e1 (I.base.free b o e n hx)
  · obtain ⟨o', e1⟩ := I.base.there b o e hx
    exact there b o' (neC b o e hx) e1
  · obtain ⟨m1, e1⟩ := I.base.tbls b ps e
    obtain ⟨m2, e2⟩ := tbls b _ e1
    exact ⟨m1 ++ m2, by rw [e2, Array.append_assoc]⟩
  · obtain ⟨m, hn, hl⟩ := I.loc
    refine ⟨m, ns m hn, fun i x v e1 e2 e3 => ?_⟩
    obtain ⟨u, r, l⟩ := hl i x v e1 e2 e3
    refine ⟨u, r, ?_⟩
    rcases l with l | ⟨k, c, e, z⟩
    · exact .inl l
    · exact .inr ⟨k, c, e, cellK x c e _ z⟩
  · obtain ⟨v, z⟩ := I.cell x c e
    exact ⟨v, cellK x c e v z⟩
  · obtain ⟨m, ⟨o, _, _, ho, _⟩, _⟩ := I.loc
    exact free _ o (fun z => (hch _ z).2.1 rfl) ho I.free
  · obtain ⟨v, o, ho, hd⟩ := I.cell x c e
    exact free c o (fun z => (hch c z).2.2.1 x c e rfl) ho (I.freeC x c e)
  · obtain ⟨e, n, ne, nf, d⟩ := I.pin p hp
    have nch : p.1 ∉ ch := fun z => (hch p.1 z).2.2.2 p hp rfl
    exact ⟨keep p.1 p.2 ne nf nch e n, free p.1 p.2 nch e n, ne, nf, d⟩
theorem Inv.un {t' : Nat} (I : Inv X pins σ H s) (u : Un X.fs [] H H' s.heap h') (hok : HOk X.prog X.w H' h') : Inv X pins σ H' { s with heap := h', toks := t' } := by
  obtain ⟨m, ⟨o, es, ep, ho, r⟩, _⟩ := id I.loc
  obtain ⟨sl, hL⟩ := u.any ho I.free (by simp)
  exact I.step (g' := s.gens) (d' := s.drawn) (ch := []) (fun _ z => nomatch z) (fun b o _ hb _ e n => u.keep b o e n hb (by simp)) (fun b o _ hb _ e n => u.slot b o e n hb (by simp)) (fun b o _ e n => u.free b o e n (by simp)) (fun b o _ e => u.there b o e (by simp)) u.tups u.frzs u.tbls u.cts (fun m' hm => by
    obtain ⟨o', es', ep', ho', r'⟩ := hm
    rw [ho] at ho'; cases ho'
    exact ⟨_, es', ep', hL, r'⟩) hok I.bare
theorem Inv.call {g' : Array GenState} {t' : Nat} {d' : Drawn} {ch : List Addr} (I : Inv X pins σ H s) (u : Un (frs X.stack) ch H H' s.heap h') (hok : HOk X.prog X.w H' h') (hg : AllBare g')
    (hch : ∀ b ∈ ch, (b ∈ X.ex ∨ X.s₀.heap.objs.size ≤ b) ∧ b ≠ X.env.locals ∧ (∀ x c, X.env.cells.lookup x = some c → c ≠ b) ∧ ∀ p ∈ X.pn ++ pins, p.1 ≠ b) :
    Inv X pins σ H' { s with heap := h', gens := g', drawn := d', toks := t' } := by
  obtain ⟨m, ⟨o, es, ep, ho, r⟩, _⟩ := id I.loc
  obtain ⟨sl, hL⟩ := u.any ho I.free fun z => (hch _ z).2.1 rfl
  exact I.step (ch := ch) hch (fun b o hL hb hc e n => u.keep b o e n (fun z => (List.mem_cons.mp (I.stkSub b z)).elim hL hb) hc) (fun b o _ _ hc e n => u.any e n hc) (fun b o hc e n => u.free b o e n hc) (fun b o hc e => u.there b o e hc) u.tups u.frzs u.tbls u.cts (fun m' hm => by
    obtain ⟨o', es', ep', ho', r'⟩ := hm
    rw [ho] at ho'; cases ho'
    exact ⟨_, es', ep', hL, r'⟩) hok hg
theorem Inv.turned {t' : Nat} {it : Addr} (I : Inv X pins σ H s) (k : ∀ b o, b ≠ it → s.heap.get? b = some o → h'.get? b = some o) (hn : H it = none) (hL : it ≠ X.env.locals)
    (h1 : it ∈ X.ex ∨ X.s₀.heap.objs.size ≤ it) (h2 : ∀ x c, X.env.cells.lookup x = some c → c ≠ it) (h3 : ∀ p ∈ X.pn ++ pins, p.1 ≠ it) : Inv X pins σ H { s with heap := h', toks := t' } := by
  have nit : ∀ b u, H b = some u → b ≠ it := fun b u e z => by rw [z, hn] at e; cases e
  refine I.step (g' := s.gens) (d' := s.drawn) (ch := [it]) (fun b hb => ?_) (fun b o _ _ hc e _ => k b o (fun z => hc (by simp [z])) e) (fun b o _ _ hc e _ => ⟨o.slots, k b o (fun z => hc (by simp [z])) e⟩) (fun _ _ _ _ n => n)
    (fun b o hc e => ⟨o, k b o (fun z => hc (by simp [z])) e⟩) (fun _ _ e => e) (fun _ _ _ e => e) (fun b ps e => ⟨#[], by rw [e]; simp⟩) (fun _ _ e => e) (fun m hm => ?_) (fun b u e => ?_) I.bare
  · have e : b = it := by simpa using hb
    subst e
    exact ⟨h1, hL, h2, h3⟩
  · obtain ⟨o, es, ep, ho, r⟩ := hm
    exact ⟨o, es, ep, k _ o (Ne.symm hL) ho, r⟩
  · refine (I.hok b u e).stay (fun c v hc q => k c v ?_ q) (fun _ q => q) (fun _ _ q => q) fun _ _ _ q => q
    rcases hc with z | z
    · rw [z]; exact nit b u e
    · exact nit c _ z
theorem Inv.tok (I : Inv X pins σ H s) (t : Nat) : Inv X pins σ H { s with toks := t } := I.un (h' := s.heap) (t' := t) Un.refl I.hok
theorem Inv.kept {t' : Nat} (I : Inv X pins σ H s) (k : ∀ b u, s.heap.get? b = some u → h'.get? b = some u) : Inv X pins σ H { s with heap := h', toks := t' } := I.un (Un.kept k) (I.hok.kept k)
theorem Inv.laid {a : Addr} {o : HO} {t' : Nat} (I : Inv X pins σ H s) (k : ∀ b u, s.heap.get? b = some u → h'.get? b = some u) (hp : s.heap.objs.size ≤ a) (new : ObjOk X.prog X.w (upd H a o) h' a o) :
    Inv X pins σ (upd H a o) { s with heap := h', toks := t' } := I.un (Un.laid k hp (I.hok.fresh hp)) (I.hok.laid k hp new)
theorem Inv.write {x e : Addr} {o : HO} {t' : Nat} (I : Inv X pins σ H s) (mu : Mut (H x)) (he : e = x ∨ H e = some (.own x)) (k : ∀ b u, b ≠ e → s.heap.get? b = some u → h'.get? b = some u) (heo : ∃ u, h'.get? e = some u)
    (new : ObjOk X.prog X.w (upd H x o) h' x o) : Inv X pins σ (upd H x o) { s with heap := h', toks := t' } := I.un (Un.write mu he k heo) (I.hok.write mu he k heo new)
theorem Inv.weak {σ' : List (Option V)} (I : Inv X pins σ H s) (hl : σ'.length = σ.length) (w : ∀ (i : Nat) v, σ'[i]? = some (some v) → σ[i]? = some (some v)) : Inv X pins σ' H s :=
  ⟨I.ok, I.os, I.bare, I.base, let ⟨m, hn, hl'⟩ := I.loc; ⟨m, hn, fun i x v e1 e2 e3 => hl' i x v e1 (w i v e2) e3⟩, I.cell, I.free, I.freeC, I.pin, I.hok, hl.trans I.len⟩
theorem Inv.pins_of {pins' : List (Addr × Obj)} (I : Inv X pins σ H s) (h : ∀ p ∈ pins', s.heap.get? p.1 = some p.2 ∧ H p.1 = none ∧ p.1 ≠ X.env.locals ∧ p.1 ∉ X.fs ∧ ∀ v, p.2.data ≠ .cell v) : Inv X pins' σ H s :=
  ⟨I.ok, I.os, I.bare, I.base, I.loc, I.cell, I.free, I.freeC, fun p hp => (List.mem_append.mp hp).elim (fun z => I.pin p (List.mem_append_left _ z)) (h p), I.hok, I.len⟩

theorem nodup_ix {N : List Str} (hN : N.Nodup) {i j : Nat} {x : Str} (a : N[i]? = some x) (b : N[j]? = some x) : i = j := by
  obtain ⟨h1, e1⟩ := List.getElem?_eq_some_iff.mp a
  obtain ⟨h2, e2⟩ := List.getElem?_eq_some_iff.mp b
  exact (List.getElem_inj hN).mp (e1.trans e2.symm)

theorem store_ok2 {M : Model} {A : Around} {E : Value → Shared → Prop} {i : Nat} {x : Str} {v : V} {u : Value} {Q : Unit → Shared → Prop} (I : Inv X pins σ H s) (hN : X.N.Nodup) (hi : X.N[i]? = some x) (hx : Loc X.env.scope x) (r : RelV v u)
    (h : ∀ s', Inv X pins (σ.set i (some v)) H s' → (∃ a, Heap.SameBut a s.heap s'.heap ∧ (a = X.env.locals ∨ X.env.cells.lookup x = some a)) → Q () s') (hf : X.fn x = true ∨ X.env.scope.names.lookup x = some .local := by first | exact .inl rfl | exact .inr rfl | assumption) : wpAny M A (storeName X.env x u) Q E s := by
  obtain ⟨m, hn, hl⟩ := id I.loc
  have hcls : (X.env.scope.kind == .class || (X.env.scope.kind == .module && X.env.locals != X.env.globals)) = false := by rw [I.ok.kind]; rfl
  have hiσ : i < σ.length := by rw [I.len]; exact (List.getElem?_eq_some_iff.mp hi).1
  have cne := I.cne
  have tracked : ∀ {a : Addr} {h' : Heap}, (∃ o, s.heap.get? a = some o ∧ H a = none) → Heap.SameBut a s.heap h' → HOk X.prog X.w H h' := fun {a h'} ha hs b ob e => by
    obtain ⟨_, _, hfree⟩ := ha
    refine (I.hok b ob e).stay (fun c w' hc q => (hs.2 c ?_).trans q) (fun _ q => q) (fun _ _ q => q) fun _ _ _ q => q
    rintro rfl
    rcases hc with rfl | hc
    · rw [hfree] at e; cases e
    · rw [hfree] at hc; cases hc
  rcases hx with hk | hk
  · refine wpAny_storeName_local hk hn (fun h' hn' hs => ?_) hcls
    obtain ⟨oL, _, _, hoL, _⟩ := id hn
    refine h _ ⟨I.ok, I.os, I.bare, ⟨fun b o e n hb hx => ?_, fun b o e n hb hx => ?_, I.base.free, fun b o e hx => ?_, I.base.tups, I.base.frzs, I.base.tbls, I.base.cts⟩, ⟨_, hn', fun j y v' e1 e2 e3 => ?_⟩, fun y c e => ?_, I.free, I.freeC, fun p hp => ?_, tracked ⟨oL, hoL, I.free⟩ hs, by simpa using I.len⟩ ⟨_, hs, .inl rfl⟩
    · exact (hs.2 b (Nat.ne_of_lt (Nat.lt_of_lt_of_le (Heap.lt_size e) I.ok.above))).trans (I.base.keep b o e n hb hx)
    · obtain ⟨sl, e1⟩ := I.base.slot b o e n hb hx
      exact ⟨sl, (hs.2 b (Nat.ne_of_lt (Nat.lt_of_lt_of_le (Heap.lt_size e) I.ok.above))).trans e1⟩
    · obtain ⟨o', e1⟩ := I.base.there b o e hx
      exact ⟨o', (hs.2 b (Nat.ne_of_lt (Nat.lt_of_lt_of_le (Heap.lt_size e) I.ok.above))).trans e1⟩
    · by_cases hj : j = i
      · subst hj
        rw [hi] at e1; cases e1
        rw [List.getElem?_set_self hiσ] at e2
        cases e2
        exact ⟨u, r, .inl ⟨hk, by simp⟩⟩
      · rw [List.getElem?_set_ne (Ne.symm hj)] at e2
        obtain ⟨u', r', q⟩ := hl j y v' e1 e2 e3
        refine ⟨u', r', ?_⟩
        rcases q with ⟨k, e⟩ | ⟨k, c, e, z⟩
        · refine .inl ⟨k, ?_⟩
          have : y ≠ x := fun e => hj (nodup_ix hN e1 (e ▸ hi))
          simp [this, e]
        · exact .inr ⟨k, c, e, z.sameBut hs (cne y c e)⟩
    · obtain ⟨w', z⟩ := I.cell y c e
      exact ⟨w', z.sameBut hs (cne y c e)⟩
    · obtain ⟨e, n, ne, nf, d⟩ := I.pin p hp
      exact ⟨(hs.2 p.1 ne).trans e, n, ne, nf, d⟩
  · have hfn : X.fn x = true := by
      rcases hf with z | z
      · exact z
      · rw [z] at hk; cases hk
    obtain ⟨c, hc⟩ := I.ok.has x (.inl hk)
    obtain ⟨w', z⟩ := I.cell x c hc
    refine wpAny_storeName_cell I.ok.kind hk hc z (fun h' hc' hs => ?_)
    obtain ⟨oc, hoc, hocd⟩ := id z
    refine h { s with heap := h' } ⟨I.ok, I.os, I.bare, ⟨fun b o e n hb hx => ?_, fun b o e n hb hx => ?_, I.base.free, fun b o e hx => ?_, I.base.tups, I.base.frzs, I.base.tbls, I.base.cts⟩, ⟨m, hn.sameBut hs (Ne.symm (cne x c hc)), fun j y v' e1 e2 e3 => ?_⟩, fun y c' e => ?_, I.free, I.freeC, fun p hp => ?_, tracked ⟨oc, hoc, I.freeC x c hc⟩ hs, by simpa using I.len⟩ ⟨c, hs, .inr hc⟩
    · exact (hs.2 b (Nat.ne_of_lt (Nat.lt_of_lt_of_le (Heap.lt_size e) (I.ok.cab x c hfn hc)))).trans (I.base.keep b o e n hb hx)
    · obtain ⟨sl, e1⟩ := I.base.slot b o e n hb hx
      exact ⟨sl, (hs.2 b (Nat.ne_of_lt (Nat.lt_of_lt_of_le (Heap.lt_size e) (I.ok.cab x c hfn hc)))).trans e1⟩
    · obtain ⟨o', e1⟩ := I.base.there b o e hx
      exact ⟨o', (hs.2 b (Nat.ne_of_lt (Nat.lt_of_lt_of_le (Heap.lt_size e) (I.ok.cab x c hfn hc)))).trans e1⟩
    · by_cases hj : j = i
      · subst hj
        rw [hi] at e1; cases e1
        rw [List.getElem?_set_self hiσ] at e2
        cases e2
        exact ⟨u, r, .inr ⟨.inl hk, c, hc, hc'⟩⟩
      · rw [List.getElem?_set_ne (Ne.symm hj)] at e2
        obtain ⟨u', r', q⟩ := hl j y v' e1 e2 e3
        refine ⟨u', r', ?_⟩
        rcases q with q | ⟨k, c', e, z'⟩
        · exact .inl q
        · refine .inr ⟨k, c', e, z'.sameBut hs ?_⟩
          rintro rfl
          exact hj (nodup_ix hN e1 (I.ok.inj _ _ _ e hc ▸ hi))
    · by_cases hcc : c' = c
      · subst hcc; exact ⟨_, hc'⟩
      · obtain ⟨w2, z2⟩ := I.cell y c' e
        exact ⟨w2, z2.sameBut hs hcc⟩
    · obtain ⟨e, n, ne, nf, d⟩ := I.pin p hp
      refine ⟨(hs.2 p.1 ?_).trans e, n, ne, nf, d⟩
      intro q
      rw [q, hoc] at e
      have q' : oc = p.2 := Option.some.inj e
      exact d w' (by rw [← q']; exact hocd)
theorem store_ok {M : Model} {A : Around} {E : Value → Shared → Prop} {i : Nat} {x : Str} {v : V} {u : Value} {Q : Unit → Shared → Prop} (I : Inv X pins σ H s) (hN : X.N.Nodup) (hi : X.N[i]? = some x) (hx : Loc X.env.scope x) (r : RelV v u)
    (h : ∀ s', Inv X pins (σ.set i (some v)) H s' → Q () s') (hf : X.fn x = true ∨ X.env.scope.names.lookup x = some .local := by first | exact .inl rfl | exact .inr rfl | assumption) : wpAny M A (storeName X.env x u) Q E s :=
  store_ok2 I hN hi hx r (fun s' I' _ => h s' I') hf
theorem Inv.call' {s' : Shared} {ch : List Addr} (I : Inv X pins σ H s) (ho : s'.os = s.os) (u : Un (frs X.stack) ch H H' s.heap s'.heap) (hok : HOk X.prog X.w H' s'.heap) (hg : AllBare s'.gens)
    (hch : ∀ b ∈ ch, (b ∈ X.ex ∨ X.s₀.heap.objs.size ≤ b) ∧ b ≠ X.env.locals ∧ (∀ x c, X.env.cells.lookup x = some c → c ≠ b) ∧ ∀ p ∈ X.pn ++ pins, p.1 ≠ b) : Inv X pins σ H' s' := by
  obtain ⟨h', g', d', t', o'⟩ := s'
  have e : o' = s.os := ho
  subst e
  exact I.call (g' := g') (t' := t') (d' := d') u hok hg hch
end

noncomputable abbrev XK := Value → Option Addr → Hp → Prop
noncomputable abbrev St := List (Option V)
noncomputable abbrev VK := V → Hp → Prop
noncomputable abbrev TE := St → Hp → VK → Prop
noncomputable abbrev TT := St → Hp → (Bool → Hp → Prop) → Prop
noncomputable abbrev TA := St → Hp → (List V → Hp → Prop) → Prop
structure Ends where
  nx : St → Hp → Prop
  rt : VK
  bk : St → Hp → Prop := fun _ _ => False
  ct : St → Hp → Prop := fun _ _ => False
noncomputable abbrev TS := Ends → St → Hp → Prop

noncomputable def EP (X : Cx) (pins : List (Addr × Obj)) (σ : St) (Q : VK) (u : Value) (s' : Shared) : Prop := ∃ v H', Inv X pins σ H' s' ∧ RelV v u ∧ Q v H'
noncomputable def TP (X : Cx) (pins : List (Addr × Obj)) (σ : St) (Q : Bool → Hp → Prop) (b : Bool) (s' : Shared) : Prop := ∃ H', Inv X pins σ H' s' ∧ Q b H'
noncomputable def AP (X : Cx) (pins : List (Addr × Obj)) (σ : St) (Q : List V → Hp → Prop) (us : List Value) (s' : Shared) : Prop := ∃ vs H', Inv X pins σ H' s' ∧ Vals vs us ∧ Q vs H'
noncomputable def SP (X : Cx) (pins : List (Addr × Obj)) (D : Ends) (f : Flow) (s' : Shared) : Prop :=
  match f with
  | .next => ∃ σ' H', Inv X pins σ' H' s' ∧ D.nx σ' H'
  | .brk => ∃ σ' H', Inv X pins σ' H' s' ∧ D.bk σ' H'
  | .cont => ∃ σ' H', Inv X pins σ' H' s' ∧ D.ct σ' H'
  | .ret u => ∃ v σ' H', Inv X pins σ' H' s' ∧ RelV v u ∧ D.rt v H'

noncomputable def PE (X : Cx) (e : Expr) (t : TE) : Prop :=
  ∀ (pins : List (Addr × Obj)) (s : Shared) (σ : St) (H : Hp) (Q : VK), Inv X pins σ H s → t σ H Q → wpAny (model X.prog X.w) X.A (eval e X.env) (EP X pins σ Q) X.xe s
noncomputable def PT (X : Cx) (e : Expr) (t : TT) : Prop :=
  ∀ (pins : List (Addr × Obj)) (s : Shared) (σ : St) (H : Hp) (Q : Bool → Hp → Prop), Inv X pins σ H s → t σ H Q → wpAny (model X.prog X.w) X.A (isTrue e X.env (eval e X.env)) (TP X pins σ Q) X.xe s
noncomputable def PW (X : Cx) (e : Expr) (t : TT) : Prop :=
  ∀ (whole : Sem Value) (pins : List (Addr × Obj)) (s : Shared) (σ : St) (H : Hp) (Q : Bool → Hp → Prop), Inv X pins σ H s → t σ H Q → wpAny (model X.prog X.w) X.A (isTrue e X.env whole) (TP X pins σ Q) X.xe s
theorem PW.pt {X : Cx} {e : Expr} {t : TT} (h : PW X e t) : PT X e t := h _
noncomputable def PA (X : Cx) (es : List Expr) (t : TA) : Prop :=
  ∀ (pos : Pos) (pins : List (Addr × Obj)) (s : Shared) (σ : St) (H : Hp) (Q : List V → Hp → Prop), Inv X pins σ H s → t σ H Q → wpAny (model X.prog X.w) X.A (spliced (backTo pos (starEach es X.env))) (AP X pins σ Q) X.xe s
noncomputable def PS (X : Cx) (st : Stmt) (t : TS) : Prop :=
  ∀ (pins : List (Addr × Obj)) (s : Shared) (σ : St) (H : Hp) (D : Ends), Inv X pins σ H s → t D σ H → wpAny (model X.prog X.w) X.A (exec st X.env) (SP X pins D) X.xe s
noncomputable def PSs (X : Cx) (st : List Stmt) (t : TS) : Prop :=
  ∀ (pins : List (Addr × Obj)) (s : Shared) (σ : St) (H : Hp) (D : Ends), Inv X pins σ H s → t D σ H → wpAny (model X.prog X.w) X.A (execs st X.env) (SP X pins D) X.xe s
theorem thn {α : Type} {t : Sem α} {Q Q' : α → Shared → Prop} {M : Model} {A : Around} {E : Value → Shared → Prop} {s : Shared} (h : wpAny M A t Q E s) (hQ : ∀ a s, Q a s → Q' a s) : wpAny M A t Q' E s := wpAny_mono h hQ fun _ _ x => x
end L2

namespace L2
open PySem PySem.Spec PyProof.Rows
section
variable {X : Cx}

theorem bin {a b : Expr} {ta tb : TE} (ha : PE X a ta) (hb : PE X b tb) {pins : List (Addr × Obj)} {s : Shared} {σ : St} {H : Hp} {R : V → V → Hp → Prop} (I : Inv X pins σ H s) (h : ta σ H fun x H1 => tb σ H1 fun y H2 => R x y H2)
    {α : Type} {Q : α → Shared → Prop} {f : Value → Value → Sem α}
    (hf : ∀ v u s2 x y H2, Inv X pins σ H2 s2 → RelV x v → RelV y u → R x y H2 → wpAny (model X.prog X.w) X.A (f v u) Q X.xe s2) :
    wpAny (model X.prog X.w) X.A (eval a X.env) (fun v s₁ => wpAny (model X.prog X.w) X.A (eval b X.env) (fun u s₂ => wpAny (model X.prog X.w) X.A (f v u) Q X.xe s₂) X.xe s₁) X.xe s := by
  refine thn (ha pins s σ H _ I h) fun v s1 ⟨x, H1, I1, r1, q1⟩ => ?_
  refine thn (hb pins s1 σ H1 _ I1 q1) fun u s2 ⟨y, H2, I2, r2, q2⟩ => ?_
  exact hf v u s2 x y H2 I2 r1 r2 q2

noncomputable def tVar (i : Nat) : TE := fun σ H Q => ∃ v, σ[i]? = some (some v) ∧ Q v H
noncomputable def tC (v : V) : TE := fun _ H Q => Q v H
theorem pe_var {i : Nat} {x : Str} {pos : Pos} (hN : X.N[i]? = some x) (hv : Vis X.env.scope x) (hd : (x == ("__debug__" : Str)) = false := by decide) (hcd : (x == ("__classdict__" : Str)) = false := by decide) : PE X (.Name x pos) (tVar i) := by
  intro pins s σ H Q I h
  obtain ⟨v, e, h⟩ := h
  obtain ⟨m, hn, hl⟩ := I.loc
  obtain ⟨u, r, l⟩ := hl i x v hN e hv
  have fin : EP X pins σ Q u s := ⟨v, H, I, r, h⟩
  rcases l with ⟨hk, hm⟩ | ⟨hk, c, hc, hcell⟩
  · exact wpAny_Name (wpAny_loadName_local I.ok.kind hk hn hm fin) hd
  · rcases hk with hk | hk
    · exact wpAny_Name (wpAny_loadName_cell I.ok.kind hk hc hcell fin) hd
    · exact wpAny_Name (wpAny_loadName_free I.ok.kind hk hc hcell fin hcd) hd
theorem pe_int {i j pos} : PE X (.Constant (.int i) j pos) (tC (.int i)) := fun _ _ _ H _ I h => wpAny_Constant_int ⟨.int i, H, I.tok _, ⟨_, rfl⟩, h⟩
theorem pe_bl {b j pos} : PE X (.Constant (.bool b) j pos) (tC (.bl b)) := fun _ _ _ H _ I h => Constant_bool ⟨.bl b, H, I, rfl, h⟩
theorem pe_non {j pos} : PE X (.Constant .none j pos) (tC .non) := fun _ _ _ H _ I h => Constant_none ⟨.non, H, I, rfl, h⟩
theorem pe_str {x j pos} : PE X (.Constant (.str x) j pos) (tC (.str x)) := fun _ _ _ H _ I h => Calls.Constant_str ⟨.str x, H, I.tok _, ⟨_, rfl⟩, h⟩

noncomputable def Gl (X : Cx) (x : Str) : Prop := X.env.kindOf x = some .globalImplicit
theorem ld_glob {E : Value → Shared → Prop} {pins : List (Addr × Obj)} {s : Shared} {σ : St} {H : Hp} {x : Str} {u : Value} {pos : Pos} {Q : Value → Shared → Prop} (I : Inv X pins σ H s) (hg : Gl X x) (hm : X.mg x = some u) (h : Q u s)
    (hd : (x == ("__debug__" : Str)) = false := by decide) : wpAny (model X.prog X.w) X.A (eval (.Name x pos) X.env) Q E s :=
  Calls.Name_function_global I.ok.kind hg (Calls.loadGlobal_global (by rw [I.ok.glob]; exact I.mod.glob.keeps I.bk) hm h) hd
theorem ld_blt {E : Value → Shared → Prop} {pins : List (Addr × Obj)} {s : Shared} {σ : St} {H : Hp} {x : Str} {u : Value} {pos : Pos} {Q : Value → Shared → Prop} (I : Inv X pins σ H s) (hg : Gl X x) (hm : X.mg x = none) (hv : bootBuiltins x = some u) (h : Q u s)
    (hn : x ≠ "__name__" := by decide) (hd : (x == ("__debug__" : Str)) = false := by decide) : wpAny (model X.prog X.w) X.A (eval (.Name x pos) X.env) Q E s := by
  obtain ⟨mb, h1, h2⟩ := I.mod.blt
  exact Calls.Name_function_global I.ok.kind hg (Calls.loadGlobal_builtin (by rw [I.ok.glob]; exact I.mod.glob.keeps I.bk) hm (by rw [I.ok.blt]; exact h1.keeps I.bk) ((h2 x hn).trans hv) h) hd
theorem pe_glob {x : Str} {v : V} {u : Value} {pos : Pos} (hg : Gl X x) (hm : X.mg x = some u) (r : RelV v u) (hd : (x == ("__debug__" : Str)) = false := by decide) : PE X (.Name x pos) (tC v) :=
  fun _ _ _ H _ I h => ld_glob I hg hm ⟨v, H, I, r, h⟩ hd
theorem pe_bltn {x : Str} {v : V} {u : Value} {pos : Pos} (hg : Gl X x) (hm : X.mg x = none) (hv : bootBuiltins x = some u) (r : RelV v u) (hn : x ≠ "__name__" := by decide) (hd : (x == ("__debug__" : Str)) = false := by decide) : PE X (.Name x pos) (tC v) :=
  fun _ _ _ H _ I h => ld_blt I hg hm hv ⟨v, H, I, r, h⟩ hn hd

variable {a b : Expr} {ta tb : TE} {pos : Pos}
noncomputable def PC (X : Cx) (op : CmpOp) (a b : Expr) (t : TE) : Prop :=
  ∀ (pins : List (Addr × Obj)) (s : Shared) (σ : St) (H : Hp) (Q : VK), Inv X pins σ H s → t σ H Q →
    wpAny (model X.prog X.w) X.A (eval a X.env) (fun v s₁ => wpAny (model X.prog X.w) X.A (eval b X.env) (fun u s₂ => wpAny (model X.prog X.w) X.A (compareOp op v u) (EP X pins σ Q) X.xe s₂) X.xe s₁) X.xe s
noncomputable def tB (t : TE) : TT := fun σ H Q => t σ H fun x H1 => ∃ c, x = .bl c ∧ Q c H1
theorem pt_cmp {op : CmpOp} {t : TE} (h : PC X op a b t) (h1 : behindInMarks op b = false := by first | exact nobehind _ (by decide) (by decide) | rfl) : PT X (.Compare a [op] [b] pos) (tB t) := by
  intro pins s σ H Q I hw
  refine wpAny_isTrue_Compare1 (thn (h pins s σ H _ I hw) fun v s1 h1 => thn h1 fun u s2 h2 => thn h2 fun c s3 ⟨x, H1, I1, r1, q1⟩ => ?_) h1
  obtain ⟨d, rfl, q⟩ := q1
  cases r1
  exact wpAny_truthy_bool ⟨H1, I1, q⟩
variable {tA tB' : TT} {rest : List Expr}
noncomputable def tAnd (t u : TT) : TT := fun σ H Q => t σ H fun c H1 => if c = true then u σ H1 Q else Q false H1
noncomputable def tOr (t u : TT) : TT := fun σ H Q => t σ H fun c H1 => if c = true then Q true H1 else u σ H1 Q
noncomputable def tNot (t : TT) : TT := fun σ H Q => t σ H fun c H1 => Q (!c) H1
theorem pw_and1 (ha : PT X a tA) : PW X (.BoolOp .And [a] pos) tA := by
  intro wh pins s σ H Q I h
  refine isTrue_and (thn (ha pins s σ H Q I h) fun c s1 e => ?_)
  cases c with
  | true => exact isTrue_and_nil e
  | false => exact e
theorem pw_or1 (ha : PT X a tA) : PW X (.BoolOp .Or [a] pos) tA := by
  intro wh pins s σ H Q I h
  refine isTrue_or (thn (ha pins s σ H Q I h) fun c s1 e => ?_)
  cases c with
  | false => exact isTrue_or_nil e
  | true => exact e
theorem pw_and (ha : PT X a tA) (hb : PW X (.BoolOp .And (b :: rest) pos) tB') : PW X (.BoolOp .And (a :: b :: rest) pos) (tAnd tA tB') := by
  intro wh pins s σ H Q I h
  refine isTrue_and (thn (ha pins s σ H _ I h) fun c s1 ⟨H1, I1, q1⟩ => ?_)
  cases c with
  | true => exact hb wh pins s1 σ H1 Q I1 q1
  | false => exact ⟨H1, I1, q1⟩
theorem pw_or (ha : PT X a tA) (hb : PW X (.BoolOp .Or (b :: rest) pos) tB') : PW X (.BoolOp .Or (a :: b :: rest) pos) (tOr tA tB') := by
  intro wh pins s σ H Q I h
  refine isTrue_or (thn (ha pins s σ H _ I h) fun c s1 ⟨H1, I1, q1⟩ => ?_)
  cases c with
  | true => exact ⟨H1, I1, q1⟩
  | false => exact hb wh pins s1 σ H1 Q I1 q1
theorem pt_not (ha : PT X a tA) : PT X (.UnaryOp .Not a pos) (tNot tA) := by
  intro pins s σ H Q I h
  exact isTrue_not (ha pins s σ H (fun c H1 => Q (!c) H1) I h)
noncomputable def tAndV (ta tb : TE) : TE := fun σ H Q => ta σ H fun x H1 => ∃ c, x = .bl c ∧ if c = true then tb σ H1 Q else Q (.bl false) H1
noncomputable def tNotV (ta : TE) : TE := fun σ H Q => ta σ H fun x H1 => ∃ c, x = .bl c ∧ Q (.bl (!c)) H1
theorem pe_one {op} {t : TE} (h : PE X a t) : PE X (.BoolOp op [a] pos) t := fun pins s σ H Q I hw => BoolOp_one (h pins s σ H Q I hw)
theorem pe_and (ha : PE X a ta) (hb : PE X (.BoolOp .And (b :: rest) pos) tb) : PE X (.BoolOp .And (a :: b :: rest) pos) (tAndV ta tb) := by
  intro pins s σ H Q I h
  refine BoolOp_and (thn (ha pins s σ H _ I h) fun v s1 ⟨x, H1, I1, r1, q1⟩ => ?_)
  obtain ⟨c, rfl, q1⟩ := q1
  cases r1
  refine wpAny_truthy_bool ?_
  cases c with
  | true => exact hb pins s1 σ H1 Q I1 q1
  | false => exact ⟨.bl false, H1, I1, rfl, q1⟩
theorem pe_not (ha : PE X a ta) : PE X (.UnaryOp .Not a pos) (tNotV ta) := by
  intro pins s σ H Q I h
  refine UnaryOp_ (thn (ha pins s σ H _ I h) fun v s1 ⟨x, H1, I1, r1, q1⟩ => ?_)
  obtain ⟨c, rfl, q1⟩ := q1
  cases r1
  exact not_of (wpAny_truthy_bool ⟨.bl (!c), H1, I1, rfl, q1⟩)
noncomputable def tIf (t : TT) (ta tb : TE) : TE := fun σ H Q => t σ H fun c H1 => if c = true then ta σ H1 Q else tb σ H1 Q
theorem pe_ifExp {c : Expr} (hc : PT X c tA) (ha : PE X a ta) (hb : PE X b tb) : PE X (.IfExp c a b pos) (tIf tA ta tb) := by
  intro pins s σ H Q I h
  refine wpAny_IfExp (thn (hc pins s σ H _ I h) fun d s1 ⟨H1, I1, q1⟩ => ?_)
  cases d with
  | true => exact ha pins s1 σ H1 Q I1 q1
  | false => exact hb pins s1 σ H1 Q I1 q1
end
end L2

namespace L2
open PySem PySem.Spec PyProof.Rows

noncomputable def SqL (K : PySem.W.Frag) (H : Hp) (a : Addr) (xs : List V) : Prop :=
  Rd H a (.lst xs) ∨
    ∃ (o : Obj) (its : Array Value) (n : Nat), K.lookup a = some o ∧ o.cls = .type "list" ∧ o.dict = none ∧ o.data = .seq its n ∧ its.size ≤ sizeLine ∧ Vals xs its.toList
noncomputable def SqT (K : PySem.W.Frag) (H : Hp) (a : Addr) (xs : List V) : Prop :=
  H a = some (.tup xs) ∨
    ∃ (o : Obj) (its : Array Value) (n : Nat), K.lookup a = some o ∧ o.cls = .type "tuple" ∧ o.data = .seq its n ∧ its.size ≤ sizeLine ∧ Vals xs its.toList
noncomputable def absV : Value → Option V
  | .none => some .non
  | .bool b => some (.bl b)
  | .int i _ => some (.int i)
  | .str x _ => some (.str x)
  | .bytes b _ => some (.byt b)
  | .float b _ => some (.flt b)
  | .ref a => some (.ref a)
  | .type n => some (.ty n)
  | _ => none
theorem RelV.abs {x : V} {u : Value} (r : RelV x u) : absV u = some x := by
  cases x with
  | non => cases r; rfl
  | bl _ => cases r; rfl
  | int _ => obtain ⟨t, rfl⟩ := r; rfl
  | str _ => obtain ⟨t, rfl⟩ := r; rfl
  | byt _ => obtain ⟨t, rfl⟩ := r; rfl
  | flt _ => obtain ⟨t, rfl⟩ := r; rfl
  | ref _ => cases r; rfl
  | ty _ => cases r; rfl
theorem RelV.inj {x y : V} {u : Value} (r : RelV x u) (q : RelV y u) : x = y := Option.some.inj (r.abs.symm.trans q.abs)
theorem Vals.inj : ∀ {xs ys : List V} {us : List Value}, Vals xs us → Vals ys us → xs = ys
  | _, _, _, .nil, .nil => rfl
  | _, _, _, .cons r t, .cons r' t' => by rw [r.inj r', Vals.inj t t']
section
variable {X : Cx} {pins : List (Addr × Obj)} {σ : St} {H : Hp} {s : Shared} {a : Addr} {xs ys : List V}
theorem SqL.of {K : PySem.W.Frag} (h : H a = some (.lst xs)) : SqL K H a xs := .inl (.inl h)
theorem SqT.of {K : PySem.W.Frag} (h : H a = some (.tup xs)) : SqT K H a xs := .inl h
theorem Inv.list (I : Inv X pins σ H s) (h : SqL X.K H a xs) : ∃ its : List Value, Vals xs its ∧ PlainL s.heap a its.toArray ∧ xs.length ≤ sizeLine := by
  rcases h with h | ⟨o, its, n, hk, hc, hd, hs, hz, r⟩
  · obtain ⟨z, its, n, r, e⟩ := h.ok I.hok
    exact ⟨its, r, ⟨_, n, e, rfl, rfl, rfl⟩, z⟩
  · refine ⟨its.toList, r, ⟨o, n, I.kIn a o hk, hc, hd, by simpa using hs⟩, ?_⟩
    have e := r.length
    simp only [Array.length_toList] at e
    omega
theorem Inv.tuple (I : Inv X pins σ H s) (h : SqT X.K H a xs) : ∃ its : List Value, Vals xs its ∧ IsTup s.heap a its.toArray ∧ xs.length ≤ sizeLine := by
  rcases h with h | ⟨o, its, n, hk, hc, hs, hz, r⟩
  · obtain ⟨z, its, r, p⟩ := (Rd.of h).ok I.hok
    exact ⟨its, r, p, z⟩
  · refine ⟨its.toList, r, ⟨o, I.kIn a o hk, hc, n, by simpa using hs⟩, ?_⟩
    have e := r.length
    simp only [Array.length_toList] at e
    omega
theorem Inv.list_inj (I : Inv X pins σ H s) (h : SqL X.K H a xs) (h' : SqL X.K H a ys) : xs = ys := by
  obtain ⟨its, r, ⟨o, n, e, _, _, d⟩, _⟩ := I.list h
  obtain ⟨its', r', ⟨o', n', e', _, _, d'⟩, _⟩ := I.list h'
  rw [e] at e'; cases e'
  rw [d] at d'
  injection d' with d1 _
  have : its = its' := by simpa using congrArg Array.toList d1
  subst this
  exact r.inj r'
theorem Inv.tuple_inj (I : Inv X pins σ H s) (h : SqT X.K H a xs) (h' : SqT X.K H a ys) : xs = ys := by
  obtain ⟨its, r, ⟨o, e, _, n, d⟩, _⟩ := I.tuple h
  obtain ⟨its', r', ⟨o', e', _, n', d'⟩, _⟩ := I.tuple h'
  rw [e] at e'; cases e'
  rw [d] at d'
  injection d' with d1 _
  have : its = its' := by simpa using congrArg Array.toList d1
  subst this
  exact r.inj r'
end

noncomputable abbrev Cx.wish (X : Cx) (E : Value → Shared → Prop) : Cx := { X with xe := E }
noncomputable abbrev Cx.nox (X : Cx) : Cx := X.wish fun _ _ => False
theorem Cx.Ok.wish {X : Cx} (ok : X.Ok) (E : Value → Shared → Prop) : (X.wish E).Ok :=
  ⟨ok.mod, ok.kind, ok.glob, ok.blt, ok.above, ok.inj, ok.has, ok.cab, ok.hd, ok.frames, ok.stk, ok.exf, ok.bs, ok.bsz, ok.noex, ok.exfs, ok.funs, ok.frf, ok.tb⟩
theorem Cx.Ok.unwish {X : Cx} {E : Value → Shared → Prop} (ok : (X.wish E).Ok) : X.Ok :=
  ⟨ok.mod, ok.kind, ok.glob, ok.blt, ok.above, ok.inj, ok.has, ok.cab, ok.hd, ok.frames, ok.stk, ok.exf, ok.bs, ok.bsz, ok.noex, ok.exfs, ok.funs, ok.frf, ok.tb⟩
section
variable {X : Cx} {pins : List (Addr × Obj)} {σ : St} {H : Hp} {s : Shared} {E : Value → Shared → Prop}
theorem Inv.wish (I : Inv X pins σ H s) (E : Value → Shared → Prop) : Inv (X.wish E) pins σ H s := ⟨I.ok.wish E, I.os, I.bare, I.base, I.loc, I.cell, I.free, I.freeC, I.pin, I.hok, I.len⟩
theorem Inv.unwish (I : Inv (X.wish E) pins σ H s) : Inv X pins σ H s := ⟨I.ok.unwish, I.os, I.bare, I.base, I.loc, I.cell, I.free, I.freeC, I.pin, I.hok, I.len⟩
theorem SP.unwish {D : Ends} {f : Flow} {s' : Shared} (h : SP (X.wish E) pins D f s') : SP X pins D f s' := by
  cases f with
  | next => obtain ⟨σ', H', I, q⟩ := h; exact ⟨σ', H', I.unwish, q⟩
  | brk => obtain ⟨σ', H', I, q⟩ := h; exact ⟨σ', H', I.unwish, q⟩
  | cont => obtain ⟨σ', H', I, q⟩ := h; exact ⟨σ', H', I.unwish, q⟩
  | ret u => obtain ⟨v, σ', H', I, r, q⟩ := h; exact ⟨v, σ', H', I.unwish, r, q⟩
theorem PSs.nox {st : List Stmt} {t : TS} (h : PSs X.nox st t) : PSs X st t := fun pins s σ H D I hw =>
  wpAny_mono (h pins s σ H D (I.wish _) hw) (fun _ _ q => q.unwish) fun _ _ z => False.elim z
end

section
variable {X : Cx} {st : Stmt} {rest : List Stmt} {t u : TS} {e : Expr} {te : TE} {pos : Pos}
noncomputable def tNext : TS := fun D σ H => D.nx σ H
noncomputable def tSeq (t u : TS) : TS := fun D σ H => t { D with nx := u D } σ H
theorem pss_nil : PSs X [] tNext := fun _ _ σ H _ I h => wpAny_execs_nil ⟨σ, H, I, h⟩
theorem pss_cons (h1 : PS X st t) (h2 : PSs X rest u) : PSs X (st :: rest) (tSeq t u) := by
  intro pins s σ H D I h
  refine wpAny_execs_cons (thn (h1 pins s σ H { D with nx := u D } I h) fun f s1 q => ?_)
  cases f with
  | next =>
    obtain ⟨σ', H', I', q⟩ := q
    exact h2 pins s1 σ' H' D I' q
  | ret v => exact q
  | brk => exact q
  | cont => exact q
theorem pss_one (h1 : PS X st t) : PSs X [st] t := by
  intro pins s σ H D I h
  refine wpAny_execs_cons (thn (h1 pins s σ H D I h) fun f s1 q => ?_)
  cases f with
  | next => exact wpAny_execs_nil q
  | ret v => exact q
  | brk => exact q
  | cont => exact q
theorem Inv.quiet {pins : List (Addr × Obj)} {σ : St} {H : Hp} {s : Shared} (I : Inv X pins σ H s) : interactive X.env = false := by simp [interactive, I.ok.kind]
noncomputable def tDrop (te : TE) : TS := fun D σ H => te σ H fun _ H1 => D.nx σ H1
theorem ps_expr (he : PE X e te) (hs : swapsWith e none pos.line X.env = pure false := by rfl) : PS X (.Expr e pos) (tDrop te) := by
  intro pins s σ H D I h
  exact wpAny_Expr_any (thn (he pins s σ H _ I h) fun v s1 ⟨x, H1, I1, r1, q1⟩ => ⟨σ, H1, I1, q1⟩) I.quiet hs
noncomputable def tRet (te : TE) : TS := fun D σ H => te σ H D.rt
theorem ps_ret (he : PE X e te) : PS X (.Return (some e) pos) (tRet te) := by
  intro pins s σ H D I h
  exact wpAny_Return_some (thn (he pins s σ H _ I h) fun v s1 ⟨x, H1, I1, r1, q1⟩ => ⟨x, σ, H1, I1, r1, q1⟩)
noncomputable def tIfS (c : TT) (t u : TS) : TS := fun D σ H => c σ H fun b H1 => if b = true then t D σ H1 else u D σ H1
theorem ps_if {c : Expr} {a b : List Stmt} {tc : TT} (hc : PT X c tc) (ha : PSs X a t) (hb : PSs X b u) : PS X (.If c a b pos) (tIfS tc t u) := by
  intro pins s σ H D I h
  refine wpAny_If (thn (hc pins s σ H _ I h) fun d s1 ⟨H1, I1, q1⟩ => ?_)
  cases d with
  | true => exact ha pins s1 σ H1 D I1 q1
  | false => exact hb pins s1 σ H1 D I1 q1
end

noncomputable abbrev TG := V → St → Hp → (St → Hp → Prop) → Prop
noncomputable abbrev TGs := List V → St → Hp → (St → Hp → Prop) → Prop
noncomputable def PG (X : Cx) (target : Expr) (t : TG) : Prop :=
  ∀ (pins : List (Addr × Obj)) (s : Shared) (σ : St) (H : Hp) (v : V) (u : Value) (Q : St → Hp → Prop), Inv X pins σ H s → RelV v u → t v σ H Q →
    wpAny (model X.prog X.w) X.A (assign target X.env u) (fun _ s' => ∃ σ' H', Inv X pins σ' H' s' ∧ Q σ' H') X.xe s
noncomputable def PGs (X : Cx) (ts : List Expr) (t : TGs) : Prop :=
  ∀ (pins : List (Addr × Obj)) (s : Shared) (σ : St) (H : Hp) (vs : List V) (us : List Value) (Q : St → Hp → Prop), Inv X pins σ H s → Vals vs us → t vs σ H Q →
    wpAny (model X.prog X.w) X.A (assignInOrder ((assignEach ts X.env).map (·.2)) us) (fun _ s' => ∃ σ' H', Inv X pins σ' H' s' ∧ Q σ' H') X.xe s
noncomputable abbrev TSet := V → V → V → Hp → (Hp → Prop) → Prop
noncomputable def PSet (X : Cx) (t : TSet) : Prop :=
  ∀ (pins : List (Addr × Obj)) (s : Shared) (σ : St) (H : Hp) (o i v : V) (ov iv u : Value) (Q : Hp → Prop), Inv X pins σ H s → RelV o ov → RelV i iv → RelV v u → t o i v H Q →
    wpAny (model X.prog X.w) X.A (setItem ov iv u) (fun _ s' => ∃ H', Inv X pins σ H' s' ∧ Q H') X.xe s
section
variable {X : Cx} {pos : Pos}
noncomputable def gName (i : Nat) : TG := fun v σ H Q => Q (σ.set i (some v)) H
theorem pg_name {i : Nat} {x : Str} (hN : X.N.Nodup) (hi : X.N[i]? = some x) (hx : Loc X.env.scope x) (hf : X.fn x = true ∨ X.env.scope.names.lookup x = some .local := by first | exact .inl rfl | exact .inr rfl | assumption) : PG X (.Name x pos) (gName i) := by
  intro pins s σ H v u Q I r h
  exact wpAny_assign_Name (store_ok I hN hi hx r (fun s' I' => ⟨_, H, I', h⟩) hf)
noncomputable def gNil : TGs := fun vs σ H Q => vs = [] ∧ Q σ H
noncomputable def gCons (t : TG) (u : TGs) : TGs := fun vs σ H Q => ∃ v r, vs = v :: r ∧ t v σ H fun σ' H' => u r σ' H' Q
theorem pgs_nil : PGs X [] gNil := by
  intro pins s σ H vs us Q I r h
  obtain ⟨e, h⟩ := h
  subst e
  cases r
  exact assignInOrder_nil ⟨σ, H, I, h⟩
theorem pgs_cons {e : Expr} {es : List Expr} {t : TG} {u : TGs} (h1 : PG X e t) (h2 : PGs X es u)
    (hs : (assignEach (e :: es) X.env).map (·.2) = assign e X.env :: (assignEach es X.env).map (·.2) := by rfl) : PGs X (e :: es) (gCons t u) := by
  intro pins s σ H vs us Q I r h
  obtain ⟨v, vr, e1, h⟩ := h
  subst e1
  cases r with
  | cons r rr =>
    rw [hs]
    refine assignInOrder_cons (thn (h1 pins s σ H _ _ _ I r h) fun _ s1 ⟨σ1, H1, I1, q1⟩ => ?_)
    exact h2 pins s1 σ1 H1 _ _ Q I1 rr q1
noncomputable def gTup (K : PySem.W.Frag) (n : Nat) (t : TGs) : TG := fun v σ H Q => ∃ a xs, v = .ref a ∧ SqT K H a xs ∧ xs.length = n ∧ t xs σ H Q
theorem pg_tup {es : List Expr} {k : Nat} {t : TGs} {n : Nat} (hc : X.calm = true) (h : PGs X es t)
    (hn : (assignEach es X.env).length = n := by rfl) (hst : (assignEach es X.env).findIdx? (·.1) = none := by rfl) : PG X (.Tuple es k pos) (gTup X.K n t) := by
  intro pins s σ H v u Q I r hw
  obtain ⟨a, xs, e1, hq, hl, hw⟩ := hw
  subst e1
  cases r
  obtain ⟨its, rv, ht, hz⟩ := I.tuple hq
  refine assign_Tuple_tuple (I.ok.hd hc) ht (by simp [hn, ← hl, rv.length]) hst fun h' hx => ?_
  have I1 : Inv X pins σ H { s with heap := h' } := I.kept (t' := s.toks) fun b o e => hx b o (Nat.ne_of_lt (Heap.lt_size e)) e
  exact h pins _ σ H xs _ Q I1 (by simpa using rv) hw
noncomputable def gSub (to ti : TE) (t : TSet) : TG := fun v σ H Q => to σ H fun o H1 => ti σ H1 fun i H2 => t o i v H2 fun H3 => Q σ H3
theorem pg_sub {o i : Expr} {to ti : TE} {t : TSet} (ho : PE X o to) (hi : PE X i ti) (hs : PSet X t)
    (ha : ∀ v, assign (.Subscript o i pos) X.env v = (do
      let ov ← holding [v] (eval o X.env)
      let iv ← holding [v, ov] (eval i X.env)
      standAt pos
      holding [v, ov, iv] (setItem ov iv v)
      release [v, ov, iv] []) := by intro _; rfl) : PG X (.Subscript o i pos) (gSub to ti t) := by
  intro pins s σ H v u Q I r h
  rw [ha]
  refine wpAny_bind (wpAny_holding (thn (ho pins s σ H _ I h) fun ov s1 ⟨x, H1, I1, r1, q1⟩ => ?_))
  refine wpAny_bind (wpAny_holding (thn (hi pins s1 σ H1 _ I1 q1) fun iv s2 ⟨y, H2, I2, r2, q2⟩ => ?_))
  refine wpAny_bind (wpAny_standAt (wpAny_bind (wpAny_holding (thn (hs pins s2 σ H2 x y v ov iv u _ I2 r1 r2 r q2) fun _ s3 ⟨H3, I3, q3⟩ => ?_))))
  exact wpAny_release ⟨σ, H3, I3, q3⟩
noncomputable def tAsg (te : TE) (g : TG) : TS := fun D σ H => te σ H fun x H1 => g x σ H1 D.nx
theorem ps_asg {tg e : Expr} {te : TE} {g : TG} (he : PE X e te) (hg : PG X tg g) (hs : swapsWithSole [tg] e pos.line X.env = pure false := by rfl) (hw : swappedStores [tg] e X.env = pure none := by rfl)
    (h1 : (assignEach [tg] X.env).map (·.2) = [assign tg X.env] := by rfl) : PS X (.Assign [tg] e pos) (tAsg te g) := by
  intro pins s σ H D I h
  refine wpAny_Assign_stores (thn (he pins s σ H _ I h) fun v s1 ⟨x, H1, I1, r1, q1⟩ => ?_) hs hw
  rw [h1]
  exact thn (hg pins s1 σ H1 x v _ I1 r1 q1) fun _ s2 q => q
theorem ps_set {i : Nat} {x : Str} {e : Expr} {te : TE} {pos' : Pos} (hN : X.N.Nodup) (hi : X.N[i]? = some x) (hx : Loc X.env.scope x) (he : PE X e te) (hs : swapsWith e (some (.Name x pos')) pos.line X.env = pure false := by rfl) (hf : X.fn x = true ∨ X.env.scope.names.lookup x = some .local := by first | exact .inl rfl | exact .inr rfl | assumption) :
    PS X (.Assign [.Name x pos'] e pos) (tAsg te (gName i)) := by
  intro pins s σ H D I h
  refine wpAny_Assign_Name (thn (he pins s σ H _ I h) fun v s1 ⟨y, H1, I1, r1, q1⟩ => ?_) hs
  exact store_ok I1 hN hi hx r1 (fun s2 I2 => ⟨_, H1, I2, q1⟩) hf
end


structure It where
  go : Nat → Hp → Prop
  yld : Nat → Hp → V → Hp → Prop
  stop : Nat → Hp → Prop
noncomputable def FpOk (X : Cx) (pins : List (Addr × Obj)) (H : Hp) (b : Addr) : Prop :=
  H b = none ∧ b ≠ X.env.locals ∧ b ∉ X.fs ∧ (b ∈ X.ex ∨ X.s₀.heap.objs.size ≤ b) ∧ (∀ x c, X.env.cells.lookup x = some c → c ≠ b) ∧ ∀ p ∈ X.pn ++ pins, p.1 ≠ b
theorem Inv.fpOk {X : Cx} {pins : List (Addr × Obj)} {σ : St} {H H' : Hp} {s : Shared} {b : Addr} (I : Inv X pins σ H s) (hb : s.heap.objs.size ≤ b) (hn : H' b = none) : FpOk X pins H' b := by
  refine ⟨hn, Nat.ne_of_gt (Nat.lt_of_lt_of_le I.lt hb), I.nofs hb, .inr (Nat.le_trans I.sz hb), fun x c e z => ?_, fun p hp z => ?_⟩
  · obtain ⟨v, q⟩ := I.cell x c e
    exact absurd (Nat.lt_of_lt_of_le q.lt (by rw [z]; exact hb)) (Nat.lt_irrefl _)
  · exact absurd (Nat.lt_of_lt_of_le (Heap.lt_size (I.pin p hp).1) (by rw [z]; exact hb)) (Nat.lt_irrefl _)
structure Turn (P : Program) (w : World) (K : PySem.W.Frag) (tg : Expr) (J : It) (fp : List Addr) (it : Addr) (tn : Nat → Heap → Prop) : Prop where
  mem : it ∈ fp
  obj : ∀ i h, tn i h → ∀ b ∈ fp, ∃ o, h.get? b = some o ∧ ∀ v, o.data ≠ .cell v
  keep : ∀ i h h', tn i h → (∀ b ∈ fp, ∀ o, h.get? b = some o → h'.get? b = some o) → tn i h'
  item : ∀ (X : Cx), X.prog = P → X.w = w → X.K = K → X.calm = true → ∀ (i : Nat) (pins : List (Addr × Obj)) (s : Shared) (σ : St) (H : Hp) (E : Value → Shared → Prop), Inv X pins σ H s → (∀ b ∈ fp, FpOk X pins H b) → tn i s.heap → J.go i H →
    wpAny (model P w) X.A (pyNext (.ref it)) (fun r s1 => ∃ u, r = some u ∧
      wpAny (model P w) X.A (letOwnedTupleGo tg (.ref it) u) (fun _ s2 => ∃ x H', Inv X pins σ H' s2 ∧ RelV x u ∧ J.yld i H x H' ∧ tn (i + 1) s2.heap ∧ ∀ b ∈ fp, H' b = none) E s1) E s
  done : ∀ (X : Cx), X.prog = P → X.w = w → X.K = K → X.calm = true → ∀ (i : Nat) (pins : List (Addr × Obj)) (s : Shared) (σ : St) (H : Hp) (E : Value → Shared → Prop), Inv X pins σ H s → (∀ b ∈ fp, FpOk X pins H b) → tn i s.heap → J.stop i H →
    wpAny (model P w) X.A (pyNext (.ref it)) (fun r s1 => r = none ∧ Inv X pins σ H s1) E s
  self : ∀ (A : Around) (i : Nat) (s : Shared) (Q : Value → Shared → Prop) (E : Value → Shared → Prop), tn i s.heap → Q (.ref it) s → wpAny (model P w) A (pyIter (.ref it)) Q E s
noncomputable abbrev TI := St → Hp → (It → Hp → Prop) → Prop
noncomputable def PIE (X : Cx) (pins : List (Addr × Obj)) (σ : St) (tg : Expr) (R : It → Hp → Prop) (itv : Value) (s2 : Shared) : Prop :=
  ∃ (it : Addr) (fp : List Addr) (tn : Nat → Heap → Prop) (J : It) (H' : Hp), itv = .ref it ∧ Inv X pins σ H' s2 ∧ Turn X.prog X.w X.K tg J fp it tn ∧ tn 0 s2.heap ∧ (∀ b ∈ fp, FpOk X pins H' b) ∧ R J H'
noncomputable def PI (X : Cx) (tg iter : Expr) (wi : TI) : Prop :=
  ∀ (pins : List (Addr × Obj)) (s : Shared) (σ : St) (H : Hp) (R : It → Hp → Prop), Inv X pins σ H s → wi σ H R →
    wpAny (model X.prog X.w) X.A (eval iter X.env) (fun v s1 => wpAny (model X.prog X.w) X.A (pyIter v) (PIE X pins σ tg R) X.xe s1) X.xe s

theorem go_of {M : Model} {A : Around} {E : Value → Shared → Prop} {s : Shared} {tg : Expr} {it : Addr} {u : Value} {o : Obj} {n : String} {vs : Array Value} {Q : Unit → Shared → Prop} (ho : s.heap.get? it = some o) (hc : o.cls = .type n) (hd : o.data = .fields vs)
    (hn : ["enumerate", "zip", "dict_itemiterator", "dict_reverseitemiterator", "odict_iterator", "itertools.zip_longest", "itertools.pairwise"].contains n = false) (hQ : Q () s) : wpAny M A (letOwnedTupleGo tg (.ref it) u) Q E s := by
  unfold letOwnedTupleGo
  cases tg <;> first
    | exact wpAny_pure hQ
    | (cases u <;> first
        | exact wpAny_pure hQ
        | (refine wpAny_bind (wpAny_load ho ?_)
           rw [hc, hd]
           show wpAny M A (if (["enumerate", "zip", "dict_itemiterator", "dict_reverseitemiterator", "odict_iterator", "itertools.zip_longest", "itertools.pairwise"].contains n && vs[0]? == some (rawInt _)) = true then _ else _) Q E s
           rw [if_neg (by intro h; rw [hn, Bool.false_and] at h; cases h)]
           exact wpAny_pure hQ))

noncomputable def Itl (K : PySem.W.Frag) (a : Addr) : It :=
  ⟨fun i H => ∃ xs x, SqL K H a xs ∧ xs[i]? = some x, fun i H x H' => H' = H ∧ ∀ xs, SqL K H a xs → xs[i]? = some x, fun i H => ∃ xs, SqL K H a xs ∧ xs.length ≤ i⟩
noncomputable def Itt (K : PySem.W.Frag) (a : Addr) : It :=
  ⟨fun i H => ∃ xs x, SqT K H a xs ∧ xs[i]? = some x, fun i H x H' => H' = H ∧ ∀ xs, SqT K H a xs → xs[i]? = some x, fun i H => ∃ xs, SqT K H a xs ∧ xs.length ≤ i⟩
noncomputable def Itr (lo : Int) (n : Nat) : It := ⟨fun i _ => i < n, fun i H x H' => H' = H ∧ x = .int (lo + i), fun i _ => n ≤ i⟩
theorem turn_list {P : Program} {w : World} {K : PySem.W.Frag} {tg : Expr} (a it : Addr) : Turn P w K tg (Itl K a) [it] it (fun i h => h.IsListIter it a i) where
  mem := by simp
  obj := fun i h st b hb => by
    have e : b = it := by simpa using hb
    subst e
    obtain ⟨o, e, c, d⟩ := st
    exact ⟨o, e, fun v z => by rw [d] at z; cases z⟩
  keep := fun i h h' st k => st.at fun o e => k it (by simp) o e
  item := by
    intro X hP hw hK hc i pins s σ H E I hf st hg
    subst hP hw hK
    obtain ⟨xs, x, hq, hx⟩ := hg
    obtain ⟨its, rv, p, hz⟩ := I.list hq
    obtain ⟨u, hu, ru⟩ := rv.get hx
    obtain ⟨f0, f1, f2, f3, f4, f5⟩ := hf it (by simp)
    refine wpAny_pyNext_list_item st p.isList (x := u) (by simpa using hu) fun h' st' sb => ?_
    have I1 : Inv X pins σ H { s with heap := h' } := I.turned (t' := s.toks) (fun b o hb e => (sb.2 b hb).trans e) f0 f1 f3 f4 f5
    obtain ⟨o, e, c, d⟩ := id st'
    exact ⟨u, rfl, go_of (s := { s with heap := h' }) e c d (by decide) ⟨x, H, I1, ru, ⟨rfl, fun ys hy => by rw [I.list_inj hy hq]; exact hx⟩, st', fun b hb => (hf b hb).1⟩⟩
  done := by
    intro X hP hw hK hc i pins s σ H E I hf st hg
    subst hP hw hK
    obtain ⟨xs, hq, hx⟩ := hg
    obtain ⟨its, rv, p, hz⟩ := I.list hq
    obtain ⟨f0, f1, f2, f3, f4, f5⟩ := hf it (by simp)
    have hl := rv.length
    exact wpAny_pyNext_list_end (I.ok.hd hc) st p.isList (by simp; omega) fun h' eb => ⟨rfl, I.turned (t' := s.toks) (fun b o hb e => eb b o hb e) f0 f1 f3 f4 f5⟩
  self := fun _ _ _ _ _ st h => wpAny_pyIter_listiter st h
theorem turn_tuple {P : Program} {w : World} {K : PySem.W.Frag} {tg : Expr} (a it : Addr) : Turn P w K tg (Itt K a) [it] it (fun i h => h.IsTupleIter it a i) where
  mem := by simp
  obj := fun i h st b hb => by
    have e : b = it := by simpa using hb
    subst e
    obtain ⟨o, e, c, d⟩ := st
    exact ⟨o, e, fun v z => by rw [d] at z; cases z⟩
  keep := fun i h h' st k => st.at fun o e => k it (by simp) o e
  item := by
    intro X hP hw hK hc i pins s σ H E I hf st hg
    subst hP hw hK
    obtain ⟨xs, x, hq, hx⟩ := hg
    obtain ⟨its, rv, p, hz⟩ := I.tuple hq
    obtain ⟨u, hu, ru⟩ := rv.get hx
    obtain ⟨f0, f1, f2, f3, f4, f5⟩ := hf it (by simp)
    refine wpAny_pyNext_tuple_item st (show s.heap.IsTuple a its.toArray from p) (x := u) (by simpa using hu) fun h' st' sb => ?_
    have I1 : Inv X pins σ H { s with heap := h' } := I.turned (t' := s.toks) (fun b o hb e => (sb.2 b hb).trans e) f0 f1 f3 f4 f5
    obtain ⟨o, e, c, d⟩ := id st'
    exact ⟨u, rfl, go_of (s := { s with heap := h' }) e c d (by decide) ⟨x, H, I1, ru, ⟨rfl, fun ys hy => by rw [I.tuple_inj hy hq]; exact hx⟩, st', fun b hb => (hf b hb).1⟩⟩
  done := by
    intro X hP hw hK hc i pins s σ H E I hf st hg
    subst hP hw hK
    obtain ⟨xs, hq, hx⟩ := hg
    obtain ⟨its, rv, p, hz⟩ := I.tuple hq
    obtain ⟨f0, f1, f2, f3, f4, f5⟩ := hf it (by simp)
    have hl := rv.length
    exact wpAny_pyNext_tuple_end (I.ok.hd hc) st (show s.heap.IsTuple a its.toArray from p) (by simp; omega) fun h' eb => ⟨rfl, I.turned (t' := s.toks) (fun b o hb e => eb b o hb e) f0 f1 f3 f4 f5⟩
  self := fun _ _ _ _ _ st h => wpAny_pyIter_tupleiter st h
theorem turn_range {P : Program} {w : World} {K : PySem.W.Frag} {tg : Expr} (it : Addr) (lo : Int) (n : Nat) : Turn P w K tg (Itr lo n) [it] it (fun i h => IsRangeIter h it (lo + (i : Nat) * 1) ((n : Int) - (i : Nat)) 1) where
  mem := by simp
  obj := fun i h st b hb => by
    have e : b = it := by simpa using hb
    subst e
    exact ⟨_, st, fun v z => by
      have z' : Data.fields _ = Data.cell v := z
      cases z'⟩
  keep := fun i h h' st k => k it (by simp) _ st
  item := by
    intro X hP hw hK hc i pins s σ H E I hf st hg
    subst hP hw hK
    obtain ⟨f0, f1, f2, f3, f4, f5⟩ := hf it (by simp)
    have W := Walks.range (prog := X.prog) (w := X.w) (I.ok.hd hc) it lo 1 n
    refine W.item i s _ _ hg st fun v h' tk hv st' kk => ?_
    obtain ⟨t, rfl⟩ := hv
    have I1 : Inv X pins σ H { s with heap := h', toks := tk } := I.turned (fun b o hb e => kk b o (by simpa using hb) e) f0 f1 f3 f4 f5
    refine ⟨_, rfl, go_of (s := { s with heap := h', toks := tk }) (n := "range_iterator") st' rfl rfl (by decide) ⟨.int (lo + i), H, I1, ⟨t, ?_⟩, ⟨rfl, rfl⟩, st', fun b hb => (hf b hb).1⟩⟩
    rw [Int.mul_one]
  done := by
    intro X hP hw hK hc i pins s σ H E I hf st hg
    subst hP hw hK
    obtain ⟨f0, f1, f2, f3, f4, f5⟩ := hf it (by simp)
    exact wpAny_pyNext_range_end (I.ok.hd hc) st (by have : n ≤ i := hg; omega) fun h' eb => ⟨rfl, I.turned (t' := s.toks) (fun b o hb e => eb b o hb e) f0 f1 f3 f4 f5⟩
  self := fun _ _ _ _ _ st h => wpAny_pyIter_rangeiter st h
end L2

namespace L2
open PySem PySem.Spec PyProof.Rows
section
variable {X : Cx} {tg : Expr}
noncomputable def iList (K : PySem.W.Frag) (tl : TE) : TI := fun σ H R => tl σ H fun x H1 => ∃ a, x = .ref a ∧ (∃ xs, SqL K H1 a xs) ∧ R (Itl K a) H1
noncomputable def iTup (K : PySem.W.Frag) (tl : TE) : TI := fun σ H R => tl σ H fun x H1 => ∃ a, x = .ref a ∧ (∃ xs, SqT K H1 a xs) ∧ R (Itt K a) H1
theorem pi_list {l : Expr} {tl : TE} (hl : PE X l tl) : PI X tg l (iList X.K tl) := by
  intro pins s σ H R I h
  refine thn (hl pins s σ H _ I h) fun v s1 ⟨x, H1, I1, r1, q1⟩ => ?_
  obtain ⟨a, e, ⟨xs, hq⟩, q⟩ := q1
  subst e
  cases r1
  obtain ⟨its, rv, p, hz⟩ := I1.list hq
  refine wpAny_pyIter_list p.isList ?_
  refine ⟨s1.heap.objs.size, [s1.heap.objs.size], _, _, H1, rfl, I1.kept (t' := s1.toks) fun b o e => Heap.get?_push_of_some _ e, turn_list a _, ⟨_, Heap.get?_push_size _ rfl, rfl, rfl⟩, fun b hb => ?_, q⟩
  have e : b = s1.heap.objs.size := by simpa using hb
  subst e
  exact I1.fpOk (Nat.le_refl _) (I1.hok.fresh (Nat.le_refl _))
theorem pi_tup {l : Expr} {tl : TE} (hl : PE X l tl) : PI X tg l (iTup X.K tl) := by
  intro pins s σ H R I h
  refine thn (hl pins s σ H _ I h) fun v s1 ⟨x, H1, I1, r1, q1⟩ => ?_
  obtain ⟨a, e, ⟨xs, hq⟩, q⟩ := q1
  subst e
  cases r1
  obtain ⟨its, rv, p, hz⟩ := I1.tuple hq
  refine wpAny_pyIter_tuple (show s1.heap.IsTuple a its.toArray from p) ?_
  refine ⟨s1.heap.objs.size, [s1.heap.objs.size], _, _, H1, rfl, I1.kept (t' := s1.toks) fun b o e => Heap.get?_push_of_some _ e, turn_tuple a _, ⟨_, Heap.get?_push_size _ rfl, rfl, rfl⟩, fun b hb => ?_, q⟩
  have e : b = s1.heap.objs.size := by simpa using hb
  subst e
  exact I1.fpOk (Nat.le_refl _) (I1.hok.fresh (Nat.le_refl _))
theorem range_it {pins : List (Addr × Obj)} {σ : St} {H : Hp} {s : Shared} {R : It → Hp → Prop} {E : Value → Shared → Prop} {lo hi : Int} {t u v : Tok} {tk : Nat} (I : Inv X pins σ H s) (h1 : -(2 ^ 62) ≤ lo) (h2 : lo < 2 ^ 62) (h3 : -(2 ^ 62) ≤ hi) (h4 : hi < 2 ^ 62)
    (q : R (Itr lo (hi - lo).toNat) H) : wpAny (model X.prog X.w) X.A (pyIter (.ref s.heap.objs.size)) (PIE X pins σ tg R) E { s with heap := s.heap.push { cls := .type "range", data := .fields #[.int lo t, .int hi u, .int 1 v] }, toks := tk } := by
  refine wpAny_pyIter_range (IsRange.new ..) (small_one h1 h2 h3 h4) ?_
  have I1 : Inv X pins σ H { s with heap := s.heap.push { cls := .type "range", data := .fields #[.int lo t, .int hi u, .int 1 v] }, toks := tk } := I.kept fun b o e => Heap.get?_push_of_some _ e
  refine ⟨(s.heap.push { cls := .type "range", data := .fields #[.int lo t, .int hi u, .int 1 v] }).objs.size, [(s.heap.push { cls := .type "range", data := .fields #[.int lo t, .int hi u, .int 1 v] }).objs.size], _, _, H, rfl,
    I1.kept (t' := tk) fun b o e => Heap.get?_push_of_some _ e, turn_range _ lo (hi - lo).toNat, ?_, fun b hb => ?_, q⟩
  · have e1 : lo + ((0 : Nat) : Int) * 1 = lo := by simp
    have e2 : (((hi - lo).toNat : Nat) : Int) - ((0 : Nat) : Int) = Builtin.Range.rangeSize lo hi 1 := by rw [rangeSize_one]; split <;> omega
    show IsRangeIter _ _ (lo + ((0 : Nat) : Int) * 1) ((((hi - lo).toNat : Nat) : Int) - ((0 : Nat) : Int)) 1
    rw [e1, e2]
    exact Heap.get?_push_size _ rfl
  · have e : b = (s.heap.push { cls := .type "range", data := .fields #[.int lo t, .int hi u, .int 1 v] }).objs.size := by simpa using hb
    subst e
    exact I1.fpOk (Nat.le_refl _) (I1.hok.fresh (Nat.le_refl _))
noncomputable def iRng1 (ta : TA) : TI := fun σ H R => ta σ H fun vs H1 => ∃ j : Int, vs = [.int j] ∧ -(2 ^ 62) ≤ j ∧ j < 2 ^ 62 ∧ R (Itr 0 j.toNat) H1
theorem pi_range1 {a : Expr} {ta : TA} {p pos : Pos} (hg : Gl X "range") (hm : X.mg "range" = none) (ha : PA X [a] ta) (hs : starEach [a] X.env = [(false, eval a X.env)] := by rfl) : PI X tg (.Call (.Name "range" p) [a] [] pos) (iRng1 ta) := by
  intro pins s σ H R I h
  refine Call_ (ld_blt I hg hm boot_range (PyProof.Rows.callWith_type1 (thn (ha pos pins s σ H _ I h) fun us s1 ⟨vs, H1, I1, r1, q1⟩ => ?_) hs rfl))
  obtain ⟨j, e, q1, q2, q⟩ := q1
  subst e
  cases r1 with
  | cons r rr =>
    cases rr
    obtain ⟨t, rfl⟩ := r
    exact call_range_1 (range_it I1 (by omega) (by omega) q1 q2 (by simpa using q))
noncomputable def tFor (wi : TI) (g : TG) (tb : TS) : TS := fun D σ H => wi σ H fun J H1 => ∃ W : Nat → Nat → St → Hp → Prop, (∃ m, W 0 m σ H1) ∧ ∀ i m σ H, W i m σ H →
  (J.stop i H ∧ D.nx σ H) ∨ (J.go i H ∧ ∃ N : St → Hp → Prop, (∀ σ' H', N σ' H' → ∃ m', m' < m ∧ W (i + 1) m' σ' H') ∧ ∀ x H', J.yld i H x H' → g x σ H' fun σ2 H2 => tb { D with nx := N, ct := N, bk := D.nx } σ2 H2)
noncomputable def pinsAt (fp : List Addr) (h : Heap) : List (Addr × Obj) := fp.filterMap fun b => (h.get? b).map fun o => (b, o)
theorem mem_pinsAt {fp : List Addr} {h : Heap} {b : Addr} {o : Obj} (hb : b ∈ fp) (e : h.get? b = some o) : (b, o) ∈ pinsAt fp h := List.mem_filterMap.mpr ⟨b, hb, by rw [e]; rfl⟩
theorem of_pinsAt {fp : List Addr} {h : Heap} {p : Addr × Obj} (hp : p ∈ pinsAt fp h) : p.1 ∈ fp ∧ h.get? p.1 = some p.2 := by
  obtain ⟨b, hb, e⟩ := List.mem_filterMap.mp hp
  cases q : h.get? b with
  | none => rw [q] at e; cases e
  | some o =>
    rw [q] at e
    have e' : (b, o) = p := Option.some.inj e
    subst e'
    exact ⟨hb, q⟩
theorem Inv.pinned {pins : List (Addr × Obj)} {σ : St} {H : Hp} {s : Shared} {fp : List Addr} (I : Inv X pins σ H s) (hf : ∀ b ∈ fp, FpOk X pins H b) (ho : ∀ b ∈ fp, ∃ o, s.heap.get? b = some o ∧ ∀ v, o.data ≠ .cell v) : Inv X (pins ++ pinsAt fp s.heap) σ H s :=
  I.pins_of fun p hp => (List.mem_append.mp hp).elim (fun z => I.pin p (List.mem_append_right _ z)) fun z => by
    obtain ⟨hb, e⟩ := of_pinsAt z
    obtain ⟨f0, f1, f2, _⟩ := hf p.1 hb
    obtain ⟨o, e', d⟩ := ho p.1 hb
    rw [e] at e'; cases e'
    exact ⟨e, f0, f1, f2, d⟩
theorem Inv.unpinned {pins pl : List (Addr × Obj)} {σ : St} {H : Hp} {s : Shared} (I : Inv X (pins ++ pl) σ H s) : Inv X pins σ H s := I.pins_of fun p hp => I.pin p (List.mem_append_right _ (List.mem_append_left _ hp))
theorem ps_for {iter : Expr} {body : List Stmt} {wi : TI} {g : TG} {tb : TS} {pos : Pos} (hp : PassesOwn (model X.prog X.w) X.A X.env X.xe) (hc : X.calm = true) (hi : PI X tg iter wi) (hg : PG X tg g) (hb : PSs X body tb)
    (hs : ∀ x, foldedSetIterable iter X.env x = pure x := by intro _; rfl) : PS X (.For tg iter body [] pos) (tFor wi g tb) := by
  intro pins s σ H D I h
  refine wpAny_For (thn (hi pins s σ H _ I h) fun v s1 h1 => thn h1 fun itv s2 h2 => ?_) hs
  obtain ⟨it, fp, tn, J, H2, e, I2, T, st2, f2, W, ⟨m0, w0⟩, turn⟩ := h2
  subst e
  -- what stays true of the iterator's objects through the loop
  have stat : ∀ {H' : Hp}, (∀ b ∈ fp, H' b = none) → ∀ b ∈ fp, FpOk X pins H' b := fun hn b hb => ⟨hn b hb, (f2 b hb).2⟩
  refine codeAny_forLoop_any (fun n s' => ∃ i σ' H', Inv X pins σ' H' s' ∧ tn i s'.heap ∧ (∀ b ∈ fp, H' b = none) ∧ W i n σ' H') ?_ m0 ⟨0, σ, H2, I2, st2, fun b hb => (f2 b hb).1, w0⟩
  rintro n s3 ⟨i, σ3, H3, I3, st3, fr3, w3⟩
  rcases turn i n σ3 H3 w3 with ⟨stop, qn⟩ | ⟨go, N, hN, step⟩
  · refine wpAny_passesOwn hp (thn (T.done X rfl rfl rfl hc i pins s3 σ3 H3 X.xe I3 (stat fr3) st3 stop) fun r s4 ⟨hr, I4⟩ => ?_)
    subst hr
    exact wpAny_execs_nil ⟨σ3, H3, I4, qn⟩
  · refine wpAny_passesOwn hp (thn (T.item X rfl rfl rfl hc i pins s3 σ3 H3 X.xe I3 (stat fr3) st3 go) fun r s4 ⟨u, hr, h4⟩ => ?_)
    subst hr
    refine wpAny_passesOwn hp (thn h4 fun _ s5 ⟨x, H5, I5, r5, y5, st5, fr5⟩ => ?_)
    have I5' := I5.pinned (stat fr5) (T.obj _ _ st5)
    refine wpAny_passesOwn hp (thn (hg _ s5 σ3 H5 x u _ I5' r5 (step x H5 y5)) fun _ s6 ⟨σ6, H6, I6, q6⟩ => ?_)
    refine wpAny_passesOwn hp (thn (hb _ s6 σ6 H6 _ I6 q6) fun f s7 q7 => ?_)
    have again : ∀ {σ7 : St} {H7 : Hp}, Inv X (pins ++ pinsAt fp s5.heap) σ7 H7 s7 → N σ7 H7 → ∃ m, m < n ∧ ∃ i σ' H', Inv X pins σ' H' s7 ∧ tn i s7.heap ∧ (∀ b ∈ fp, H' b = none) ∧ W i m σ' H' := fun {σ7 H7} I7 n7 => by
      obtain ⟨m', hm, w7⟩ := hN σ7 H7 n7
      refine ⟨m', hm, i + 1, σ7, H7, I7.unpinned, T.keep _ _ _ st5 fun b hb o e => (I7.pin (b, o) (List.mem_append_right _ (List.mem_append_right _ (mem_pinsAt hb e)))).1, fun b hb => ?_, w7⟩
      obtain ⟨o, e, d⟩ := T.obj _ _ st5 b hb
      exact (I7.pin (b, o) (List.mem_append_right _ (List.mem_append_right _ (mem_pinsAt hb e)))).2.1
    cases f with
    | next => obtain ⟨σ7, H7, I7, n7⟩ := q7; exact again I7 n7
    | cont => obtain ⟨σ7, H7, I7, n7⟩ := q7; exact again I7 n7
    | brk => obtain ⟨σ7, H7, I7, q7⟩ := q7; exact ⟨σ7, H7, I7.unpinned, q7⟩
    | ret v => obtain ⟨x7, σ7, H7, I7, r7, q7⟩ := q7; exact ⟨x7, σ7, H7, I7.unpinned, r7, q7⟩
end

end L2

namespace L2
open PySem PySem.Spec PyProof.Rows

noncomputable abbrev R2 := V → V → Hp → VK → Prop
noncomputable def OpR (X : Cx) (f : Value → Value → Sem Value) (r : R2) : Prop :=
  ∀ (pins : List (Addr × Obj)) (s : Shared) (σ : St) (H : Hp) (x y : V) (v u : Value) (Q : VK), Inv X pins σ H s → RelV x v → RelV y u → r x y H Q →
    wpAny (model X.prog X.w) X.A (f v u) (EP X pins σ Q) X.xe s
noncomputable def UnR (X : Cx) (f : Value → Sem Value) (r : V → Hp → VK → Prop) : Prop :=
  ∀ (pins : List (Addr × Obj)) (s : Shared) (σ : St) (H : Hp) (x : V) (v : Value) (Q : VK), Inv X pins σ H s → RelV x v → r x H Q →
    wpAny (model X.prog X.w) X.A (f v) (EP X pins σ Q) X.xe s
noncomputable def CallR (X : Cx) (f : Value) (r : List V → Hp → VK → Prop) : Prop :=
  ∀ (pins : List (Addr × Obj)) (s : Shared) (σ : St) (H : Hp) (xs : List V) (us : List Value) (Q : VK), Inv X pins σ H s → Vals xs us → r xs H Q →
    wpAny (model X.prog X.w) X.A (call f us) (EP X pins σ Q) X.xe s
noncomputable def TruR (X : Cx) (r : V → Hp → (Bool → Hp → Prop) → Prop) : Prop :=
  ∀ (pins : List (Addr × Obj)) (s : Shared) (σ : St) (H : Hp) (x : V) (v : Value) (Q : Bool → Hp → Prop), Inv X pins σ H s → RelV x v → r x H Q →
    wpAny (model X.prog X.w) X.A (truthy v) (TP X pins σ Q) X.xe s

noncomputable def tOp (r : R2) (ta tb : TE) : TE := fun σ H Q => ta σ H fun x H1 => tb σ H1 fun y H2 => r x y H2 Q
noncomputable def tUn (r : V → Hp → VK → Prop) (ta : TE) : TE := fun σ H Q => ta σ H fun x H1 => r x H1 Q
noncomputable def rI (C : Int → Int → Prop) (g : Int → Int → V) : R2 := fun x y H Q => ∃ i j, x = .int i ∧ y = .int j ∧ C i j ∧ Q (g i j) H
noncomputable def rI0 (g : Int → Int → V) : R2 := fun x y H Q => ∃ i j, x = .int i ∧ y = .int j ∧ Q (g i j) H
noncomputable def rU (g : Int → V) : V → Hp → VK → Prop := fun x H Q => ∃ i, x = .int i ∧ Q (g i) H

section
variable {X : Cx} {a b c : Expr} {ta tb tc : TE} {pos : Pos}

theorem binT (ha : PE X a ta) (hb : PE X b tb) {pins : List (Addr × Obj)} {s : Shared} {σ : St} {H : Hp} {R : V → V → Hp → Prop} (I : Inv X pins σ H s)
    (h : ta σ H fun x H1 => tb σ H1 fun y H2 => R x y H2) {Q : Value → Shared → Prop} {f : Value → Value → Sem Value}
    (hf : ∀ v u s2 x y H2, Inv X pins σ H2 s2 → RelV x v → RelV y u → R x y H2 → wpAny (model X.prog X.w) X.A (f v u) Q X.xe s2) :
    wpAny (model X.prog X.w) X.A (eval a X.env) (fun v s₁ => wpAny (model X.prog X.w) X.A (eval b X.env) (fun u s₂ => wpAny (model X.prog X.w) X.A (f v u) Q X.xe s₂) X.xe s₁) X.xe s := by
  refine thn (ha pins s σ H _ I h) fun v s1 ⟨x, H1, I1, r1, q1⟩ => ?_
  refine thn (hb pins s1 σ H1 _ I1 q1) fun u s2 ⟨y, H2, I2, r2, q2⟩ => ?_
  exact hf v u s2 x y H2 I2 r1 r2 q2

theorem pe_op {op : Operator} {r : R2} (ho : OpR X (binaryOp op) r) (ha : PE X a ta) (hb : PE X b tb) : PE X (.BinOp a op b pos) (tOp r ta tb) := by
  intro pins s σ H Q I h
  exact wpAny_BinOp (binT ha hb I h fun v u s2 x y H2 I2 rx ry q => ho pins s2 σ H2 x y v u Q I2 rx ry q)
theorem pe_un {op : UnaryOp} {r : V → Hp → VK → Prop} (ho : UnR X (unaryOp op) r) (ha : PE X a ta) : PE X (.UnaryOp op a pos) (tUn r ta) := by
  intro pins s σ H Q I h
  exact UnaryOp_ (thn (ha pins s σ H _ I h) fun v s1 ⟨x, H1, I1, r1, q1⟩ => ho pins s1 σ H1 x v Q I1 r1 q1)
theorem opI {f : Value → Value → Sem Value} {C : Int → Int → Prop} {g : Int → Int → Int}
    (rule : ∀ (i j : Int) (t u : Tok) (s : Shared) (Q : Value → Shared → Prop) (E : Value → Shared → Prop), C i j → Q (.int (g i j) s.toks) { s with toks := s.toks + 1 } → wpAny (model X.prog X.w) X.A (f (.int i t) (.int j u)) Q E s) :
    OpR X f (rI C fun i j => .int (g i j)) := by
  intro pins s σ H x y v u Q I rx ry h
  obtain ⟨i, j, rfl, rfl, hc, q⟩ := h
  obtain ⟨t, rfl⟩ := rx
  obtain ⟨t', rfl⟩ := ry
  exact rule i j t t' s _ _ hc ⟨.int (g i j), H, I.tok _, ⟨_, rfl⟩, q⟩
theorem opI0 {f : Value → Value → Sem Value} {g : Int → Int → Int}
    (rule : ∀ (i j : Int) (t u : Tok) (s : Shared) (Q : Value → Shared → Prop) (E : Value → Shared → Prop), Q (.int (g i j) s.toks) { s with toks := s.toks + 1 } → wpAny (model X.prog X.w) X.A (f (.int i t) (.int j u)) Q E s) :
    OpR X f (rI0 fun i j => .int (g i j)) := by
  intro pins s σ H x y v u Q I rx ry h
  obtain ⟨i, j, rfl, rfl, q⟩ := h
  obtain ⟨t, rfl⟩ := rx
  obtain ⟨t', rfl⟩ := ry
  exact rule i j t t' s _ _ ⟨.int (g i j), H, I.tok _, ⟨_, rfl⟩, q⟩
theorem opB0 {f : Value → Value → Sem Value} {g : Int → Int → Bool}
    (rule : ∀ (i j : Int) (t u : Tok) (s : Shared) (Q : Value → Shared → Prop) (E : Value → Shared → Prop), Q (.bool (g i j)) s → wpAny (model X.prog X.w) X.A (f (.int i t) (.int j u)) Q E s) :
    OpR X f (rI0 fun i j => .bl (g i j)) := by
  intro pins s σ H x y v u Q I rx ry h
  obtain ⟨i, j, rfl, rfl, q⟩ := h
  obtain ⟨t, rfl⟩ := rx
  obtain ⟨t', rfl⟩ := ry
  exact rule i j t t' s _ _ ⟨.bl (g i j), H, I, rfl, q⟩

noncomputable def CPow (i j : Int) : Prop := 0 ≤ j ∧ j ≤ 1000000 ∧ i.natAbs < 2 ^ 64
noncomputable def CMul (i j : Int) : Prop := (-(2 ^ 64) < i ∧ i < 2 ^ 64) ∨ (-(2 ^ 64) < j ∧ j < 2 ^ 64)
theorem CMul.ok {i j : Int} (h : CMul i j) : IntMulOk i j := by
  rcases h with ⟨h1, h2⟩ | ⟨h1, h2⟩
  · exact .of_left (intBits_le_64 h1 h2)
  · exact .of_right (intBits_le_64 h1 h2)
theorem op_add : OpR X (binaryOp .Add) (rI0 fun i j => .int (i + j)) := opI0 fun _ _ _ _ _ _ _ q => add_int q
theorem op_sub : OpR X (binaryOp .Sub) (rI0 fun i j => .int (i - j)) := opI0 fun _ _ _ _ _ _ _ q => sub_int q
theorem op_mul : OpR X (binaryOp .Mult) (rI CMul fun i j => .int (i * j)) := opI fun _ _ _ _ _ _ _ hc q => mul_int q hc.ok
theorem op_mod : OpR X (binaryOp .Mod) (rI (fun _ j => 0 < j) fun i j => .int (i % j)) := opI fun i j _ _ _ _ _ hc q => by
  have h1 : (0 : Int) < j := hc
  exact mod_int' (by omega) (by rw [Int.fmod_eq_emod_of_nonneg i (by omega)]; exact q)
theorem op_pow : OpR X (binaryOp .Pow) (rI CPow fun i j => .int (i ^ j.toNat)) := opI fun _ _ _ _ _ _ _ hc q => pow_int_small hc.1 hc.2.1 hc.2.2 q
theorem unI {f : Value → Sem Value} {g : Int → Int}
    (rule : ∀ (i : Int) (t : Tok) (s : Shared) (Q : Value → Shared → Prop) (E : Value → Shared → Prop), Q (.int (g i) s.toks) { s with toks := s.toks + 1 } → wpAny (model X.prog X.w) X.A (f (.int i t)) Q E s) :
    UnR X f (rU fun i => .int (g i)) := by
  intro pins s σ H x v Q I rx h
  obtain ⟨i, rfl, q⟩ := h
  obtain ⟨t, rfl⟩ := rx
  exact rule i t s _ _ ⟨.int (g i), H, I.tok _, ⟨_, rfl⟩, q⟩
theorem un_neg : UnR X (unaryOp .USub) (rU fun i => .int (-i)) := unI fun _ _ _ _ _ q => neg_int q
end

noncomputable def scal : V → V → Bool
  | .non, .non => true | .non, .int _ => true | .int _, .non => true | .non, .bl _ => true | .bl _, .non => true | .non, .str _ => true | .str _, .non => true
  | .int _, .int _ => true | .bl _, .bl _ => true | .str _, .str _ => true | .byt _, .byt _ => true
  | .int _, .str _ => true | .str _, .int _ => true | .bl _, .str _ => true | .str _, .bl _ => true
  | _, _ => false
noncomputable def rEq : R2 := fun x y H Q => scal x y = true ∧ Q (.bl (decide (x = y))) H
noncomputable def rNe : R2 := fun x y H Q => scal x y = true ∧ Q (.bl (!decide (x = y))) H

theorem dec_int {i j : Int} : decide (V.int i = V.int j) = (i == j) := by
  rw [Bool.eq_iff_iff]
  simp
theorem dec_bl {i j : Bool} : decide (V.bl i = V.bl j) = (i == j) := by
  rw [Bool.eq_iff_iff]
  simp
theorem dec_str {i j : Str} : decide (V.str i = V.str j) = (i == j) := by
  rw [Bool.eq_iff_iff]
  simp
theorem dec_byt {i j : Array UInt8} : decide (V.byt i = V.byt j) = (i.toList == j.toList) := by
  rw [Bool.eq_iff_iff]
  cases i
  cases j
  simp

section
variable {X : Cx} {a b c : Expr} {ta tb tc : TE} {pos : Pos}
theorem fin_bl {pins : List (Addr × Obj)} {σ : St} {H : Hp} {s : Shared} {Q : VK} {k k' : Bool} (I : Inv X pins σ H s) (q : Q (.bl k) H) (e : k = k') : EP X pins σ Q (.bool k') s := by
  subst e
  exact ⟨.bl k, H, I, rfl, q⟩
theorem op_eq : OpR X (compareOp .Eq) rEq := by
  intro pins s σ H x y v u Q I rx ry h
  obtain ⟨hs, q⟩ := h
  cases x with
  | non =>
    cases rx
    cases y with
    | non => cases ry; exact PySem.EqNone.eq_none_none (fin_bl I q (by simp))
    | bl j => cases ry; exact PySem.EqNone.eq_none_bool (fin_bl I q (by simp))
    | int j => obtain ⟨t', rfl⟩ := ry; exact PySem.EqNone.eq_none_int (fin_bl I q (by simp))
    | str j => obtain ⟨t', rfl⟩ := ry; exact PySem.EqNone.eq_none_str (fin_bl I q (by simp))
    | _ => exact absurd (show false = true from hs) Bool.false_ne_true
  | bl i =>
    cases rx
    cases y with
    | non => cases ry; exact PySem.EqNone.eq_bool_none (fin_bl I q (by simp))
    | bl j => cases ry; exact eq_bool (fin_bl I q dec_bl)
    | str j => obtain ⟨t', rfl⟩ := ry; exact PySem.EqMixed.eq_bool_str (fin_bl I q (by simp))
    | _ => exact absurd (show false = true from hs) Bool.false_ne_true
  | int i =>
    obtain ⟨t, rfl⟩ := rx
    cases y with
    | non => cases ry; exact PySem.EqNone.eq_int_none (fin_bl I q (by simp))
    | int j => obtain ⟨t', rfl⟩ := ry; exact eq_int (fin_bl I q dec_int)
    | str j => obtain ⟨t', rfl⟩ := ry; exact PySem.EqMixed.eq_int_str (fin_bl I q (by simp))
    | _ => exact absurd (show false = true from hs) Bool.false_ne_true
  | str i =>
    obtain ⟨t, rfl⟩ := rx
    cases y with
    | non => cases ry; exact PySem.EqNone.eq_str_none (fin_bl I q (by simp))
    | bl j => cases ry; exact PySem.EqMixed.eq_str_bool (fin_bl I q (by simp))
    | int j => obtain ⟨t', rfl⟩ := ry; exact PySem.EqMixed.eq_str_int (fin_bl I q (by simp))
    | str j => obtain ⟨t', rfl⟩ := ry; exact eq_str (fin_bl I q dec_str)
    | _ => exact absurd (show false = true from hs) Bool.false_ne_true
  | byt i =>
    obtain ⟨t, rfl⟩ := rx
    cases y with
    | byt j => obtain ⟨t', rfl⟩ := ry; exact PySem.W.eq_bytes (fin_bl I q dec_byt)
    | _ => exact absurd (show false = true from hs) Bool.false_ne_true
  | _ => cases y <;> exact absurd (show false = true from hs) Bool.false_ne_true
theorem op_ne : OpR X (compareOp .NotEq) rNe := by
  intro pins s σ H x y v u Q I rx ry h
  obtain ⟨hs, q⟩ := h
  cases x with
  | non =>
    cases rx
    cases y with
    | non => cases ry; exact PySem.EqNone.ne_none_none (fin_bl I q (by simp))
    | bl j => cases ry; exact PySem.EqNone.ne_none_bool (fin_bl I q (by simp))
    | int j => obtain ⟨t', rfl⟩ := ry; exact PySem.EqNone.ne_none_int (fin_bl I q (by simp))
    | str j => obtain ⟨t', rfl⟩ := ry; exact PySem.EqNone.ne_none_str (fin_bl I q (by simp))
    | _ => exact absurd (show false = true from hs) Bool.false_ne_true
  | bl i =>
    cases rx
    cases y with
    | non => cases ry; exact PySem.EqNone.ne_bool_none (fin_bl I q (by simp))
    | bl j => cases ry; exact ne_bool (fin_bl I q (congrArg not dec_bl))
    | str j => obtain ⟨t', rfl⟩ := ry; exact PySem.EqMixed.ne_bool_str (fin_bl I q (by simp))
    | _ => exact absurd (show false = true from hs) Bool.false_ne_true
  | int i =>
    obtain ⟨t, rfl⟩ := rx
    cases y with
    | non => cases ry; exact PySem.EqNone.ne_int_none (fin_bl I q (by simp))
    | int j => obtain ⟨t', rfl⟩ := ry; exact ne_int (fin_bl I q (congrArg not dec_int))
    | str j => obtain ⟨t', rfl⟩ := ry; exact PySem.EqMixed.ne_int_str (fin_bl I q (by simp))
    | _ => exact absurd (show false = true from hs) Bool.false_ne_true
  | str i =>
    obtain ⟨t, rfl⟩ := rx
    cases y with
    | non => cases ry; exact PySem.EqNone.ne_str_none (fin_bl I q (by simp))
    | bl j => cases ry; exact PySem.EqMixed.ne_str_bool (fin_bl I q (by simp))
    | int j => obtain ⟨t', rfl⟩ := ry; exact PySem.EqMixed.ne_str_int (fin_bl I q (by simp))
    | str j => obtain ⟨t', rfl⟩ := ry; exact ne_str (fin_bl I q (congrArg not dec_str))
    | _ => exact absurd (show false = true from hs) Bool.false_ne_true
  | byt i =>
    obtain ⟨t, rfl⟩ := rx
    cases y with
    | byt j => obtain ⟨t', rfl⟩ := ry; exact PySem.W.ne_bytes (fin_bl I q (congrArg not dec_byt))
    | _ => exact absurd (show false = true from hs) Bool.false_ne_true
  | _ => cases y <;> exact absurd (show false = true from hs) Bool.false_ne_true

theorem op_lt : OpR X (compareOp .Lt) (rI0 fun i j => .bl (decide (i < j))) := opB0 fun _ _ _ _ _ _ _ q => lt_int q
theorem op_gt : OpR X (compareOp .Gt) (rI0 fun i j => .bl (decide (j < i))) := opB0 fun _ _ _ _ _ _ _ q => gt_int q
theorem op_ge : OpR X (compareOp .GtE) (rI0 fun i j => .bl (decide (j ≤ i))) := opB0 fun _ _ _ _ _ _ _ q => ge_int q
theorem op_in_str : OpR X (compareOp .In) (fun x y H Q => ∃ i j, x = .str i ∧ y = .str j ∧ Q (.bl (!(Builtin.Str.occurrences j i 0 j.length 1).isEmpty)) H) := by
  intro pins s σ H x y v u Q I rx ry h
  obtain ⟨i, j, rfl, rfl, q⟩ := h
  obtain ⟨t, rfl⟩ := rx
  obtain ⟨t', rfl⟩ := ry
  exact in_str (fin_bl I q rfl)

theorem op_isN : OpR X (compareOp .Is) (fun x y H Q => y = .non ∧ Q (.bl (decide (x = .non))) H) := by
  intro pins s σ H x y v u Q I rx ry h
  obtain ⟨rfl, q⟩ := h
  cases ry
  refine is_none_gen (fin_bl I q ?_)
  cases x <;> first
    | (cases rx; rfl)
    | (obtain ⟨t, rfl⟩ := rx; rfl)
theorem op_notN : OpR X (compareOp .IsNot) (fun x y H Q => y = .non ∧ Q (.bl (!decide (x = .non))) H) := by
  intro pins s σ H x y v u Q I rx ry h
  obtain ⟨rfl, q⟩ := h
  cases ry
  refine isnot_none_gen (fin_bl I q ?_)
  cases x <;> first
    | (cases rx; rfl)
    | (obtain ⟨t, rfl⟩ := rx; rfl)

theorem OpR.or {f : Value → Value → Sem Value} {r r' : R2} (h : OpR X f r) (h' : OpR X f r') : OpR X f (fun x y H Q => r x y H Q ∨ r' x y H Q) := by
  intro pins s σ H x y v u Q I rx ry q
  rcases q with q | q
  · exact h pins s σ H x y v u Q I rx ry q
  · exact h' pins s σ H x y v u Q I rx ry q

theorem nomark (b : Expr) {op : CmpOp} (h : op ≠ .In := by decide) (h2 : op ≠ .NotIn := by decide) : behindInMarks op b = false := by
  have e1 : (op == CmpOp.In) = false := by cases op <;> first | rfl | exact absurd rfl h
  have e2 : (op == CmpOp.NotIn) = false := by cases op <;> first | rfl | exact absurd rfl h2
  cases b <;> simp [behindInMarks, e1, e2]
theorem pe_cmpR {op : CmpOp} {r : R2} (ho : OpR X (compareOp op) r) (ha : PE X a ta) (hb : PE X b tb) (hm : behindInMarks op b = false) : PE X (.Compare a [op] [b] pos) (tOp r ta tb) := by
  intro pins s σ H Q I h
  exact wpAny_Compare1 (binT ha hb I h fun v u s2 x y H2 I2 rx ry q => ho pins s2 σ H2 x y v u Q I2 rx ry q) hm
noncomputable def tTest (t : TE) : TT := fun σ H Q => t σ H fun x H' => ∃ k, x = .bl k ∧ Q k H'
theorem pt_cmpR {op : CmpOp} {r : R2} (ho : OpR X (compareOp op) r) (ha : PE X a ta) (hb : PE X b tb) (hm : behindInMarks op b = false) : PT X (.Compare a [op] [b] pos) (tTest (tOp r ta tb)) := by
  intro pins s σ H Q I h
  refine wpAny_isTrue_Compare1 (thn (ha pins s σ H _ I h) fun v s1 ⟨x, H1, I1, r1, q1⟩ => thn (hb pins s1 σ H1 _ I1 q1) fun u s2 ⟨y, H2, I2, r2, q2⟩ =>
    thn (ho pins s2 σ H2 x y v u _ I2 r1 r2 q2) fun c s3 ⟨z, H3, I3, r3, k, e, q3⟩ => ?_) hm
  subst e
  cases r3
  exact wpAny_truthy_bool ⟨H3, I3, q3⟩
noncomputable def TruV (K : PySem.W.Frag) (x : V) (H : Hp) (k : Bool) : Prop :=
  match x with
  | .non => k = false
  | .bl b => k = b
  | .int i => k = (i != 0)
  | .str y => y.length ≤ sizeLine ∧ k = ((y.length : Int) != 0)
  | .byt y => y.size ≤ sizeLine ∧ k = ((y.size : Int) != 0)
  | .ref p => (∃ xs, SqL K H p xs ∧ k = !xs.isEmpty) ∨ (∃ xs, SqT K H p xs ∧ k = !xs.isEmpty) ∨ ∃ kvs, H p = some (.dK kvs) ∧ k = !kvs.isEmpty
  | _ => False
theorem isEmpty_kv {κ : Type} {kvs : List (κ × V)} {vs : List (κ × Value)} (r : KV kvs vs) : (!vs.isEmpty) = !kvs.isEmpty := by
  cases r <;> rfl
theorem isEmpty_of {xs : List V} {its : List Value} (r : Vals xs its) : (!its.toArray.isEmpty) = !xs.isEmpty := by
  cases r <;> simp
theorem line63 : (sizeLine : Nat) < 2 ^ 63 := by rw [sizeLine_eq]; decide
theorem tru_ok : TruR X (fun x H Q => ∃ k, TruV X.K x H k ∧ Q k H) := by
  intro pins s σ H x v Q I rx h
  obtain ⟨k, e, q⟩ := h
  have hl := line63
  have hs : sizeLine = 16777216 := sizeLine_eq
  cases x with
  | non =>
    cases rx
    have e' : k = false := e
    subst e'
    exact truthy_none ⟨H, I, q⟩
  | bl b =>
    cases rx
    have e' : k = b := e
    subst e'
    exact wpAny_truthy_bool ⟨H, I, q⟩
  | int i =>
    obtain ⟨t, rfl⟩ := rx
    have e' : k = (i != 0) := e
    subst e'
    exact PySem.P.truthy_int ⟨H, I, q⟩
  | str y =>
    obtain ⟨t, rfl⟩ := rx
    obtain ⟨hy, e'⟩ : y.length ≤ sizeLine ∧ k = ((y.length : Int) != 0) := e
    subst e'
    exact PySem.P.truthy_str (by omega) ⟨H, I.tok _, q⟩
  | byt y =>
    obtain ⟨t, rfl⟩ := rx
    obtain ⟨hy, e'⟩ : y.size ≤ sizeLine ∧ k = ((y.size : Int) != 0) := e
    subst e'
    exact PySem.W.truthy_bytes (by omega) ⟨H, I.tok _, q⟩
  | ref p =>
    cases rx
    have e' : (∃ xs, SqL X.K H p xs ∧ k = !xs.isEmpty) ∨ (∃ xs, SqT X.K H p xs ∧ k = !xs.isEmpty) ∨ ∃ kvs, H p = some (.dK kvs) ∧ k = !kvs.isEmpty := e
    rcases e' with ⟨xs, hx, e'⟩ | ⟨xs, hx, e'⟩ | ⟨kvs, hx, e'⟩
    · subst e'
      obtain ⟨its, r, pl, hz⟩ := I.list hx
      have hlen := r.length
      exact wpAny_truthy_list pl.isList (by simp only [List.size_toArray]; omega) ⟨H, I.tok _, by rw [isEmpty_of r]; exact q⟩
    · subst e'
      obtain ⟨its, r, pl, hz⟩ := I.tuple hx
      have hlen := r.length
      exact truthy_tuple pl (by simp only [List.size_toArray]; omega) ⟨H, I.tok _, by rw [isEmpty_of r]; exact q⟩
    · subst e'
      obtain ⟨hz, hS, vs, r, m⟩ : kvs.length ≤ sizeLine ∧ (p == sysModules) = false ∧ ∃ vs, KV kvs vs ∧ s.heap.DictOf (mixKind X.prog X.w) p vs := I.hok p _ hx
      have hlen : kvs.length = vs.length := Paired.length r
      exact wpAny_truthy_dict hS m (by omega) ⟨H, I.tok _, by rw [isEmpty_kv r]; exact q⟩
  | _ => exact (show False from e).elim
theorem pt_truth (ha : PE X a ta) (he : ∀ whole, isTrue a X.env whole = (do let v ← whole; standAt a.pos; holding [v] (truthy v))) :
    PT X a (fun σ H Q => ta σ H fun x H' => ∃ k, TruV X.K x H' k ∧ Q k H') := by
  intro pins s σ H Q I h
  exact isTrue_plain (thn (ha pins s σ H _ I h) fun v s1 ⟨x, H1, I1, r1, q1⟩ => tru_ok pins s1 σ H1 x v Q I1 r1 q1) (he _)

theorem op_add_str : OpR X (binaryOp .Add) (fun x y H Q => ∃ i j, x = .str i ∧ y = .str j ∧ i.length + j.length ≤ sizeLine ∧ Q (.str (i ++ j)) H) := by
  intro pins s σ H x y v u Q I rx ry h
  obtain ⟨i, j, rfl, rfl, hz, q⟩ := h
  obtain ⟨t, rfl⟩ := rx
  obtain ⟨t', rfl⟩ := ry
  exact add_str (fun t' tk => ⟨.str (i ++ j), H, I.tok _, ⟨_, rfl⟩, q⟩) hz
theorem vals1 {x : V} {us : List Value} (r : Vals [x] us) : ∃ u, us = [u] ∧ RelV x u := by
  cases r with
  | cons r1 r2 => cases r2; exact ⟨_, rfl, r1⟩
theorem vals2 {x y : V} {us : List Value} (r : Vals [x, y] us) : ∃ u w', us = [u, w'] ∧ RelV x u ∧ RelV y w' := by
  cases r with
  | cons r1 r2 =>
    cases r2 with
    | cons r3 r4 => cases r4; exact ⟨_, _, rfl, r1, r3⟩
theorem call_int1 : CallR X (.type "int") (fun xs H Q => (∃ i, xs = [.int i] ∧ Q (.int i) H) ∨ ∃ k, xs = [.bl k] ∧ Q (.int (if k then 1 else 0)) H) := by
  intro pins s σ H xs us Q I r h
  rcases h with ⟨i, rfl, q⟩ | ⟨k, rfl, q⟩
  · obtain ⟨u, rfl, t, rfl⟩ := vals1 r
    exact call_int_int ⟨.int i, H, I, ⟨_, rfl⟩, q⟩
  · obtain ⟨u, rfl, r1⟩ := vals1 r
    cases r1
    exact call_int_bool ⟨.int (if k then 1 else 0), H, I.tok _, ⟨_, rfl⟩, q⟩
noncomputable def LenV (K : PySem.W.Frag) (x : V) (H : Hp) (n : Nat) : Prop :=
  match x with
  | .str y => y.length ≤ sizeLine ∧ n = y.length
  | .byt y => y.size ≤ sizeLine ∧ n = y.size
  | .ref p => (∃ xs, SqL K H p xs ∧ n = xs.length) ∨ ∃ xs, SqT K H p xs ∧ n = xs.length
  | _ => False
theorem call_len : CallR X (.builtin "len") (fun xs H Q => ∃ x n, xs = [x] ∧ LenV X.K x H n ∧ Q (.int n) H) := by
  intro pins s σ H xs us Q I r h
  obtain ⟨x, n, rfl, e, q⟩ := h
  obtain ⟨u, rfl, rx⟩ := vals1 r
  have hl := line63
  have hs : sizeLine = 16777216 := sizeLine_eq
  cases x with
  | str y =>
    obtain ⟨t, rfl⟩ := rx
    obtain ⟨hy, e'⟩ : y.length ≤ sizeLine ∧ n = y.length := e
    subst e'
    exact len_str (by omega) ⟨.int _, H, I.tok _, ⟨_, rfl⟩, q⟩
  | byt y =>
    obtain ⟨t, rfl⟩ := rx
    obtain ⟨hy, e'⟩ : y.size ≤ sizeLine ∧ n = y.size := e
    subst e'
    exact PySem.W.len_bytes (by omega) ⟨.int _, H, I.tok _, ⟨_, rfl⟩, q⟩
  | ref p =>
    cases rx
    have e' : (∃ xs, SqL X.K H p xs ∧ n = xs.length) ∨ ∃ xs, SqT X.K H p xs ∧ n = xs.length := e
    rcases e' with ⟨xs, hx, e'⟩ | ⟨xs, hx, e'⟩
    · subst e'
      obtain ⟨its, r', pl, hz⟩ := I.list hx
      have hlen := r'.length
      exact Calls.call_len_list pl.isList (by simp only [List.size_toArray]; omega) ⟨.int xs.length, H, I.tok _, ⟨_, by simp only [List.size_toArray]; rw [hlen]⟩, q⟩
    · subst e'
      obtain ⟨its, r', pl, hz⟩ := I.tuple hx
      have hlen := r'.length
      exact len_tuple pl (by simp only [List.size_toArray]; omega) ⟨.int xs.length, H, I.tok _, ⟨_, by simp only [List.size_toArray]; rw [hlen]⟩, q⟩
  | _ => exact (show False from e).elim
end
end L2

namespace L2
open PySem PySem.Spec PyProof.Rows

structure ObjM (h : Heap) (x dx C : Addr) (mA : Str → Option Value) : Prop where
  obj : h.get? x = some (PySem.W.instObj C dx)
  ns : h.Ns1 dx mA
  ne : dx ≠ x

theorem lookIn_ns {h : Heap} {dx : Addr} {mA : Str → Option Value} (n : h.Ns1 dx mA) : ∃ od, h.get? dx = some od ∧ ∀ name, PySem.W.lookIn name od = some (mA name) := by
  obtain ⟨o, es, ep, ho, hd, hk, _, hm⟩ := n
  refine ⟨o, ho, fun name => ?_⟩
  have e := hm name
  unfold nsFind findBy at e
  rw [← Array.find?_toList] at e
  unfold PySem.W.lookIn
  rw [hd]
  dsimp only
  split
  · rename_i y q
    rw [q] at e
    exact congrArg some e
  · rename_i q
    rw [q] at e
    have a : es.toList.any (·.refKey) = false := by
      rw [List.any_eq_false]
      intro y hy
      obtain ⟨z, t, hkey⟩ := hk y (Array.mem_toList_iff.mp hy)
      simp [DictEntry.refKey, hkey]
    have a' : ¬ es.toList.any (·.refKey) = true := by rw [a]; exact Bool.false_ne_true
    rw [if_neg a']
    exact congrArg some e

theorem ObjM.look {h : Heap} {x dx C : Addr} {mA : Str → Option Value} (I : ObjM h x dx C mA) : ∃ od, PySem.W.InstAt h x (PySem.W.instObj C dx) C (some od) ∧ ∀ name, PySem.W.lookIn name od = some (mA name) :=
  let ⟨od, ho, hl⟩ := lookIn_ns I.ns
  ⟨od, ⟨I.obj, rfl, rfl, ho⟩, hl⟩


noncomputable def putF (f : Str) (v : V) : List (Str × V) → List (Str × V)
  | [] => [(f, v)]
  | (g, x) :: r => if g = f then (g, v) :: r else (g, x) :: putF f v r
theorem lookup_putF (f g : Str) (v : V) : ∀ fs : List (Str × V), (putF f v fs).lookup g = if g = f then some v else fs.lookup g
  | [] => by
    show List.lookup g [(f, v)] = _
    by_cases h : g = f
    · have hb : (g == f) = true := beq_iff_eq.mpr h
      simp only [List.lookup, hb, if_pos h]
    · have hb : (g == f) = false := beq_eq_false_iff_ne.mpr h
      simp only [List.lookup, hb, if_neg h]
  | (k, x) :: r => by
    have ih := lookup_putF f g v r
    rw [show putF f v ((k, x) :: r) = (if k = f then (k, v) :: r else (k, x) :: putF f v r) from rfl]
    by_cases hk : k = f
    · rw [if_pos hk]
      by_cases h : g = k
      · have hb : (g == k) = true := beq_iff_eq.mpr h
        simp only [List.lookup, hb, if_pos (h.trans hk)]
      · have hb : (g == k) = false := beq_eq_false_iff_ne.mpr h
        simp only [List.lookup, hb, if_neg (fun e : g = f => h (e.trans hk.symm))]
    · rw [if_neg hk]
      by_cases h : g = k
      · have hb : (g == k) = true := beq_iff_eq.mpr h
        simp only [List.lookup, hb, if_neg (fun e : g = f => hk (h.symm.trans e))]
      · have hb : (g == k) = false := beq_eq_false_iff_ne.mpr h
        simp only [List.lookup, hb]
        exact ih
theorem keys_putF (f : Str) (v : V) : ∀ fs : List (Str × V), f ∈ (putF f v fs).map (·.1) ∧ ∀ g, g ∈ fs.map (·.1) → g ∈ (putF f v fs).map (·.1)
  | [] => ⟨by simp [putF], fun g h => by simp at h⟩
  | (k, x) :: r => by
    obtain ⟨i1, i2⟩ := keys_putF f v r
    rw [show putF f v ((k, x) :: r) = (if k = f then (k, v) :: r else (k, x) :: putF f v r) from rfl]
    by_cases hk : k = f
    · rw [if_pos hk]
      subst hk
      exact ⟨by simp, fun g h => by simpa using h⟩
    · rw [if_neg hk]
      refine ⟨?_, fun g h => ?_⟩
      · rw [List.map_cons]
        exact List.mem_cons_of_mem _ i1
      · rw [List.map_cons] at h ⊢
        rcases List.mem_cons.mp h with e | e
        · exact List.mem_cons.mpr (.inl e)
        · exact List.mem_cons_of_mem _ (i2 g e)
theorem RelO.some_of {v : V} {o : Option Value} (r : RelO (some v) o) : ∃ u, o = some u ∧ RelV v u := by
  cases o with
  | none => exact (show False from r).elim
  | some u => exact ⟨u, rfl, r⟩
theorem handed_of {v : V} {u : Value} (r : RelV v u) : PySem.W.handedIn u = true := by
  cases v with
  | non => cases (show u = Value.none from r); rfl
  | bl b => cases (show u = Value.bool b from r); rfl
  | int i => obtain ⟨t, e⟩ := (show ∃ t, u = Value.int i t from r); cases e; rfl
  | str x => obtain ⟨t, e⟩ := (show ∃ t, u = Value.str x t from r); cases e; rfl
  | byt b => obtain ⟨t, e⟩ := (show ∃ t, u = Value.bytes b t from r); cases e; rfl
  | flt b => obtain ⟨t, e⟩ := (show ∃ t, u = Value.float b t from r); cases e; rfl
  | ref a => cases (show u = Value.ref a from r); rfl
  | ty n => cases (show u = Value.type n from r); rfl

section
variable {P : Program} {w : World} {H H' : Hp} {h h' : Heap} {a C dx : Addr} {fs fs' : List (Str × V)}
theorem ins_get (hok : HOk P w H h) (e : H a = some (.ins C dx fs)) : ∃ mA, ObjM h a dx C mA ∧ (∀ f, RelO (fs.lookup f) (mA f)) ∧ PySem.Within mA (fs.map (·.1)) ∧ fs.length ≤ 1000 ∧ H dx = some (.own a) := by
  obtain ⟨d, z, ne, ob, mA, n, r, q⟩ := (show ObjOk P w H h a (.ins C dx fs) from hok a _ e)
  exact ⟨mA, ⟨ob, n, ne⟩, r, q, z, d⟩
end

structure Cls (K : PySem.W.Frag) (C : Addr) : Prop where
  pg : PySem.W.plainGet K C Str.empty = true
  hd : PySem.W.hasDictIn K C = true
  po : PySem.W.plainOver K C = true
  sa : PySem.W.findIn K (.ref C) "__setattr__" = some (some (.builtin "object.__setattr__"))
theorem Cls.get {K : PySem.W.Frag} {C : Addr} (c : Cls K C) (f : Str) : PySem.W.plainGet K C f = true := c.pg
noncomputable def NoAttr (K : PySem.W.Frag) (C : Addr) (f : Str) : Prop := PySem.W.findIn K (.ref C) f = some none
section
variable {X : Cx} {pins : List (Addr × Obj)} {σ : St} {H : Hp} {s : Shared} {a C dx : Addr} {fs : List (Str × V)} {f : Str} {v : V} {A : Around} {E : Value → Shared → Prop}

theorem attr_of {prog : Program} {w : World} {env : Env} {e : Expr} {f : Str} {pos : Pos} {s : Shared} {Q : Value → Shared → Prop} (hb : attributeBase e f env (eval e env) = eval e env)
    (h : wpAny (model prog w) A (eval e env) (fun o s₁ => wpAny (model prog w) A (getAttr o f true) Q E s₁) E s) : wpAny (model prog w) A (eval (.Attribute e f pos) env) Q E s :=
  Attribute_any_ h (by rw [arm_eval_Attribute, hb])
end


section
variable {X : Cx} {pins : List (Addr × Obj)} {σ : St} {H : Hp} {s : Shared} {A : Around} {E : Value → Shared → Prop} {Q : Value → Shared → Prop} {c : Value} {b : Bool}
inductive TyOf (K : PySem.W.Frag) (H : Hp) : V → Value → Prop where
  | non : TyOf K H .non (.type "NoneType")
  | bl (x : Bool) : TyOf K H (.bl x) (.type "bool")
  | int (i : Int) : TyOf K H (.int i) (.type "int")
  | str (x : Str) : TyOf K H (.str x) (.type "str")
  | flt (x : UInt64) : TyOf K H (.flt x) (.type "float")
  | lst {a : Addr} {xs : List V} (e : H a = some (.lst xs)) : TyOf K H (.ref a) (.type "list")
  | frz {a : Addr} {o : Obj} {xs : List V} (e : H a = some (.frz o (.lst xs))) : TyOf K H (.ref a) (.type "list")
  | tup {a : Addr} {xs : List V} (e : H a = some (.tup xs)) : TyOf K H (.ref a) (.type "tuple")
  | dK {a : Addr} {kvs : List (Key × V)} (e : H a = some (.dK kvs)) : TyOf K H (.ref a) (.type "dict")
  | dT {a : Addr} {kvs : List (List Key × V)} (e : H a = some (.dT kvs)) : TyOf K H (.ref a) (.type "dict")
  | ins {a C dx : Addr} {fs : List (Str × V)} (e : H a = some (.ins C dx fs)) (cl : Cls K C) (ha : PySem.W.findIn K (.ref C) "__class__" = some (some (.builtin "object.__class__")))
      (hn : PySem.W.specialIn K (.builtin "object.__class__") "__get__" = some (some (.builtin "getset_descriptor.__get__"))) (htk : PySem.W.takesIn K (.builtin "object.__class__") = some true)
      (hm : PySem.W.mroIn K C (.type "object") = some true) : TyOf K H (.ref a) (.ref C)
theorem isinst_ok {x : V} {u t : Value} (I : Inv X pins σ H s) (rx : RelV x u) (ty : TyOf X.K H x t) (e : PySem.W.kitOne X.K t c = some b) (h : ∀ tk, Q (.bool b) { s with toks := tk }) :
    wpAny (model X.prog X.w) A (call (.builtin "isinstance") [u, c]) Q E s := by
  cases ty with
  | non => cases (show u = Value.none from rx); exact PySem.W.kia_one PySem.W.kitx_none I.kIn True.intro e (fun z => nomatch z) h
  | bl y => cases (show u = Value.bool y from rx); exact PySem.W.kia_one PySem.W.kitx_bool I.kIn True.intro e (fun z => nomatch z) h
  | int i => obtain ⟨t, q⟩ := (show ∃ t, u = Value.int i t from rx); cases q; exact PySem.W.kia_one PySem.W.kitx_int I.kIn True.intro e (fun z => nomatch z) h
  | str y => obtain ⟨t, q⟩ := (show ∃ t, u = Value.str y t from rx); cases q; exact PySem.W.kia_one PySem.W.kitx_str I.kIn True.intro e (fun z => nomatch z) h
  | flt y => obtain ⟨t, q⟩ := (show ∃ t, u = Value.float y t from rx); cases q; exact PySem.W.kia_one PySem.W.kitx_float I.kIn True.intro e (fun z => nomatch z) h
  | @lst a xs ea =>
    cases (show u = Value.ref a from rx)
    obtain ⟨_, _, n, _, h1⟩ := (show ObjOk X.prog X.w H s.heap a (.lst xs) from I.hok a _ ea)
    exact PySem.W.kia_one PySem.W.kitx_list I.kIn ⟨_, h1, rfl⟩ e (fun z => nomatch z) h
  | @frz a ob xs ea =>
    cases (show u = Value.ref a from rx)
    obtain ⟨_, _, _, n, _, h1⟩ := (show ObjOk X.prog X.w H s.heap a (.frz ob (.lst xs)) from I.hok a _ ea)
    exact PySem.W.kia_one PySem.W.kitx_list I.kIn ⟨_, h1, rfl⟩ e (fun z => nomatch z) h
  | @tup a xs ea =>
    cases (show u = Value.ref a from rx)
    obtain ⟨_, _, _, p⟩ := (show ObjOk X.prog X.w H s.heap a (.tup xs) from I.hok a _ ea)
    obtain ⟨o, h1, h2, _⟩ := p
    exact PySem.W.kia_one PySem.W.kitx_tuple I.kIn ⟨o, h1, h2⟩ e (fun z => nomatch z) h
  | @dK a kvs ea =>
    cases (show u = Value.ref a from rx)
    obtain ⟨_, _, vs, _, p⟩ := (show ObjOk X.prog X.w H s.heap a (.dK kvs) from I.hok a _ ea)
    obtain ⟨o, es, ep, h1, h2, _⟩ := p
    exact PySem.W.kia_one PySem.W.kitx_dict I.kIn ⟨o, h1, h2.1⟩ e (fun z => nomatch z) h
  | @dT a kvs ea =>
    cases (show u = Value.ref a from rx)
    obtain ⟨_, _, xs, _, o, es, ep, h1, h2, _⟩ := (show ObjOk X.prog X.w H s.heap a (.dT kvs) from I.hok a _ ea)
    exact PySem.W.kia_one PySem.W.kitx_dict I.kIn ⟨o, h1, h2.1⟩ e (fun z => nomatch z) h
  | @ins a C dx fs ea cl ha hn htk hm =>
    cases (show u = Value.ref a from rx)
    obtain ⟨mA, O, _⟩ := ins_get I.hok ea
    obtain ⟨od, J, _⟩ := O.look
    exact PySem.W.kia_one (PySem.W.kitx_own (cl.get _) cl.hd ha hn htk hm) I.kIn J e (fun z => nomatch z) h
end
end L2

namespace L2
open PySem PySem.Spec PyProof.Rows

structure Room (k : Nat) (A : Around) : Prop where
  hd : A.handled = none
  dp : A.depth + 3 * k + 5 < recursionLimit
  un : A.units + 16 * k + 200 < cLine
theorem Room.mono {j k : Nat} {A : Around} (r : Room k A) (h : j ≤ k) : Room j A := ⟨r.hd, by have := r.dp; omega, by have := r.un; omega⟩
theorem Room.deeper {k : Nat} {A : Around} (r : Room (k + 1) A) (env : Env) : Room k (A.deeper env) :=
  ⟨r.hd, by have := r.dp; show A.depth + 1 + 3 * k + 5 < _; omega, by have := r.un; show A.units + 3 + 16 * k + 200 < _; omega⟩
theorem make_depth {A : Around} {C : Addr} {us : List Value} {kw : List (Str × Value)} : (A.under (.builtin "type.__call__" ⟨.ref C :: us, kw⟩)).depth = A.depth + 1 := by
  first | rfl | simp [Around.under, Code.weight, Code.isCreation, Code.isGuard, Code.isCaller, Code.frames, Code.isFrame, guardIds]
theorem make_units {A : Around} {C : Addr} {us : List Value} {kw : List (Str × Value)} : (A.under (.builtin "type.__call__" ⟨.ref C :: us, kw⟩)).units = A.units + 1 := by
  first | rfl | simp [Around.under, Code.cUnits, Code.frames, Code.isFrame]
theorem Room.make {k : Nat} {A : Around} (r : Room (k + 1) A) (C : Addr) (us : List Value) (kw : List (Str × Value)) : Room k (A.under (.builtin "type.__call__" ⟨.ref C :: us, kw⟩)) :=
  ⟨r.hd, by have := r.dp; rw [make_depth]; omega, by have := r.un; rw [make_units]; omega⟩
theorem Room.depth {k : Nat} {A : Around} (r : Room k A) : A.depth < recursionLimit := by have := r.dp; omega
theorem Room.units {k : Nat} {A : Around} (r : Room k A) : A.units + 64 < cLine := by have := r.un; omega
noncomputable def tNil : TA := fun _ H Q => Q [] H
noncomputable def tCons (ta : TE) (tr : TA) : TA := fun σ H Q => ta σ H fun x H1 => tr σ H1 fun xs H2 => Q (x :: xs) H2
section
variable {X : Cx} {e : Expr} {es : List Expr} {te : TE} {t : TA} {pos : Pos}
theorem pa_nil : PA X [] tNil := fun _ _ _ _ H Q I h => Calls.spliced_nil ⟨[], H, I, .nil, h⟩
theorem pa_cons (ha : PE X e te) (hr : PA X es t) (hs : starEach (e :: es) X.env = (false, eval e X.env) :: starEach es X.env := by rfl) : PA X (e :: es) (tCons te t) := by
  intro pos pins s σ H Q I h
  rw [hs]
  show wpAny _ _ (spliced ((false, eval e X.env) :: backTo pos (starEach es X.env))) _ _ s
  refine Calls.spliced_cons (thn (ha pins s σ H _ I h) fun u s1 ⟨x, H1, I1, r1, q1⟩ => ?_)
  exact thn (hr pos pins s1 σ H1 _ I1 q1) fun us s2 ⟨xs, H2, I2, r2, q2⟩ => ⟨x :: xs, H2, I2, .cons r1 r2, q2⟩

noncomputable def tTup (t : TA) : TE := fun σ H Q => t σ H fun xs H1 => xs.length ≤ sizeLine ∧ ∀ p, H1 p = none → Q (.ref p) (upd H1 p (.tup xs))
noncomputable def tLst (t : TA) : TE := fun σ H Q => t σ H fun xs H1 => xs.length ≤ sizeLine ∧ ∀ p, H1 p = none → Q (.ref p) (upd H1 p (.lst xs))
theorem pe_tup {x1} (h : PA X es t) : PE X (.Tuple es x1 pos) (tTup t) := by
  intro pins s σ H Q I hq
  refine wpAny_Tuple_spliced (thn (h pos pins s σ H _ I hq) fun us s1 ⟨xs, H1, I1, r, z, q⟩ => ⟨by rw [← r.length]; exact z, ?_⟩)
  have hf : H1 s1.heap.objs.size = none := I1.hok.fresh (Nat.le_refl _)
  refine ⟨.ref s1.heap.objs.size, upd H1 s1.heap.objs.size (.tup xs), I1.laid (t' := s1.toks) (fun b u e => Heap.get?_push_of_some _ e) (Nat.le_refl _) ?_, rfl, q _ hf⟩
  exact ⟨z, us, r, ⟨_, Heap.get?_push_size _ rfl, rfl, _, rfl⟩⟩
theorem pe_lst (h : PA X es t) : PE X (.List es pos) (tLst t) := by
  intro pins s σ H Q I hq
  refine wpAny_List_spliced (thn (h pos pins s σ H _ I hq) fun us s1 ⟨xs, H1, I1, r, z, q⟩ => ⟨by rw [← r.length]; exact z, ?_⟩)
  have hf : H1 s1.heap.objs.size = none := I1.hok.fresh (Nat.le_refl _)
  refine ⟨.ref s1.heap.objs.size, upd H1 s1.heap.objs.size (.lst xs), I1.laid (t' := s1.toks) (fun b u e => Heap.get?_push_of_some _ e) (Nat.le_refl _) ?_, rfl, q _ hf⟩
  exact ⟨z, us, 0, r, Heap.get?_push_size _ rfl⟩
end

noncomputable abbrev Sp := List V → Hp → VK → XK → Prop
noncomputable abbrev CXT := List Env → Hp → Shared → XK → Value → Shared → Prop

structure Env0 (P : Program) (w : World) (K : PySem.W.Frag) (mg : Str → Option Value) (base : Heap) (A : Around) (outer : List Env) (s : Shared) (H : Hp) : Prop where
  frames : A.frames = some outer
  mod : Mod K mg base
  bs : ∀ b o, base.get? b = some o → s.heap.get? b = some o ∧ H b = none
  bsz : base.objs.size ≤ s.heap.objs.size
  funs : s.heap.FunFrames base outer
  frf : ∀ b ∈ frs outer, H b = none
  hok : HOk P w H s.heap
  bare : AllBare s.gens
  tb : ∀ p ∈ tabsK K, H p.1 = some (.ctab p.2)
noncomputable def CE (outer : List Env) (P : Program) (w : World) (H : Hp) (s : Shared) (Q : VK) (u : Value) (s' : Shared) : Prop :=
  ∃ v H', s'.os = s.os ∧ AllBare s'.gens ∧ Un (frs outer) [] H H' s.heap s'.heap ∧ HOk P w H' s'.heap ∧ RelV v u ∧ Q v H'
noncomputable def CR (CX : CXT) (outer : List Env) (P : Program) (w : World) (H : Hp) (s : Shared) (Q : VK) (E : XK) (r : Result) (s' : Shared) : Prop :=
  match r with
  | .ok (.ret u) => CE outer P w H s Q u s'
  | .ok _ => False
  | .error e => CX outer H s E e s'
structure FnOk (P : Program) (w : World) (K : PySem.W.Frag) (mg : Str → Option Value) (base : Heap) (CX : CXT) (k : Nat) (f : Addr) (fd : FuncData) (ps : List Str) (sp : Sp) : Prop where
  len : ∀ vs H Q E, sp vs H Q E → vs.length = ps.length
  run : ∀ (A : Around) (outer : List Env) (s : Shared) (H : Hp) (args : Args) (us : List Value) (vs : List V) (Q : VK) (E : XK), Room k A → Env0 P w K mg base A outer s H → BindsTo s fd args (ps.zip us) → Vals vs us → sp vs H Q E →
    codeAny (model P w) A (.call (.ref f) args) (CR CX outer P w H s Q E) s
theorem FnOk.imp {P : Program} {w : World} {K : PySem.W.Frag} {mg : Str → Option Value} {base : Heap} {CX : CXT} {k : Nat} {f : Addr} {fd : FuncData} {ps : List Str} {sp sp' : Sp} (F : FnOk P w K mg base CX k f fd ps sp)
    (h : ∀ vs H Q E, sp' vs H Q E → sp vs H Q E) : FnOk P w K mg base CX k f fd ps sp' :=
  ⟨fun vs H Q E q => F.len vs H Q E (h _ _ _ _ q), fun A outer s H args us vs Q E hr he hb hv hs => F.run A outer s H args us vs Q E hr he hb hv (h _ _ _ _ hs)⟩

theorem Env0.make {P : Program} {w : World} {K : PySem.W.Frag} {mg : Str → Option Value} {base : Heap} {A : Around} {outer : List Env} {s : Shared} {H : Hp} (e : Env0 P w K mg base A outer s H) (C : Addr) (us : List Value) (kw : List (Str × Value)) :
    Env0 P w K mg base (A.under (.builtin "type.__call__" ⟨.ref C :: us, kw⟩)) outer s H := ⟨by first | exact e.frames | (simpa [Around.under, Code.envs, Code.isFrame, pushEnvs] using e.frames), e.mod, e.bs, e.bsz, e.funs, e.frf, e.hok, e.bare, e.tb⟩
section
variable {X : Cx} {pins : List (Addr × Obj)} {σ : St} {H : Hp} {s s' : Shared}
theorem Inv.env0 (I : Inv X pins σ H s) : Env0 X.prog X.w X.K X.mg X.base X.A X.stack s H :=
  ⟨I.ok.frames, I.ok.mod, I.bs, Nat.le_trans I.ok.bsz I.sz, I.stack, I.stkFree, I.hok, I.bare, fun p hp => I.base.cts _ _ (I.ok.tb p hp)⟩
theorem Inv.after {Q : VK} {u : Value} (I : Inv X pins σ H s) (h : CE X.stack X.prog X.w H s Q u s') : EP X pins σ Q u s' := by
  obtain ⟨v, H', os, bare, un, hok, r, q⟩ := h
  obtain ⟨hh, g, d, t, os'⟩ := s'
  obtain rfl : os' = s.os := os
  exact ⟨v, H', I.call (h' := hh) (g' := g) (d' := d) (t' := t) (ch := []) un hok bare (fun b z => absurd z (by simp)), r, q⟩
end

noncomputable def tCall (sp : Sp) (dvs : List V) (E : XK) (t : TA) : TE := fun σ H Q => t σ H fun vs H1 => sp (vs ++ dvs) H1 Q E
noncomputable def Binds (K : PySem.W.Frag) (fd : FuncData) (ps : List Str) (ds : List Value) : Prop :=
  ∀ (s : Shared) (us : List Value), K.In s.heap → (us ++ ds).length = ps.length → BindsTo s fd ⟨us, []⟩ (ps.zip (us ++ ds))
theorem Binds.all {K : PySem.W.Frag} {fd : FuncData} {ps : List Str} (h : ∀ us : List Value, us.length = ps.length → bindArgs fd ⟨us, []⟩ = pure (ps.zip us)) : Binds K fd ps [] := fun s us _ hl => by
  rw [List.append_nil] at hl ⊢
  exact .of_eq (h us hl)

noncomputable def Passes (CX : CXT) (X : Cx) (E : XK) : Prop := ∀ (pins : List (Addr × Obj)) (σ : St) (H : Hp) (s : Shared) (e : Value) (s' : Shared), Inv X pins σ H s → CX X.stack H s E e s' → X.xe e s'

section
variable {X : Cx} {CX : CXT} {k : Nat} {f C : Addr} {fd : FuncData} {ps : List Str} {sp : Sp} {dvs : List V} {ds : List Value} {E : XK} {x m : Str} {p pos apos : Pos} {e o : Expr} {es : List Expr} {ta : TE} {t : TA}

theorem run_fn {pins : List (Addr × Obj)} {σ : St} {H : Hp} {s : Shared} {Q : VK} {us : List Value} {vs : List V} (F : FnOk X.prog X.w X.K X.mg X.base CX k f fd ps sp) (hr : Room k X.A) (hb : Binds X.K fd ps ds) (hd : Vals dvs ds) (hx : Passes CX X E)
    (I : Inv X pins σ H s) (r : Vals vs us) (h : sp (vs ++ dvs) H Q E) : wpAny (model X.prog X.w) X.A (call (.ref f) us) (EP X pins σ Q) X.xe s := by
  have r2 : Vals (vs ++ dvs) (us ++ ds) := r.append hd
  have hl : (us ++ ds).length = ps.length := by rw [← r2.length]; exact F.len _ _ _ _ h
  refine wpAny_call (codeAny_mono (F.run X.A X.stack s H ⟨us, []⟩ (us ++ ds) (vs ++ dvs) Q E hr I.env0 (hb s us I.kIn hl) r2 h) fun r s' hq => ?_)
  cases r with
  | error e => exact hx pins σ H s e s' I hq
  | ok fl =>
    cases fl with
    | ret u => exact I.after hq
    | next => exact False.elim hq
    | brk => exact False.elim hq
    | cont => exact False.elim hq

theorem pe_call (F : FnOk X.prog X.w X.K X.mg X.base CX k f fd ps sp) (hr : Room k X.A) (hg : Gl X x) (hm : X.mg x = some (.ref f)) (hk : PySem.W.keepIn X.K (.ref f) = true) (hb : Binds X.K fd ps ds) (hd : Vals dvs ds) (hx : Passes CX X E)
    (ha : PA X (e :: es) t) (hdb : (x == ("__debug__" : Str)) = false := by decide) (he : starEach (e :: es) X.env = (false, eval e X.env) :: starEach es X.env := by rfl) (hpl : (backTo pos (starEach es X.env)).any (·.1) = false := by rfl) :
    PE X (.Call (.Name x p) (e :: es) [] pos) (tCall sp dvs E t) := by
  intro pins s σ H Q I h
  refine wpAny_Call_Name_kw (ld_glob I hg hm ?_ hdb)
  refine PySem.W.callWith_K (h₀ := X.base) I.ok.mod.kin hk (thn (ha pos pins s σ H _ I h) fun us s1 ⟨vs, H1, I1, r, q⟩ => ⟨I1.kIn, ?_⟩) he hpl
  exact run_fn F hr hb hd hx I1 r q
end


structure FnScope (N P : List Str) (sc : Scope) : Prop where
  kind : sc.kind = .function
  co : sc.isCoroutine = false
  gen : sc.isGenerator = false
  nd : N.Nodup
  pre : N.take P.length = P
  par : ∀ x ∈ P, sc.names.lookup x = some .local ∨ sc.names.lookup x = some .cell
  nofree : ∀ y ∈ sc.names, y.2 ≠ .free

theorem bindL_out {kindOf : Str → Option NameKind} {x : Str} : ∀ {binds : List (Str × Value)} {m : Str → Option Value}, (∀ v, (x, v) ∉ binds) → bindL kindOf binds m x = m x
  | [], _, _ => rfl
  | (n, v) :: r, m, h => by
    unfold bindL
    rw [bindL_out fun w hw => h w (List.mem_cons_of_mem _ hw)]
    split
    · have : x ≠ n := by rintro rfl; exact h v List.mem_cons_self
      simp [this]
    · rfl
theorem bindC_out {kindOf : Str → Option NameKind} {x : Str} : ∀ {binds : List (Str × Value)} {m : Str → Option Value}, (∀ v, (x, v) ∉ binds) → bindC kindOf binds m x = m x
  | [], _, _ => rfl
  | (n, v) :: r, m, h => by
    unfold bindC
    rw [bindC_out fun w hw => h w (List.mem_cons_of_mem _ hw)]
    split
    · rfl
    · have : x ≠ n := by rintro rfl; exact h v List.mem_cons_self
      simp [this]
theorem bindL_get {kindOf : Str → Option NameKind} {x : Str} {v : Value} : ∀ {P : List Str} {vs : List Value} {i : Nat} {m : Str → Option Value}, P.Nodup → P[i]? = some x → vs[i]? = some v → kindOf x = some .local →
    bindL kindOf (P.zip vs) m x = some v
  | [], _, _, _, _, h, _, _ => by simp at h
  | _ :: _, [], _, _, _, _, h, _ => by simp at h
  | p :: P, w :: vs, 0, m, nd, h1, h2, hk => by
    simp at h1 h2; subst h1; subst h2
    show bindL kindOf ((p, w) :: P.zip vs) m p = _
    unfold bindL
    rw [bindL_out fun v hv => (List.nodup_cons.mp nd).1 (List.of_mem_zip hv).1, if_pos hk]
    simp
  | p :: P, w :: vs, i + 1, m, nd, h1, h2, hk => by
    show bindL kindOf ((p, w) :: P.zip vs) m x = _
    unfold bindL
    exact bindL_get (i := i) (List.nodup_cons.mp nd).2 (by simpa using h1) (by simpa using h2) hk
theorem bindC_get {kindOf : Str → Option NameKind} {x : Str} {v : Value} : ∀ {P : List Str} {vs : List Value} {i : Nat} {m : Str → Option Value}, P.Nodup → P[i]? = some x → vs[i]? = some v → kindOf x ≠ some .local →
    bindC kindOf (P.zip vs) m x = some v
  | [], _, _, _, _, h, _, _ => by simp at h
  | _ :: _, [], _, _, _, _, h, _ => by simp at h
  | p :: P, w :: vs, 0, m, nd, h1, h2, hk => by
    simp at h1 h2; subst h1; subst h2
    show bindC kindOf ((p, w) :: P.zip vs) m p = _
    unfold bindC
    rw [bindC_out fun v hv => (List.nodup_cons.mp nd).1 (List.of_mem_zip hv).1, if_neg hk]
    simp
  | p :: P, w :: vs, i + 1, m, nd, h1, h2, hk => by
    show bindC kindOf ((p, w) :: P.zip vs) m x = _
    unfold bindC
    exact bindC_get (i := i) (List.nodup_cons.mp nd).2 (by simpa using h1) (by simpa using h2) hk

noncomputable def start (N : List Str) (vs : List V) : St := vs.map some ++ List.replicate (N.length - vs.length) none

noncomputable def cxOf (CX : CXT) (P : Program) (w : World) (K : PySem.W.Frag) (mg : Str → Option Value) (base : Heap) (N : List Str) (qual : Str) (scope : Scope) (f : Addr) (cd : Value) (A : Around) (outer : List Env) (s : Shared) (H : Hp) (E : XK) : Cx where
  prog := P
  w := w
  K := K
  mg := mg
  base := base
  A := A.deeper (envOfC qual scope s.heap.objs.size f cd)
  N := N
  s₀ := s
  H₀ := H
  env := envOfC qual scope s.heap.objs.size f cd
  outer := outer
  stack := envOfC qual scope s.heap.objs.size f cd :: outer
  ex := []
  calm := true
  fn := fun _ => true
  pn := []
  xe := fun e s' => wpAny (model P w) (A.deeper (envOfC qual scope s.heap.objs.size f cd)) (leaving (envOfC qual scope s.heap.objs.size f cd) e) (fun _ s'' => CX outer H s E e s'') (fun e' s'' => CX outer H s E e' s'') s'

theorem cell_has {sc : Scope} {n : Nat} {x : Str} (h : sc.names.lookup x = some .cell) : ∃ c, (cellsFrom n sc.names []).lookup x = some c := by
  have q := PySem.W.cellsFrom_some sc.names n [] (.inl h)
  exact Option.isSome_iff_exists.mp q

theorem inv_start {CX : CXT} {P : Program} {w : World} {K : PySem.W.Frag} {mg : Str → Option Value} {base : Heap} {N ps : List Str} {qual : Str} {scope : Scope} {f : Addr} {cd : Value} {A : Around} {outer : List Env} {s s1 : Shared} {H : Hp} {E : XK} {us : List Value} {vs : List V}
    (S : FnScope N ps scope) (hd : A.handled = none) (e0 : Env0 P w K mg base A outer s H) (hl : vs.length = ps.length) (r : Vals vs us)
    (x : InCallC s s.heap.objs.size (bindL (envOfC qual scope s.heap.objs.size f cd).kindOf (ps.zip us) fun _ => none) (cellsFrom (s.heap.objs.size + 1) scope.names []) (bindC (envOfC qual scope s.heap.objs.size f cd).kindOf (ps.zip us) fun _ => none) s1) :
    Inv (cxOf CX P w K mg base N qual scope f cd A outer s H E) [] (start N vs) H s1 := by
  have hpl : ps.length ≤ N.length := by have := congrArg List.length S.pre; rw [List.length_take] at this; omega
  obtain ⟨h1, tk, rfl, hk⟩ := x.done
  have noA : ∀ b : Addr, b ∉ (cxOf CX P w K mg base N qual scope f cd A outer s H E).ex := fun b z => absurd (show b ∈ ([] : List Addr) from z) (by simp)
  refine ⟨⟨e0.mod, S.kind, rfl, rfl, Nat.le_refl _, fun y z c h1 h2 => ?_, fun y hy => ?_, fun y c _ h => ?_, fun _ => hd, Around.frames_deeper e0.frames, .inr ⟨rfl, rfl⟩, fun b z => absurd z (noA b), e0.bs, e0.bsz, fun b _ _ => noA b, fun b z => absurd z (noA b), e0.funs, e0.frf, e0.tb⟩,
    rfl, e0.bare, Un.kept hk, ⟨_, x.toInCall.ns, fun i y v h1 h2 h3 => ?_⟩, fun y c h => ⟨_, x.cell y c h⟩, e0.hok.fresh (Nat.le_refl _), fun y c h => ?_, fun p hp => absurd (show p ∈ ([] : List (Addr × Obj)) from hp) (by simp), e0.hok.kept hk, ?_⟩
  · exact name_of_addr x.apart (PySem.mem_of_lookup h1) (PySem.mem_of_lookup h2)
  · have hy : scope.names.lookup y = some .cell ∨ scope.names.lookup y = some .free := hy
    rcases hy with hy | hy
    · exact cell_has hy
    · exact absurd rfl (S.nofree _ (PySem.mem_of_lookup hy))
  · exact Nat.le_of_lt (x.above y c (PySem.mem_of_lookup h))
  · have hi : i < vs.length := by
      unfold start at h2
      by_cases hi : i < vs.length
      · exact hi
      · rw [List.getElem?_append_right (by simpa using hi)] at h2
        rw [List.getElem?_replicate] at h2
        split at h2 <;> cases h2
    have ha : vs[i]? = some v := by
      unfold start at h2
      rw [List.getElem?_append_left (by simpa using hi), List.getElem?_map] at h2
      cases e : vs[i]? with
      | none => rw [e] at h2; cases h2
      | some a => rw [e] at h2; cases h2; rfl
    obtain ⟨u, hu, rv⟩ := r.get ha
    have hp : ps[i]? = some y := by
      rw [← S.pre, List.getElem?_take_of_lt (by omega)]; exact h1
    have ndP : ps.Nodup := by rw [← S.pre]; exact S.nd.sublist (List.take_sublist _ _)
    refine ⟨u, rv, ?_⟩
    rcases S.par y (List.mem_of_getElem? hp) with k | k
    · exact .inl ⟨k, bindL_get ndP hp hu k⟩
    · obtain ⟨c, e⟩ := cell_has (n := s.heap.objs.size + 1) k
      refine .inr ⟨.inl k, c, e, ?_⟩
      have q := x.cell y c e
      rw [bindC_get ndP hp hu (by show scope.names.lookup y ≠ _; rw [k]; decide)] at q
      exact q
  · exact e0.hok.fresh (Nat.le_of_lt (x.above y c (PySem.mem_of_lookup h)))
  · unfold start
    show _ = N.length
    rw [List.length_append, List.length_map, List.length_replicate]
    omega

theorem fn_of {CX : CXT} {P : Program} {w : World} {K : PySem.W.Frag} {mg : Str → Option Value} {base : Heap} {k : Nat} {f : Addr} {name qual : Str} {params : Arguments} {body : List Stmt} {scope : Scope} {dV kV doc pm cdv ct oc : Value} {an od : Option Addr}
    {osl : Array (Option Value)} {N ps : List Str} {sp : Sp} (lk : K.lookup f = some ⟨oc, od, .func (PySem.W.fnOf name qual params body scope dV kV doc pm an cdv ct), osl⟩) (hcd : PySem.W.codeIn K cdv qual = true) (S : FnScope N ps scope)
    (len : ∀ vs H Q E, sp vs H Q E → vs.length = ps.length)
    (hbody : ∀ (A : Around) (outer : List Env) (s : Shared) (H : Hp) (vs : List V) (Q : VK) (E : XK), Room k (A.deeper (envOfC qual scope s.heap.objs.size f cdv)) → sp vs H Q E →
      ∃ t, PSs (cxOf CX P w K mg base N qual scope f cdv A outer s H E) body t ∧ t { nx := fun _ H' => Q .non H', rt := Q } (start N vs) H) :
    FnOk P w K mg base CX (k + 1) f (PySem.W.fnOf name qual params body scope dV kV doc pm an cdv ct) ps sp := by
  refine ⟨len, fun A outer s H args us vs Q E hr e0 hb r hsp => ?_⟩
  have hl := len _ _ _ _ hsp
  have KX : K.In s.heap := e0.mod.kin.keeps fun b o e => (e0.bs b o e).1
  have lim : s.heap.NoLimit := e0.mod.nolimit.keeps fun b o e => (e0.bs b o e).1
  have hkind : ∀ y ∈ ps.zip us, scope.names.lookup y.1 = some .local ∨ (scope.names.lookup y.1 = some .cell ∧ ((cellsFrom (s.heap.objs.size + 1) scope.names []).lookup y.1).isSome = true) := fun ⟨n, v⟩ hy => by
    rcases S.par n (List.of_mem_zip hy).1 with q | q
    · exact .inl q
    · exact .inr ⟨q, PySem.W.cellsFrom_some _ _ _ (.inl q)⟩
  refine codeAny_call_function hr.depth (KX _ _ lk) rfl S.co S.gen rfl (PySem.W.codeRec_of KX hcd) (hb _ _ _ _ ?_)
  refine wpAny_newFunctionEnv_cells S.kind hkind fun env he s1 x => ?_
  subst he
  refine ⟨lim.keeps x.toInCall.keep, codeAny_func ?_⟩
  obtain ⟨t, ht, hq⟩ := hbody A outer s H vs Q E (hr.deeper _) hsp
  have I : Inv (cxOf CX P w K mg base N qual scope f cdv A outer s H E) [] (start N vs) H s1 := inv_start S hr.hd e0 hl r x
  refine wpAny_mono (ht [] s1 (start N vs) H _ I hq) (fun fl s' hs => ?_) fun e s' hs => hs
  have fin : ∀ {σ' : St} {H' : Hp} {v : V} {u : Value}, Inv (cxOf CX P w K mg base N qual scope f cdv A outer s H E) [] σ' H' s' → RelV v u → Q v H' → CE outer P w H s Q u s' :=
    fun {σ' H' v u} J rv q => ⟨v, H', J.os, J.bare, J.base, J.hok, rv, q⟩
  cases fl with
  | ret u =>
    obtain ⟨v, σ', H', J, rv, q⟩ := hs
    exact fin J rv q
  | next =>
    obtain ⟨σ', H', J, q⟩ := hs
    exact fin (v := V.non) (u := Value.none) J rfl q
  | brk =>
    obtain ⟨_, _, _, q⟩ := hs
    exact False.elim q
  | cont =>
    obtain ⟨_, _, _, q⟩ := hs
    exact False.elim q
end L2

namespace L2
open PySem PySem.Spec PyProof.Rows
section
variable {X : Cx} {x : Str} {p pos : Pos} {e : Expr} {es : List Expr} {t : TA} {id T : String} {r : List V → Hp → VK → Prop}

noncomputable def tCB (r : List V → Hp → VK → Prop) (t : TA) : TE := fun σ H Q => t σ H fun vs H1 => r vs H1 Q
theorem pe_callB (hc : CallR X (.builtin id) r) (hg : Gl X x) (hm : X.mg x = none) (hv : bootBuiltins x = some (.builtin id)) (ha : PA X (e :: es) t) (hn : x ≠ "__name__" := by decide) (hdb : (x == ("__debug__" : Str)) = false := by decide)
    (he : starEach (e :: es) X.env = (false, eval e X.env) :: starEach es X.env := by rfl) (hpl : (backTo pos (starEach es X.env)).any (·.1) = false := by rfl) : PE X (.Call (.Name x p) (e :: es) [] pos) (tCB r t) := by
  intro pins s σ H Q I h
  refine wpAny_Call_Name_kw (ld_blt I hg hm hv ?_ hn hdb)
  exact PyProof.Rows.callWith_builtin1 (thn (ha pos pins s σ H _ I h) fun us s1 ⟨vs, H1, I1, r1, q1⟩ => hc pins s1 σ H1 vs us Q I1 r1 q1) he hpl
theorem pe_callTy (hc : CallR X (.type T) r) (hg : Gl X x) (hm : X.mg x = none) (hv : bootBuiltins x = some (.type T)) (ha : PA X (e :: es) t) (hn : x ≠ "__name__" := by decide) (hdb : (x == ("__debug__" : Str)) = false := by decide)
    (he : starEach (e :: es) X.env = (false, eval e X.env) :: starEach es X.env := by rfl) (hpl : (backTo pos (starEach es X.env)).any (·.1) = false := by rfl) : PE X (.Call (.Name x p) (e :: es) [] pos) (tCB r t) := by
  intro pins s σ H Q I h
  refine wpAny_Call_Name_kw (ld_blt I hg hm hv ?_ hn hdb)
  exact PyProof.Rows.callWith_type1 (thn (ha pos pins s σ H _ I h) fun us s1 ⟨vs, H1, I1, r1, q1⟩ => hc pins s1 σ H1 vs us Q I1 r1 q1) he hpl
end
end L2

namespace HT
open PySem PyProof.Rows


section
variable {prog : Program} {w : World} {A : Around} {E : Value → Shared → Prop} {s : Shared}

theorem cat_tup {t b : Addr} {vs ws : List Value} {Q : Value → Shared → Prop} (ht : IsTup s.heap t vs.toArray) (hb : IsTup s.heap b ws.toArray) (hv : vs ≠ [])
    (h1 : ws = [] → Q (.ref t) s) (h2 : ws ≠ [] → Q (.ref s.heap.objs.size) { s with heap := s.heap.push { cls := .type "tuple", data := .seq (vs ++ ws).toArray } })
    (hsz : vs.length + ws.length ≤ sizeLine) : wpAny (model prog w) A (binaryOp .Add (.ref t) (.ref b)) Q E s := by
  obtain ⟨⟨cls, dd, data, sl⟩, ho, hc, n, hd⟩ := id ht
  obtain ⟨⟨cls2, dd2, data2, sl2⟩, ho2, hc2, n2, hd2⟩ := id hb
  simp only at hc hd hc2 hd2
  subst hc hd hc2 hd2
  have e : vs.toArray ++ ws.toArray = (vs ++ ws).toArray := by simp
  by_cases hw : ws = []
  · exact concat_meets ⟨_, ho, rfl⟩ ⟨_, ho2, rfl⟩ noFill_tuple_add seq_tuple_add PySem.F.slot_tuple_add PySem.F.entry_tuple_add (PySem.F.args_tuple_add_2 _ _)
      (tuple_addW1 t b vs.toArray ws.toArray n n2 dd dd2 sl sl2 (by simpa using hv) (by simp [hw])) ⟨ho, ho2, h1 hw⟩
  · refine concat_meets ⟨_, ho, rfl⟩ ⟨_, ho2, rfl⟩ noFill_tuple_add seq_tuple_add PySem.F.slot_tuple_add PySem.F.entry_tuple_add (PySem.F.args_tuple_add_2 _ _)
      (tuple_addW2 t b vs.toArray ws.toArray n n2 dd dd2 sl sl2 (by simpa using hv) (by simpa using hw) (by rw [List.size_toArray, List.size_toArray]; exact hsz)) ⟨ho, ho2, ?_⟩
    rw [e]
    exact h2 hw

noncomputable def sIx (n d : Nat) : Option Int → Nat
  | none => d
  | some v => if v < 0 then (v + (n : Int)).toNat else min v.toNat n
theorem sIx_le (n d : Nat) (hd : d ≤ n) (o : Option Int) : sIx n d o ≤ n := by
  cases o with
  | none => exact hd
  | some v =>
    show (if v < 0 then (v + (n : Int)).toNat else min v.toNat n) ≤ n
    by_cases hv : v < 0
    · rw [if_pos hv]; omega
    · rw [if_neg hv]; exact Nat.min_le_right _ _
theorem clip_eq (v : Int) (n d : Nat) : (if v < 0 then max (v + (n : Int)) 0 else min v (n : Int)) = ((sIx n d (some v) : Nat) : Int) := by
  show (if v < 0 then max (v + (n : Int)) 0 else min v (n : Int)) = (((if v < 0 then (v + (n : Int)).toNat else min v.toNat n) : Nat) : Int)
  by_cases hv : v < 0
  · simp only [if_pos hv]; omega
  · simp only [if_neg hv]; omega
theorem adjust_gen (lo hi : Option Int) (n : Nat) : Builtin.Slice.sliceAdjust lo hi 1 (n : Int) = (((sIx n 0 lo : Nat) : Int), ((sIx n n hi : Nat) : Int)) := by
  have h1 : ¬ ((1 : Int) < 0) := by omega
  unfold Builtin.Slice.sliceAdjust
  simp only [h1, if_false]
  refine Prod.ext ?_ ?_
  · cases lo with
    | none => rfl
    | some v => exact clip_eq v n 0
  · cases hi with
    | none => rfl
    | some v => exact clip_eq v n n
theorem places_gen (i j : Nat) : Builtin.Slice.slicePlaces (i : Int) (j : Int) 1 = j - i := by
  unfold Builtin.Slice.slicePlaces
  have h1 : (1 : Int) > 0 := by omega
  simp only [h1, if_true, Int.ediv_one]
  split <;> omega
theorem slicePart_ {v : Value} {o : Option Int} {Q : Option Int → Shared → Prop} (p : IsPart v o) (h : Q o s) : wpAny (model prog w) A (Builtin.Slice.slicePartIndex v) Q E s := by
  cases p with
  | none => exact slicePart_none h
  | int i t => exact slicePart_int h
theorem sliceApplied_gen {sl : Addr} {vl vu : Value} {lo hi : Option Int} {n : Nat} {Q : Int × Int × Nat → Shared → Prop} (hs : s.heap.IsSliceOf sl vl vu .none) (pl : IsPart vl lo) (pu : IsPart vu hi)
    (h : Q (((sIx n 0 lo : Nat) : Int), 1, sIx n n hi - sIx n 0 lo) s) : wpAny (model prog w) A (Builtin.Slice.sliceApplied (.ref sl) (pure (n : Int))) Q E s := by
  obtain ⟨os, hos, hcs, hds⟩ := id hs
  unfold Builtin.Slice.sliceApplied Builtin.Slice.sliceFields
  refine wpAny_bind (wpAny_bind (wpAny_field hos hds (x := vl) rfl (wpAny_bind (wpAny_field hos hds (x := vu) rfl (wpAny_bind (wpAny_field hos hds (x := .none) rfl (wpAny_pure ?_)))))))
  refine wpAny_bind (slicePart_none ?_)
  show wpAny _ _ (if ((1 : Int) == 0) = true then _ else _) _ _ s
  rw [if_neg (by decide)]
  refine wpAny_bind (slicePart_ pl (wpAny_bind (slicePart_ pu (wpAny_bind (wpAny_pure ?_)))))
  show wpAny _ _ (match Builtin.Slice.sliceAdjust lo hi 1 (n : Int) with | (lo, hi) => pure (lo, (1 : Int), Builtin.Slice.slicePlaces lo hi 1)) _ _ s
  rw [adjust_gen lo hi n]
  show wpAny _ _ (pure (((sIx n 0 lo : Nat) : Int), (1 : Int), Builtin.Slice.slicePlaces ((sIx n 0 lo : Nat) : Int) ((sIx n n hi : Nat) : Int) 1)) _ _ s
  rw [places_gen]
  exact wpAny_pure h
theorem pick_gen (xs : Array Value) (i k : Nat) : ((List.range k).filterMap fun (m : Nat) => xs[((i : Int) + (m : Int) * 1).toNat]?).toArray = ((xs.toList.drop i).take k).toArray := by
  have e : (fun (m : Nat) => xs[((i : Int) + (m : Int) * 1).toNat]?) = fun m => xs[i + m]? := by
    funext m
    have : ((i : Int) + (m : Int) * 1).toNat = i + m := by omega
    rw [this]
  rw [e]
  have := pick_run xs i k
  rw [List.filterMap_map] at this
  have e2 : ((fun x => xs[x]?) ∘ fun x => i + x) = fun m => xs[i + m]? := rfl
  rw [e2] at this
  rw [this]

theorem getItem_tuple_cut {t sl : Addr} {items : Array Value} {vl vu : Value} {lo hi : Option Int} {Q : Value → Shared → Prop} (ht : IsTup s.heap t items) (hs : s.heap.IsSliceOf sl vl vu .none) (pl : IsPart vl lo) (pu : IsPart vu hi)
    (hw : ¬ (sIx items.size 0 lo = 0 ∧ sIx items.size items.size hi = items.size))
    (h : Q (.ref s.heap.objs.size) { s with heap := s.heap.push { cls := .type "tuple", data := .seq ((items.toList.drop (sIx items.size 0 lo)).take (sIx items.size items.size hi - sIx items.size 0 lo)).toArray } })
    (hsz : items.size ≤ sizeLine) : wpAny (model prog w) A (getItem (.ref t) (.ref sl)) Q E s := by
  have htake : sizeOk (.seq ((items.toList.drop (sIx items.size 0 lo)).take (sIx items.size items.size hi - sIx items.size 0 lo)).toArray) := by
    show ((items.toList.drop (sIx items.size 0 lo)).take (sIx items.size items.size hi - sIx items.size 0 lo)).toArray.size ≤ sizeLine
    rw [List.size_toArray, List.length_take, List.length_drop, Array.length_toList]
    omega
  have hj : sIx items.size items.size hi ≤ items.size := sIx_le _ _ (Nat.le_refl _) hi
  obtain ⟨os, hos, hcs, hds⟩ := id hs
  have hTs : s.TypeIs (.ref sl) "slice" := ⟨os, hos, hcs⟩
  unfold getItem
  try with_reducible refine wpAny_holding ?_
  first | refine wpAny_bind (wpAny_pure ?_) | skip
  refine wpAny_bind (wpAny_sequenceKey ht.typeIs (by decide) ?_)
  refine wpAny_bind (wpAny_callSpecial?_slot (name := Str.ofString "__getitem__") ht.typeIs PyProof.Rows.slot_tuple_getitem
    (wpAny_call_entry PyProof.Rows.slot_tuple_getitem ht.typeIs entry_tuple_getitem ?_ (args_tuple_getitem _ _)))
  show wpAny _ _ (Builtin.Tuple.tupleItemsOf (.ref t) >>= _) _ _ s
  refine wpAny_bind (tupleItemsOf_ ht ?_)
  refine wpAny_bind (wpAny_typeOf hTs ?_)
  rw [if_pos (by decide)]
  refine wpAny_bind (sliceApplied_gen hs pl pu ?_)
  have hno : ¬ ((((sIx items.size 0 lo : Nat) : Int) == 0 && (1 : Int) == 1 && (sIx items.size items.size hi - sIx items.size 0 lo) == items.size) = true) := by
    intro q
    rw [Bool.and_eq_true, Bool.and_eq_true] at q
    have q1 : ((sIx items.size 0 lo : Nat) : Int) = 0 := eq_of_beq q.1.1
    have q2 : sIx items.size items.size hi - sIx items.size 0 lo = items.size := eq_of_beq q.2
    exact hw ⟨by omega, by omega⟩
  show wpAny _ _ (if (((sIx items.size 0 lo : Nat) : Int) == 0 && (1 : Int) == 1 && (sIx items.size items.size hi - sIx items.size 0 lo) == items.size) = true then _ else _) _ _ s
  rw [if_neg hno, pick_gen]
  first
    | exact wpAny_bind (m := Builtin.Tuple.tupleExact _) (wpAny_newObj_type (wpAny_pure ⟨_, rfl, wpAny_pure h⟩) htake)
    | exact wpAny_bind (m := Builtin.Tuple.tupleExact _) (wpAny_newObj_type (wpAny_bind (wpAny_pure (wpAny_pure ⟨_, rfl, wpAny_pure h⟩))) htake)
    | exact wpAny_bind (wpAny_bind (m := Builtin.Tuple.tupleExact _) (wpAny_newObj_type (wpAny_pure (wpAny_pure ⟨_, rfl, wpAny_pure h⟩)) htake))
    | exact wpAny_bind (wpAny_bind (m := Builtin.Tuple.tupleExact _) (wpAny_newObj_type (wpAny_pure ⟨_, rfl, wpAny_pure h⟩) htake))
end
end HT

namespace L2
open PySem PySem.Spec PyProof.Rows

noncomputable abbrev TO := St → Hp → (Option Int → Hp → Prop) → Prop
noncomputable def PO (X : Cx) (e : Option Expr) (t : TO) : Prop :=
  ∀ (pins : List (Addr × Obj)) (s : Shared) (σ : St) (H : Hp) (Q : Option Int → Hp → Prop), Inv X pins σ H s → t σ H Q →
    wpAny (model X.prog X.w) X.A (evalPart e X.env) (fun u s' => ∃ o H', Inv X pins σ H' s' ∧ IsPart u o ∧ Q o H') X.xe s
noncomputable def tNoPart : TO := fun _ H Q => Q none H
noncomputable def tPart (t : TE) : TO := fun σ H Q => t σ H fun x H1 => ∃ i, x = .int i ∧ Q (some i) H1

theorem intsAre_of {ns : List Int} : ∀ {us : List Value}, Vals (ns.map V.int) us → IntsAre us ns := by
  induction ns with
  | nil => intro us r; rw [List.map_nil] at r; cases r; exact .nil
  | cons n ns ih =>
    intro us r
    rw [List.map_cons] at r
    cases r with
    | cons r1 r2 =>
      obtain ⟨t, e⟩ := r1
      subst e
      exact .cons n t (ih r2)

section
variable {X : Cx} {e : Expr} {te : TE} {lo hi : Option Expr} {tl th : TO} {pos p2 : Pos}

theorem po_none : PO X none tNoPart := by
  intro pins s σ H Q I h
  rw [evalPart_none]
  exact wpAny_pure ⟨none, H, I, .none, h⟩
theorem po_some (h : PE X e te) : PO X (some e) (tPart te) := by
  intro pins s σ H Q I hw
  rw [evalPart_some]
  refine thn (h pins s σ H _ I hw) fun u s1 ⟨x, H1, I1, r1, q1⟩ => ?_
  obtain ⟨i, rfl, q⟩ := q1
  obtain ⟨t, rfl⟩ := r1
  exact ⟨some i, H1, I1, .int i t, q⟩

noncomputable def SlR (X : Cx) (r : V → Option Int → Option Int → Hp → VK → Prop) : Prop :=
  ∀ (pins : List (Addr × Obj)) (s : Shared) (σ : St) (H : Hp) (x : V) (v vl vu : Value) (lo hi : Option Int) (sl : Addr) (Q : VK), Inv X pins σ H s → RelV x v → s.heap.IsSliceOf sl vl vu .none → IsPart vl lo → IsPart vu hi → r x lo hi H Q →
    ∃ T id, typeLookup (.type T) "__getitem__" = pure (some (.builtin id)) ∧ s.TypeIs v T ∧ wpAny (model X.prog X.w) X.A (getItem v (.ref sl)) (EP X pins σ Q) X.xe s
theorem SlR.or {r r' : V → Option Int → Option Int → Hp → VK → Prop} (h : SlR X r) (h' : SlR X r') : SlR X (fun x lo hi H Q => r x lo hi H Q ∨ r' x lo hi H Q) := by
  intro pins s σ H x v vl vu lo hi sl Q I rx hs pl pu q
  rcases q with q | q
  · exact h pins s σ H x v vl vu lo hi sl Q I rx hs pl pu q
  · exact h' pins s σ H x v vl vu lo hi sl Q I rx hs pl pu q
noncomputable def tSl (r : V → Option Int → Option Int → Hp → VK → Prop) (te : TE) (tl th : TO) : TE := fun σ H Q => te σ H fun x H1 => tl σ H1 fun l H2 => th σ H2 fun u H3 => r x l u H3 Q
theorem pe_slice {r : V → Option Int → Option Int → Hp → VK → Prop} (hr : SlR X r) (he : PE X e te) (hl : PO X lo tl) (hu : PO X hi th) : PE X (.Subscript e (.Slice lo hi none p2) pos) (tSl r te tl th) := by
  intro pins s σ H Q I h
  refine Subscript_ (thn (he pins s σ H _ I h) fun v s1 ⟨x, H1, I1, r1, q1⟩ => ?_)
  refine wpAny_Slice (thn (hl pins s1 σ H1 _ I1 q1) fun vl s2 ⟨l, H2, I2, pl, q2⟩ => thn (hu pins s2 σ H2 _ I2 q2) fun vu s3 ⟨u, H3, I3, pu, q3⟩ => ?_)
  rw [evalPart_none]
  refine wpAny_pure ?_
  have I4 : Inv X pins σ H3 { s3 with heap := s3.heap.push { cls := .type "slice", data := .fields #[vl, vu, .none] } } := I3.kept (t' := s3.toks) fun b ob q => Heap.get?_push_of_some _ q
  obtain ⟨T, id, hT, ht, hg⟩ := hr pins { s3 with heap := s3.heap.push { cls := .type "slice", data := .fields #[vl, vu, .none] } } σ H3 x v vl vu l u s3.heap.objs.size Q I4 r1 (Heap.IsSliceOf.new ..) pl pu q3
  show wpAny (model X.prog X.w) X.A (subscriptTail e (.Slice lo hi none p2) v (.ref s3.heap.objs.size)) (EP X pins σ Q) X.xe { s3 with heap := s3.heap.push { cls := .type "slice", data := .fields #[vl, vu, .none] } }
  exact tail_any (ops := [.ref s3.heap.objs.size, v]) ht hT hg (by with_unfolding_all rfl)

noncomputable def cutV (xs : List V) (lo hi : Option Int) : List V := (xs.drop (HT.sIx xs.length 0 lo)).take (HT.sIx xs.length xs.length hi - HT.sIx xs.length 0 lo)
theorem cutV_length (xs : List V) (lo hi : Option Int) : (cutV xs lo hi).length ≤ xs.length := by
  unfold cutV
  rw [List.length_take, List.length_drop]
  omega
noncomputable def rSlT (K : PySem.W.Frag) : V → Option Int → Option Int → Hp → VK → Prop := fun x lo hi H Q => ∃ a xs, x = .ref a ∧ SqT K H a xs ∧
  ¬ (HT.sIx xs.length 0 lo = 0 ∧ HT.sIx xs.length xs.length hi = xs.length) ∧ ∀ p, H p = none → Q (.ref p) (upd H p (.tup (cutV xs lo hi)))
theorem sl_tup : SlR X (rSlT X.K) := by
  intro pins s σ H x v vl vu lo hi sl Q I rx hs pl pu h
  obtain ⟨a, xs, rfl, hx, hw, q⟩ := h
  cases rx
  obtain ⟨its, r, ht, hz⟩ := I.tuple hx
  have hlen : its.toArray.size = xs.length := by rw [List.size_toArray]; exact r.length.symm
  refine ⟨"tuple", _, PyProof.Rows.slot_tuple_getitem.lookup, ht.typeIs, ?_⟩
  refine HT.getItem_tuple_cut ht hs pl pu (by rw [hlen]; exact hw) ?_ (by rw [hlen]; exact hz)
  rw [hlen]
  refine ⟨.ref s.heap.objs.size, _, I.laid (t' := s.toks) (o := .tup (cutV xs lo hi)) (fun b ob q => Heap.get?_push_of_some _ q) (Nat.le_refl _) ?_, rfl, q _ (I.hok.fresh (Nat.le_refl _))⟩
  exact ⟨Nat.le_trans (cutV_length xs lo hi) hz, _, (r.drop (HT.sIx xs.length 0 lo)).take (HT.sIx xs.length xs.length hi - HT.sIx xs.length 0 lo), IsTup.new _ _⟩

noncomputable def rCatT (K : PySem.W.Frag) : R2 := fun x y H Q => ∃ a b xs ys, x = .ref a ∧ y = .ref b ∧ SqT K H a xs ∧ SqT K H b ys ∧ xs ≠ [] ∧ xs.length + ys.length ≤ sizeLine ∧
  (ys = [] → Q (.ref a) H) ∧ (ys ≠ [] → ∀ p, H p = none → Q (.ref p) (upd H p (.tup (xs ++ ys))))
theorem Vals.nil_iff {xs : List V} {us : List Value} (r : Vals xs us) : us = [] ↔ xs = [] := by
  cases r with
  | nil => simp
  | cons _ _ => simp
theorem op_catT : OpR X (binaryOp .Add) (rCatT X.K) := by
  intro pins s σ H x y v u Q I rx ry h
  obtain ⟨a, b, xs, ys, rfl, rfl, ha, hb, hx, hz, q1, q2⟩ := h
  cases rx
  cases ry
  obtain ⟨its, r1, p1, _⟩ := I.tuple ha
  obtain ⟨its2, r2, p2, _⟩ := I.tuple hb
  refine HT.cat_tup p1 p2 (fun z => hx (r1.nil_iff.mp z)) (fun z => ⟨.ref a, H, I, rfl, q1 (r2.nil_iff.mp z)⟩) (fun z => ?_) (by rw [← r1.length, ← r2.length]; exact hz)
  refine ⟨.ref s.heap.objs.size, _, I.laid (t' := s.toks) (o := .tup (xs ++ ys)) (fun b ob q => Heap.get?_push_of_some _ q) (Nat.le_refl _) ?_, rfl, q2 (fun w => z (r2.nil_iff.mpr w)) _ (I.hok.fresh (Nat.le_refl _))⟩
  exact ⟨by rw [List.length_append]; exact hz, _, r1.append r2, IsTup.new _ _⟩
end
end L2

namespace L2
open PySem PySem.Spec PyProof.Rows

noncomputable def ixN (n : Nat) (i : Int) : Option Nat := if 0 ≤ i then (if i < n then some i.toNat else none) else if -(n : Int) ≤ i then some (i + n).toNat else none
noncomputable def atI {α : Type} (xs : List α) (i : Int) : Option α := (ixN xs.length i).bind fun j => xs[j]?
theorem ixN_seq {n : Nat} {i : Int} {j : Nat} (h : ixN n i = some j) : seqIndex? i n = some j ∧ j < n ∧ -(n : Int) ≤ i ∧ i < n := by
  unfold ixN at h
  by_cases h0 : 0 ≤ i
  · rw [if_pos h0] at h
    by_cases h1 : i < n
    · rw [if_pos h1] at h
      have e : i.toNat = j := Option.some.inj h
      exact ⟨by rw [seqIndex_of h0 h1, e], by omega, by omega, h1⟩
    · rw [if_neg h1] at h; cases h
  · rw [if_neg h0] at h
    by_cases h1 : -(n : Int) ≤ i
    · rw [if_pos h1] at h
      have e : (i + n).toNat = j := Option.some.inj h
      exact ⟨by rw [seqIndex_neg (by omega) h1, e], by omega, h1, by omega⟩
    · rw [if_neg h1] at h; cases h
theorem atI_get {α : Type} {xs : List α} {i : Int} {v : α} (h : atI xs i = some v) : ∃ j, seqIndex? i xs.length = some j ∧ xs[j]? = some v ∧ j < xs.length ∧ -(xs.length : Int) ≤ i ∧ i < xs.length := by
  unfold atI at h
  cases e : ixN xs.length i with
  | none => rw [e] at h; cases h
  | some j =>
    rw [e] at h
    obtain ⟨h1, h2, h3, h4⟩ := ixN_seq e
    exact ⟨j, h1, h, h2, h3, h4⟩
theorem atI_nat {α : Type} {xs : List α} {j : Nat} {v : α} (h : xs[j]? = some v) : atI xs (j : Int) = some v := by
  have hj : j < xs.length := (List.getElem?_eq_some_iff.mp h).1
  have e : ixN xs.length (j : Int) = some j := by
    unfold ixN
    rw [if_pos (by omega), if_pos (by omega)]; simp
  unfold atI; rw [e]; exact h
noncomputable def PlainIx (b : Expr) : Prop := ∀ o i, subscripted b false o i = operate [o, i] (getItem o i)
noncomputable def IxR (X : Cx) (r : R2) : Prop :=
  ∀ (value slice : Expr) (pins : List (Addr × Obj)) (s : Shared) (σ : St) (H : Hp) (x y : V) (v u : Value) (Q : VK), Inv X pins σ H s → RelV x v → RelV y u → r x y H Q →
    subscripted slice false v u = operate [v, u] (getItem v u) → wpAny (model X.prog X.w) X.A (subscriptTail value slice v u) (EP X pins σ Q) X.xe s
noncomputable def MtR (X : Cx) (id : String) (r : V → List V → Hp → VK → Prop) : Prop :=
  ∀ (pins : List (Addr × Obj)) (s : Shared) (σ : St) (H : Hp) (x : V) (xs : List V) (v : Value) (us : List Value) (Q : VK), Inv X pins σ H s → RelV x v → Vals xs us → r x xs H Q →
    wpAny (model X.prog X.w) X.A (call (.builtin id) (v :: us)) (EP X pins σ Q) X.xe s
section
variable {X : Cx} {a b : Expr} {ta tb : TE} {pos : Pos}
theorem IxR.or {r r' : R2} (h : IxR X r) (h' : IxR X r') : IxR X (fun x y H Q => r x y H Q ∨ r' x y H Q) := by
  intro value slice pins s σ H x y v u Q I rx ry q hs
  rcases q with q | q
  · exact h value slice pins s σ H x y v u Q I rx ry q hs
  · exact h' value slice pins s σ H x y v u Q I rx ry q hs
theorem pe_ix {r : R2} (hr : IxR X r) (ha : PE X a ta) (hb : PE X b tb) (hs : PlainIx b) : PE X (.Subscript a b pos) (tOp r ta tb) := by
  intro pins s σ H Q I h
  exact Subscript_ (binT ha hb I h fun v u s2 x y H2 I2 rx ry q => hr a b pins s2 σ H2 x y v u Q I2 rx ry q (hs _ _))

noncomputable def rIxL (K : PySem.W.Frag) : R2 := fun x y H Q => ∃ p xs i v, x = .ref p ∧ y = .int i ∧ SqL K H p xs ∧ atI xs i = some v ∧ Q v H
noncomputable def rIxT (K : PySem.W.Frag) : R2 := fun x y H Q => ∃ p xs i v, x = .ref p ∧ y = .int i ∧ SqT K H p xs ∧ atI xs i = some v ∧ Q v H
noncomputable def rIxS : R2 := fun x y H Q => ∃ z i c, x = .str z ∧ y = .int i ∧ z.length ≤ sizeLine ∧ atI z.cps.toList i = some c ∧ Q (.str ⟨#[c]⟩) H
theorem ix_list : IxR X (rIxL X.K) := by
  intro value slice pins s σ H x y v u Q I rx ry h hs
  obtain ⟨p, xs, i, z, rfl, rfl, hq, he, q⟩ := h
  cases rx
  obtain ⟨t, rfl⟩ := ry
  obtain ⟨its, r, pl, hz⟩ := I.list hq
  obtain ⟨j, h1, h2, h3, h4, h5⟩ := atI_get he
  obtain ⟨w, ew, rw'⟩ := r.get h2
  have hl := r.length
  have hn := line63
  have fin : EP X pins σ Q w s := ⟨z, H, I, rw', q⟩
  by_cases h0 : 0 ≤ i
  · have hj : i.toNat = j := by
      rw [seqIndex_of h0 h5] at h1
      exact Option.some.inj h1
    exact item_listR pl.isList h0 (by omega) (by rw [hj]; simpa using ew) fin hs
  · have hj : (i + (its.toArray.size : Int)).toNat = j := by
      rw [seqIndex_neg (by omega) h4] at h1
      rw [List.size_toArray, ← hl]
      exact Option.some.inj h1
    exact subscriptTail_builtinR (x := w) pl.isList.typeIs slot_list_getitem.lookup
      (wpAny_getItem_list_neg (Q := fun r s' => r = w ∧ EP X pins σ Q r s') pl.isList (by omega) (by rw [List.size_toArray] <;> omega) (by omega) (by rw [hj]; simpa using ew) ⟨rfl, fin⟩) hs
theorem ix_tup : IxR X (rIxT X.K) := by
  intro value slice pins s σ H x y v u Q I rx ry h hs
  obtain ⟨p, xs, i, z, rfl, rfl, hq, he, q⟩ := h
  cases rx
  obtain ⟨t, rfl⟩ := ry
  obtain ⟨its, r, pl, hz⟩ := I.tuple hq
  obtain ⟨j, h1, h2, h3, h4, h5⟩ := atI_get he
  obtain ⟨w, ew, rw'⟩ := r.get h2
  have hl := r.length
  have hn := line63
  have fin : EP X pins σ Q w s := ⟨z, H, I, rw', q⟩
  exact subscriptTail_builtinR (x := w) pl.typeIs slot_tuple_getitem.lookup
    (getItem_tuple (j := j) (Q := fun r s' => r = w ∧ EP X pins σ Q r s') pl (by omega) (by omega) (by rw [List.size_toArray, ← hl]; exact h1) (by simpa using ew) ⟨rfl, fin⟩) hs
theorem ix_str : IxR X rIxS := by
  intro value slice pins s σ H x y v u Q I rx ry h hs
  obtain ⟨z, i, c, rfl, rfl, hz, he, q⟩ := h
  obtain ⟨t, rfl⟩ := rx
  obtain ⟨t', rfl⟩ := ry
  obtain ⟨j, h1, h2, h3, h4, h5⟩ := atI_get he
  have hl : z.cps.toList.length = z.length := by simp [Str.length]
  rw [hl] at h1 h4 h5
  have hn := line63
  exact tail_any (typeIs_str s z t) slot_str_getitem.lookup (getItem_str (c := c) (by
    have e1 : decide (i < -(2 ^ 63 : Int)) = false := decide_eq_false (by omega)
    have e2 : decide (i ≥ 2 ^ 63) = false := decide_eq_false (by omega)
    rw [e1, e2, Bool.or_false]) (by rw [h1]; simpa using h2) ⟨.str ⟨#[c]⟩, H, I.tok _, ⟨_, rfl⟩, q⟩) hs
noncomputable def rIx (K : PySem.W.Frag) : R2 := fun x y H Q => rIxL K x y H Q ∨ rIxT K x y H Q ∨ rIxS x y H Q
theorem ix_seq : IxR X (rIx X.K) := ix_list.or (ix_tup.or ix_str)

theorem mapSeq_set (its : List Value) (n j : Nat) (u : Value) : Obj.mapSeq (·.setIfInBounds j u) { cls := .type "list", data := .seq its.toArray n } = { cls := .type "list", data := .seq (its.set j u).toArray n } := by
  simp [Obj.mapSeq]
theorem Inv.lst {pins : List (Addr × Obj)} {σ : St} {H : Hp} {s : Shared} {p : Addr} {xs : List V} (I : Inv X pins σ H s) (h : H p = some (.lst xs)) :
    ∃ (its : List Value) (n : Nat), Vals xs its ∧ s.heap.get? p = some { cls := .type "list", data := .seq its.toArray n } ∧ xs.length ≤ sizeLine := by
  obtain ⟨z, its, n, r, e⟩ := I.hok p _ h
  exact ⟨its, n, r, e, z⟩
theorem Inv.lstUpd {pins : List (Addr × Obj)} {σ : St} {H : Hp} {s : Shared} {p : Addr} {xs ys : List V} {its its' : List Value} {n n' : Nat} {f : Obj → Obj} (I : Inv X pins σ H s) (h : H p = some (.lst xs))
    (ho : s.heap.get? p = some { cls := .type "list", data := .seq its.toArray n }) (hf : f { cls := .type "list", data := .seq its.toArray n } = { cls := .type "list", data := .seq its'.toArray n' }) (r : Vals ys its') (hz : ys.length ≤ sizeLine) (t : Nat) :
    Inv X pins σ (upd H p (.lst ys)) { s with heap := s.heap.update p f, toks := t } := by
  have e : (s.heap.update p f).get? p = some { cls := .type "list", data := .seq its'.toArray n' } := by
    rw [Heap.get?_update_self f ho (by rw [hf] <;> rfl), hf]
  refine I.write (x := p) (e := p) (by rw [h]; trivial) (.inl rfl) (fun b u hb q => (Heap.get?_update_other _ _ (Ne.symm hb)).trans q) ⟨_, e⟩ ?_
  exact ⟨hz, its', n', r, e⟩
noncomputable def rSetL : V → V → V → Hp → (Hp → Prop) → Prop := fun o i v H Q => ∃ p xs k j, o = .ref p ∧ i = .int k ∧ H p = some (.lst xs) ∧ ixN xs.length k = some j ∧ Q (upd H p (.lst (xs.set j v)))
theorem set_list : PSet X rSetL := by
  intro pins s σ H o i v ov iv u Q I ro ri rv h
  obtain ⟨p, xs, k, j, rfl, rfl, hp, hj, q⟩ := h
  cases ro
  obtain ⟨t, rfl⟩ := ri
  obtain ⟨its, n, r, ho, hz⟩ := I.lst hp
  obtain ⟨h1, h2, h3, h4⟩ := ixN_seq hj
  have hl := r.length
  have hn := line63
  have I' : Inv X pins σ (upd H p (.lst (xs.set j v))) { s with heap := s.heap.update p (Obj.mapSeq (·.setIfInBounds j u)) } :=
    I.lstUpd hp ho (mapSeq_set its n j u) (r.set rv j) (by rw [List.length_set]; exact hz) s.toks
  by_cases h0 : 0 ≤ k
  · have hk : k.toNat = j := by
      rw [seqIndex_of h0 h4] at h1
      exact Option.some.inj h1
    exact PySem.W.ki_setAt ho h0 (by omega) (by rw [List.size_toArray, ← hl]; exact h4) (by rw [hk]; exact ⟨_, I', q⟩)
  · have hk : (k + (its.toArray.size : Int)).toNat = j := by
      rw [seqIndex_neg (by omega) h3] at h1
      rw [List.size_toArray, ← hl]
      exact Option.some.inj h1
    exact PySem.W.ki_setBack ho (by omega) (by rw [List.size_toArray, ← hl]; exact h3) (by omega) (by rw [hk]; exact ⟨_, I', q⟩)

theorem slice_bounds (lo hi : Option Int) (n : Nat) : (sliceBounds lo hi none n).1 = ((HT.sIx n 0 lo : Nat) : Int) ∧ (sliceBounds lo hi none n).2.1 = ((HT.sIx n n hi : Nat) : Int) ∧ (sliceBounds lo hi none n).2.2 = 1 := by
  refine ⟨?_, ?_, rfl⟩
  · cases lo with
    | none => simp [sliceBounds, HT.sIx]
    | some i =>
      simp only [sliceBounds, HT.sIx, Option.getD_none, show (1 : Int) > 0 by decide, if_true]
      by_cases h : i < 0
      · simp only [h, if_true] <;> omega
      · simp only [h, if_false] <;> omega
  · cases hi with
    | none => simp [sliceBounds, HT.sIx]
    | some i =>
      simp only [sliceBounds, HT.sIx, Option.getD_none, show (1 : Int) > 0 by decide, if_true]
      by_cases h : i < 0
      · simp only [h, if_true] <;> omega
      · simp only [h, if_false] <;> omega
theorem slicePick_cut (its : List Value) (lo hi : Option Int) : slicePick its.toArray lo hi none = ((its.drop (HT.sIx its.length 0 lo)).take (HT.sIx its.length its.length hi - HT.sIx its.length 0 lo)).toArray := by
  obtain ⟨h1, h2, h3⟩ := slice_bounds lo hi its.toArray.size
  unfold slicePick
  rw [h1, h2, h3]
  simp only [sliceRange_one, pick_run, List.size_toArray] <;> rfl
noncomputable def rSlL (K : PySem.W.Frag) : V → Option Int → Option Int → Hp → VK → Prop := fun x lo hi H Q => ∃ a xs, x = .ref a ∧ SqL K H a xs ∧ ∀ p, H p = none → Q (.ref p) (upd H p (.lst (cutV xs lo hi)))
theorem sl_list : SlR X (rSlL X.K) := by
  intro pins s σ H x v vl vu lo hi sl Q I rx hs pl pu h
  obtain ⟨a, xs, rfl, hx, q⟩ := h
  cases rx
  obtain ⟨its, r, ht, hz⟩ := I.list hx
  have hlen := r.length
  refine ⟨"list", _, slot_list_getitem.lookup, ht.isList.typeIs, ?_⟩
  refine wpAny_getItem_list_slice ht.isList hs pl pu .none (by simp) ?_ (by rw [List.size_toArray] <;> omega)
  rw [slicePick_cut, ← hlen]
  refine ⟨.ref s.heap.objs.size, _, I.laid (t' := s.toks) (o := .lst (cutV xs lo hi)) (fun b ob q => Heap.get?_push_of_some _ q) (Nat.le_refl _) ?_, rfl, q _ (I.hok.fresh (Nat.le_refl _))⟩
  exact ⟨Nat.le_trans (cutV_length xs lo hi) hz, _, 0, (r.drop (HT.sIx xs.length 0 lo)).take (HT.sIx xs.length xs.length hi - HT.sIx xs.length 0 lo), Heap.get?_push_size _ rfl⟩

noncomputable def flatV : V → Bool
  | .non => true
  | .bl _ => true
  | .int _ => true
  | .str _ => true
  | _ => false
noncomputable def eqV : V → V → Bool
  | .non, .non => true
  | .bl a, .bl b => a == b
  | .bl a, .int b => (if a then 1 else 0) == b
  | .int a, .bl b => a == (if b then 1 else 0)
  | .int a, .int b => a == b
  | .str a, .str b => a == b
  | _, _ => false
theorem eqAt_V {A : Around} {s : Shared} {y x : V} {u v : Value} (ry : RelV y u) (rx : RelV x v) (fy : flatV y = true) (fx : flatV x = true) : SeqAt.EqAt A s u v (eqV y x) := by
  cases y with
  | non =>
    cases ry
    cases x with
    | non => cases rx; exact SeqAt.EqAt.same _
    | bl b => cases rx; exact SeqAt.EqAt.none_bool b
    | int b => obtain ⟨t, rfl⟩ := rx; exact SeqAt.EqAt.none_int b t
    | str b => obtain ⟨t, rfl⟩ := rx; exact SeqAt.EqAt.none_str b t
    | _ => exact absurd (show false = true from fx) Bool.false_ne_true
  | bl a =>
    cases ry
    cases x with
    | non => cases rx; exact SeqAt.EqAt.bool_none a
    | bl b => cases rx; exact SeqAt.EqAt.bool_bool a b
    | int b => obtain ⟨t, rfl⟩ := rx; exact SeqAt.EqAt.bool_int a b t
    | str b => obtain ⟨t, rfl⟩ := rx; exact SeqAt.EqAt.bool_str a b t
    | _ => exact absurd (show false = true from fx) Bool.false_ne_true
  | int a =>
    obtain ⟨t', rfl⟩ := ry
    cases x with
    | non => cases rx; exact SeqAt.EqAt.int_none a t'
    | bl b => cases rx; exact SeqAt.EqAt.int_bool a t' b
    | int b => obtain ⟨t, rfl⟩ := rx; exact SeqAt.EqAt.int_int a t' b t
    | str b => obtain ⟨t, rfl⟩ := rx; exact SeqAt.EqAt.int_str a t' b t
    | _ => exact absurd (show false = true from fx) Bool.false_ne_true
  | str a =>
    obtain ⟨t', rfl⟩ := ry
    cases x with
    | non => cases rx; exact SeqAt.EqAt.str_none a t'
    | bl b => cases rx; exact SeqAt.EqAt.str_bool a t' b
    | int b => obtain ⟨t, rfl⟩ := rx; exact SeqAt.EqAt.str_int a t' b t
    | str b => obtain ⟨t, rfl⟩ := rx; exact SeqAt.EqAt.str_str a t' b t
    | _ => exact absurd (show false = true from fx) Bool.false_ne_true
  | _ => exact absurd (show false = true from fy) Bool.false_ne_true
noncomputable def eqU (x : V) (u : Value) : Bool := match u with
  | .none => eqV .non x
  | .bool b => eqV (.bl b) x
  | .int i _ => eqV (.int i) x
  | .str z _ => eqV (.str z) x
  | _ => false
theorem eqU_of {x y : V} {u : Value} (r : RelV y u) (f : flatV y = true) : eqU x u = eqV y x := by
  cases y with
  | non => cases r; rfl
  | bl b => cases r; rfl
  | int i => obtain ⟨t, rfl⟩ := r; rfl
  | str z => obtain ⟨t, rfl⟩ := r; rfl
  | _ => exact absurd (show false = true from f) Bool.false_ne_true
theorem any_eqU {x : V} : ∀ {xs : List V} {us : List Value}, Vals xs us → xs.all flatV = true → us.any (eqU x) = xs.any fun y => eqV y x
  | _, _, .nil, _ => rfl
  | y :: xs, u :: us, .cons r t, f => by
    rw [List.all_cons, Bool.and_eq_true] at f
    rw [List.any_cons, List.any_cons, eqU_of r f.1, any_eqU t f.2]
theorem mem_eqAt {A : Around} {s : Shared} {x : V} {v : Value} (rx : RelV x v) (fx : flatV x = true) : ∀ {xs : List V} {us : List Value}, Vals xs us → xs.all flatV = true → ∀ u ∈ us, SeqAt.EqAt A s u v (eqU x u)
  | _, _, .nil, _ => fun u hu => by cases hu
  | y :: xs, u :: us, .cons r t, f => fun u' hu => by
    rw [List.all_cons, Bool.and_eq_true] at f
    rcases List.mem_cons.mp hu with rfl | hu
    · rw [eqU_of r f.1]; exact eqAt_V r rx f.1 fx
    · exact mem_eqAt rx fx t f.2 u' hu
noncomputable def inV (x : V) (xs : List V) : Bool := xs.any fun y => eqV y x
noncomputable def rIn (K : PySem.W.Frag) (neg : Bool) : R2 := fun x y H Q => ∃ p xs, y = .ref p ∧ (SqL K H p xs ∨ SqT K H p xs) ∧ flatV x = true ∧ xs.all flatV = true ∧ Q (.bl (if neg then !inV x xs else inV x xs)) H
theorem op_in_seq : OpR X (compareOp .In) (rIn X.K false) := by
  intro pins s σ H x y v u Q I rx ry h
  obtain ⟨p, xs, rfl, hq, fx, fs, q⟩ := h
  cases ry
  rcases hq with hq | hq
  · obtain ⟨its, r, pl, hz⟩ := I.list hq
    refine SeqAt.in_listAt (eqU x) pl.isList (fun w hw => mem_eqAt rx fx r fs w (by simpa using hw)) ⟨.bl _, H, I, rfl, ?_⟩
    rw [show its.toArray.any (eqU x) = its.any (eqU x) by simp, any_eqU r fs]
    exact q
  · obtain ⟨its, r, pl, hz⟩ := I.tuple hq
    refine SeqAt.in_tupleAt (eqU x) pl (fun w hw => mem_eqAt rx fx r fs w (by simpa using hw)) ⟨.bl _, H, I, rfl, ?_⟩
    rw [show its.toArray.any (eqU x) = its.any (eqU x) by simp, any_eqU r fs]
    exact q
theorem op_notIn_seq : OpR X (compareOp .NotIn) (rIn X.K true) := by
  intro pins s σ H x y v u Q I rx ry h
  obtain ⟨p, xs, rfl, hq, fx, fs, q⟩ := h
  cases ry
  rcases hq with hq | hq
  · obtain ⟨its, r, pl, hz⟩ := I.list hq
    refine SeqAt.notIn_listAt (eqU x) pl.isList (fun w hw => mem_eqAt rx fx r fs w (by simpa using hw)) ⟨.bl _, H, I, rfl, ?_⟩
    rw [show its.toArray.any (eqU x) = its.any (eqU x) by simp, any_eqU r fs]
    exact q
  · obtain ⟨its, r, pl, hz⟩ := I.tuple hq
    refine SeqAt.notIn_tupleAt (eqU x) pl (fun w hw => mem_eqAt rx fx r fs w (by simpa using hw)) ⟨.bl _, H, I, rfl, ?_⟩
    rw [show its.toArray.any (eqU x) = its.any (eqU x) by simp, any_eqU r fs]
    exact q
theorem op_notIn_str : OpR X (compareOp .NotIn) (fun x y H Q => ∃ i j, x = .str i ∧ y = .str j ∧ Q (.bl (!(!(Builtin.Str.occurrences j i 0 j.length 1).isEmpty))) H) := by
  intro pins s σ H x y v u Q I rx ry h
  obtain ⟨i, j, rfl, rfl, q⟩ := h
  obtain ⟨t, rfl⟩ := rx
  obtain ⟨t', rfl⟩ := ry
  exact notIn_str ⟨.bl _, H, I, rfl, q⟩

theorem CallR.or {f : Value} {r r' : List V → Hp → VK → Prop} (h : CallR X f r) (h' : CallR X f r') : CallR X f (fun xs H Q => r xs H Q ∨ r' xs H Q) := by
  intro pins s σ H xs us Q I rs q
  rcases q with q | q
  · exact h pins s σ H xs us Q I rs q
  · exact h' pins s σ H xs us Q I rs q
theorem call_tuple_of : CallR X (.type "tuple") (fun xs H Q => ∃ p ys, xs = [.ref p] ∧ ((SqL X.K H p ys ∧ ∀ l, H l = none → Q (.ref l) (upd H l (.tup ys))) ∨ (SqT X.K H p ys ∧ Q (.ref p) H))) := by
  intro pins s σ H xs us Q I r h
  obtain ⟨p, ys, rfl, h⟩ := h
  obtain ⟨u, rfl, rx⟩ := vals1 r
  cases rx
  rcases h with ⟨hq, q⟩ | ⟨hq, q⟩
  · obtain ⟨its, r', pl, hz⟩ := I.list hq
    have hlen := r'.length
    refine call_tuple_list pl.isList (fun h' kp => ?_) (by simp only [List.size_toArray] <;> omega)
    have I1 : Inv X pins σ H { s with heap := h' } := I.kept (t' := s.toks) kp
    have I2 : Inv X pins σ (upd H h'.objs.size (.tup ys)) { s with heap := h'.push { cls := .type "tuple", data := .seq its.toArray } } :=
      I1.laid (t' := s.toks) (fun b o e => Heap.get?_push_of_some _ e) (Nat.le_refl _) (show ObjOk X.prog X.w _ _ _ (.tup ys) from ⟨hz, its, r', IsTup.new _ _⟩)
    exact ⟨.ref h'.objs.size, _, I2, rfl, q _ (I1.hok.fresh (Nat.le_refl _))⟩
  · obtain ⟨its, r', pl, hz⟩ := I.tuple hq
    exact call_tuple_same pl ⟨.ref p, H, I, rfl, q⟩

noncomputable def tyV (K : PySem.W.Frag) (T : String) (x : V) (H : Hp) : Prop := match x with
  | .str _ => T = "str"
  | .int _ => T = "int"
  | .ref p => (T = "list" ∧ ∃ xs, SqL K H p xs) ∨ (T = "tuple" ∧ ∃ o, K.lookup p = some o ∧ o.cls = .type "tuple" ∧ o.dict = none) ∨
      (T = "dict" ∧ ((∃ kvs, H p = some (.dK kvs)) ∨ ∃ kvs, H p = some (.dT kvs))) ∨ (T = "set" ∧ ∃ S n, H p = some (.set S n))
  | _ => False
theorem tyV_is {pins : List (Addr × Obj)} {σ : St} {H : Hp} {s : Shared} {T : String} {x : V} {v : Value} (I : Inv X pins σ H s) (r : RelV x v) (ty : tyV X.K T x H) :
    s.TypeIs v T ∧ ∀ a, v = .ref a → ∃ ob, s.heap.get? a = some ob ∧ ob.dict = none := by
  cases x with
  | str z =>
    obtain ⟨t, rfl⟩ := r
    cases (show T = "str" from ty)
    exact ⟨typeIs_str s z t, fun _ e => nomatch e⟩
  | int i =>
    obtain ⟨t, rfl⟩ := r
    cases (show T = "int" from ty)
    exact ⟨typeIs_int s i t, fun _ e => nomatch e⟩
  | ref p =>
    cases r
    rcases ty with ⟨rfl, xs, hq⟩ | ⟨rfl, o, hk, hc, hd⟩ | ⟨rfl, hk⟩ | ⟨rfl, S, n, hk⟩
    · obtain ⟨its, _, pl, _⟩ := I.list hq
      refine ⟨pl.isList.typeIs, fun a e => ?_⟩
      cases e
      obtain ⟨o, n, e, c, hd, _⟩ := pl
      exact ⟨o, e, hd⟩
    · refine ⟨⟨o, I.kIn p o hk, hc⟩, fun a e => ?_⟩
      cases e
      exact ⟨o, I.kIn _ o hk, hd⟩
    · have z : ∃ o, s.heap.get? p = some o ∧ o.ExactDict := by
        rcases hk with ⟨kvs, hk⟩ | ⟨kvs, hk⟩
        · obtain ⟨_, _, _, _, o, _, _, e, ex, _⟩ := I.hok p _ hk
          exact ⟨o, e, ex⟩
        · obtain ⟨_, _, _, _, o, _, _, e, ex, _⟩ := I.hok p _ hk
          exact ⟨o, e, ex⟩
      obtain ⟨o, e, ex⟩ := z
      refine ⟨⟨o, e, ex.1⟩, fun a e2 => ?_⟩
      cases e2
      exact ⟨o, e, ex.2.1⟩
    · obtain ⟨o, _, _, _, e, ex, _⟩ := I.hok p _ hk
      refine ⟨⟨o, e, ex.1⟩, fun a e2 => ?_⟩
      cases e2
      exact ⟨o, e, ex.2.1⟩
  | _ => exact False.elim ty
noncomputable def tBM (K : PySem.W.Frag) (T : String) (r : V → List V → Hp → VK → Prop) (to : TE) (t : TA) : TE := fun σ H Q => to σ H fun x H1 => tyV K T x H1 ∧ t σ H1 fun xs H2 => r x xs H2 Q
variable {o e : Expr} {es : List Expr} {to : TE} {t : TA} {name : Str} {apos cpos : Pos} {T id : String} {r : V → List V → Hp → VK → Prop}
theorem pe_bm (pa : PlainAttrs T) (slot : Slot T name id) (hty : typeOf (.builtin id) = pure (.type "method_descriptor")) (hm : MtR X id r) (ho : PE X o to) (ha : PA X (e :: es) t)
    (hbase : attributeBase o name X.env (eval o X.env) = eval o X.env := by rfl)
    (hfew : ((backTo cpos (starEach (e :: es) X.env)).all (fun x => !x.1) && (backToKw cpos (keywordEach [] X.env)).all (fun x => x.1.isSome)
      && decide ((e :: es).length + ([] : List Keyword).length + (if ([] : List Keyword).isEmpty then 0 else 1) < 30)) = true := by rfl)
    (hline : (apos.endLine == cpos.line) = true := by rfl) (hs : starEach (e :: es) X.env = (false, eval e X.env) :: starEach es X.env := by rfl) (hplain : (backTo cpos (starEach es X.env)).any (·.1) = false := by rfl) :
    PE X (.Call (.Attribute o name apos) (e :: es) [] cpos) (tBM X.K T r to t) := by
  intro pins s σ H Q I h
  refine wpAny_Call_method_late hbase hfew hline rfl (thn (ho pins s σ H _ I h) fun v s1 ⟨x, H1, I1, r1, ty, q1⟩ => ?_)
  obtain ⟨h1, h2⟩ := tyV_is I1 r1 ty
  refine ⟨T, id, pa, slot, hty, h1, h2, ?_⟩
  have hA := ha cpos pins s1 σ H1 _ I1 q1
  rw [hs] at hA ⊢
  refine Calls.callWith_builtin (by show (false || (backTo cpos (starEach es X.env)).any (·.1)) = false; rw [hplain] <;> rfl) (Calls.evalArgs_plain ?_)
  exact thn hA fun us s2 ⟨vs, H2, I2, r2, q2⟩ => hm pins s2 σ H2 x vs v us Q I2 r1 r2 q2
/- xs.append(e), list.index on a module's tuple .. are MtR facts of 06m -/
end
end L2

namespace L2
open PySem PySem.Spec PyProof.Rows

noncomputable def MtM (X : Cx) (id : String) (r : V → List V → Hp → VK → Prop) : Prop :=
  ∀ (pins : List (Addr × Obj)) (s : Shared) (σ : St) (H : Hp) (x : V) (xs : List V) (v : Value) (us : List Value) (Q : VK), Inv X pins σ H s → RelV x v → Vals xs us → r x xs H Q →
    wpAny (model X.prog X.w) X.A (call (.builtin id) (v :: us)) (EP X pins σ Q) X.xe s

theorem Vals.one : ∀ {x : V} {us : List Value}, Vals [x] us → ∃ u, us = [u] ∧ RelV x u
  | _, _, .cons r .nil => ⟨_, rfl, r⟩
section
variable {X : Cx} {pins : List (Addr × Obj)} {σ : St} {H : Hp} {s : Shared} {l b : Addr} {xs ys zs : List V}

theorem Inv.lset {its its' : List Value} {n : Nat} {f : Array Value → Array Value} {t' : Nat} (I : Inv X pins σ H s) (hH : H l = some (.lst xs))
    (e : s.heap.get? l = some { cls := .type "list", data := .seq its.toArray n }) (hf : f its.toArray = its'.toArray) (hv : Vals ys its') (hz : ys.length ≤ sizeLine) :
    Inv X pins σ (upd H l (.lst ys)) { s with heap := s.heap.update l (Obj.mapSeq f), toks := t' } := by
  have q := PySem.IsL.update e f
  rw [hf] at q
  refine I.write (x := l) (e := l) (by rw [hH]; exact trivial) (.inl rfl) (fun b' u hb hu => (Heap.get?_update_other s.heap (Obj.mapSeq f) (Ne.symm hb)).trans hu) ⟨_, q⟩ ?_
  exact ⟨hz, its', _, hv, q⟩
theorem Inv.lnew {its : List Value} {t' : Nat} (I : Inv X pins σ H s) (hv : Vals ys its) (hz : ys.length ≤ sizeLine) :
    Inv X pins σ (upd H s.heap.objs.size (.lst ys)) { s with heap := s.heap.push { cls := .type "list", data := .seq its.toArray }, toks := t' } :=
  I.laid (fun _ _ q => Heap.get?_push_of_some _ q) (Nat.le_refl _) ⟨hz, its, 0, hv, Heap.get?_push_size _ rfl⟩
theorem Inv.fresh (I : Inv X pins σ H s) : H s.heap.objs.size = none := I.hok.fresh (Nat.le_refl _)
theorem Inv.lstM (I : Inv X pins σ H s) (hH : H l = some (.lst xs)) : xs.length ≤ sizeLine ∧ ∃ (its : List Value) (n : Nat), Vals xs its ∧ xs.length = its.length ∧ s.heap.get? l = some { cls := .type "list", data := .seq its.toArray n } := by
  obtain ⟨z, its, n, r, e⟩ := I.hok l _ hH
  exact ⟨z, its, n, r, r.length, e⟩

end

section
variable {X : Cx}

noncomputable def rAppend : V → List V → Hp → VK → Prop := fun x vs H Q => ∃ l xs y, x = .ref l ∧ vs = [y] ∧ H l = some (.lst xs) ∧ xs.length < sizeLine ∧ Q .non (upd H l (.lst (xs ++ [y])))
theorem mt_append : MtM X "list.append" rAppend := by
  intro pins s σ H x vs v us Q I rx rv h
  obtain ⟨l, xs, y, rfl, rfl, hH, hz, q⟩ := h
  cases rx
  obtain ⟨u, rfl, ru⟩ := rv.one
  obtain ⟨z, its, n, r, hl, e⟩ := I.lstM hH
  refine call_meets F.slot_list_append ⟨_, e, rfl⟩ F.entry_list_append (F.args_list_append_2 _ _) (PySem.list_append l its.toArray n u (by rw [List.size_toArray]; omega)) ⟨e, ?_⟩
  refine ⟨.non, _, I.lset (its' := its ++ [u]) hH e (by simp) (r.append (.cons ru .nil)) ?_, rfl, q⟩
  rw [List.length_append, List.length_singleton]
  omega

end


end L2

namespace L2
open PySem PySem.Spec PyProof.Rows

section
variable {κ : Type} [DecidableEq κ]
noncomputable def valV (kvs : List (κ × V)) (k : κ) : Option V := (kvs.find? fun kv => decide (kv.1 = k)).map (·.2)
noncomputable def putK (kvs : List (κ × V)) (k : κ) (v : V) : List (κ × V) :=
  if (kvs.any fun kv => decide (kv.1 = k)) = true then kvs.map (fun kv => if kv.1 = k then (kv.1, v) else kv) else kvs ++ [(k, v)]
theorem valV_pos {p : κ × V} {r : List (κ × V)} {k : κ} (e : p.1 = k) : valV (p :: r) k = some p.2 := by simp [valV, List.find?_cons, e]
theorem valV_neg {p : κ × V} {r : List (κ × V)} {k : κ} (e : ¬ p.1 = k) : valV (p :: r) k = valV r k := by simp [valV, List.find?_cons, e]
theorem valV_any (k : κ) : ∀ kvs : List (κ × V), (kvs.any fun kv => decide (kv.1 = k)) = (valV kvs k).isSome
  | [] => rfl
  | p :: r => by
    rw [List.any_cons]
    by_cases e : p.1 = k
    · simp only [valV_pos e, decide_eq_true e, Bool.true_or, Option.isSome_some]
    · rw [valV_neg e, decide_eq_false e, Bool.false_or]; exact valV_any k r
theorem length_putK (kvs : List (κ × V)) (k : κ) (v : V) : (putK kvs k v).length ≤ kvs.length + 1 := by
  unfold putK
  split
  · rw [List.length_map]; omega
  · rw [List.length_append, List.length_cons, List.length_nil]; omega
theorem RelO.isSome_eq {o : Option V} {u : Option Value} (r : RelO o u) : o.isSome = u.isSome := by
  cases o with
  | none => cases u with
    | none => rfl
    | some _ => exact (show False from r).elim
  | some _ => cases u with
    | none => exact (show False from r).elim
    | some _ => rfl
theorem KV.val {kvs : List (κ × V)} {vs : List (κ × Value)} (r : KV kvs vs) (k : κ) : RelO (valV kvs k) (valueAt vs k) := by
  unfold KV at r
  induction r with
  | nil => exact True.intro
  | @cons p q ps qs h t ih =>
    obtain ⟨h1, h2⟩ := h
    by_cases e : p.1 = k
    · have e' : q.1 = k := h1.symm.trans e
      have b : valueAt (q :: qs) k = some q.2 := by simp [valueAt, List.find?_cons, e']
      rw [valV_pos e, b]; exact h2
    · have e' : ¬ q.1 = k := fun z => e (h1.trans z)
      have b : valueAt (q :: qs) k = valueAt qs k := by simp [valueAt, List.find?_cons, e']
      rw [valV_neg e, b]; exact ih
theorem KV.any {kvs : List (κ × V)} {vs : List (κ × Value)} (r : KV kvs vs) (k : κ) : (kvs.any fun kv => decide (kv.1 = k)) = vs.any fun kv => decide (kv.1 = k) := by
  unfold KV at r
  induction r with
  | nil => rfl
  | cons h t ih => rw [List.any_cons, List.any_cons, ih, h.1]
theorem KV.repl {kvs : List (κ × V)} {vs : List (κ × Value)} (r : KV kvs vs) (k : κ) {y : V} {u : Value} (ry : RelV y u) :
    KV (kvs.map fun kv => if kv.1 = k then (kv.1, y) else kv) (vs.map fun kv => if kv.1 = k then (kv.1, u) else kv) := by
  unfold KV at r ⊢
  induction r with
  | nil => exact .nil
  | @cons p q ps qs h t ih =>
    rw [List.map_cons, List.map_cons]
    refine .cons ?_ ih
    obtain ⟨h1, h2⟩ := h
    by_cases e : p.1 = k
    · rw [if_pos e, if_pos (h1.symm.trans e)]; exact ⟨h1, ry⟩
    · rw [if_neg e, if_neg (fun z => e (h1.trans z))]; exact ⟨h1, h2⟩
theorem KV.put {kvs : List (κ × V)} {vs : List (κ × Value)} (r : KV kvs vs) (k : κ) {y : V} {u : Value} (ry : RelV y u) : KV (putK kvs k y) (stored vs k u) := by
  unfold putK stored
  rw [r.any k]
  by_cases e : (vs.any fun kv => decide (kv.1 = k)) = true
  · rw [if_pos e, if_pos e]; exact r.repl k ry
  · rw [if_neg e, if_neg e]; exact Paired.snoc r ⟨rfl, ry⟩
theorem KV.length {kvs : List (κ × V)} {vs : List (κ × Value)} (r : KV kvs vs) : kvs.length = vs.length := Paired.length r
end

theorem kV_is {P : Program} {w : World} {k : Key} {u : Value} (r : RelV (kV k) u) : (mixKind P w).is k u = true := by
  cases k with
  | inl i => obtain ⟨t, e⟩ := (show ∃ t, u = Value.int i t from r); subst e; exact mixKind_int P w i t
  | inr x => obtain ⟨t, e⟩ := (show ∃ t, u = Value.str x t from r); subst e; exact mixKind_str P w x t
theorem items_are {P : Program} {w : World} : ∀ {ks : List Key} {us : List Value}, Vals (ks.map kV) us → ItemsAre (mixKind P w) ks us
  | [], _, r => by rw [List.map_nil] at r; cases r; exact .nil
  | k :: ks, _, r => by
    rw [List.map_cons] at r
    cases r with
    | cons h t => exact .cons (kV_is h) (items_are t)

noncomputable abbrev KT (H : Hp) : List (List Key × V) → List (List Key × Addr × Value) → Prop := Paired fun p q => p.1 = q.1 ∧ H q.2.1 = some (.tup (p.1.map kV)) ∧ RelV p.2 q.2.2
theorem KT.val {H : Hp} {kvs : List (List Key × V)} {xs : List (List Key × Addr × Value)} (r : KT H kvs xs) (k : List Key) : RelO (valV kvs k) ((atKey xs k).map (·.2)) := by
  induction r with
  | nil => exact True.intro
  | @cons p q ps qs h t ih =>
    obtain ⟨h1, _, h2⟩ := h
    by_cases e : p.1 = k
    · have e' : q.1 = k := h1.symm.trans e
      have b : atKey (q :: qs) k = some q.2 := by simp [atKey, List.find?_cons, e']
      rw [valV_pos e, b]; exact h2
    · have e' : ¬ q.1 = k := fun z => e (h1.trans z)
      have b : atKey (q :: qs) k = atKey qs k := by simp [atKey, List.find?_cons, e']
      rw [valV_neg e, b]; exact ih
theorem KT.repl {H : Hp} {kvs : List (List Key × V)} {xs : List (List Key × Addr × Value)} (r : KT H kvs xs) (k : List Key) {y : V} {u : Value} (ry : RelV y u) :
    KT H (kvs.map fun kv => if kv.1 = k then (kv.1, y) else kv) (xs.map (putAt k u)) := by
  induction r with
  | nil => exact .nil
  | @cons p q ps qs h t ih =>
    rw [List.map_cons, List.map_cons]
    refine .cons ?_ ih
    obtain ⟨h1, h2, h3⟩ := h
    unfold putAt
    by_cases e : p.1 = k
    · rw [if_pos e, if_pos (h1.symm.trans e)]; exact ⟨h1, h2, ry⟩
    · rw [if_neg e, if_neg (fun z => e (h1.trans z))]; exact ⟨h1, h2, h3⟩
theorem KT.put {H : Hp} {kvs : List (List Key × V)} {xs : List (List Key × Addr × Value)} (r : KT H kvs xs) (k : List Key) {b : Addr} {y : V} {u : Value} (hb : H b = some (.tup (k.map kV))) (ry : RelV y u) :
    KT H (putK kvs k y) (storedH xs k b u) := by
  have e : (kvs.any fun kv => decide (kv.1 = k)) = (atKey xs k).isSome := by
    rw [valV_any, (r.val k).isSome_eq, Option.isSome_map]
  unfold putK storedH
  rw [e]
  by_cases q : (atKey xs k).isSome = true
  · rw [if_pos q, if_pos q]; exact r.repl k ry
  · rw [if_neg q, if_neg q]; exact Paired.snoc r ⟨rfl, hb, ry⟩
theorem KT.keeps {H H' : Hp} {kvs : List (List Key × V)} {xs : List (List Key × Addr × Value)} (r : KT H kvs xs) (ht : ∀ b ys, H b = some (.tup ys) → H' b = some (.tup ys)) : KT H' kvs xs :=
  Paired.mapP r fun _ _ z => ⟨z.1, ht _ _ z.2.1, z.2.2⟩

section
variable {P : Program} {w : World} {H : Hp} {h : Heap} {a : Addr}
theorem rd_of {u : HO} (ok : HOk P w H h) (e : Rd H a u) : ObjOk P w H h a u := e.ok ok
theorem dk_rd {kvs : List (Key × V)} (ok : HOk P w H h) (e : Rd H a (.dK kvs)) : kvs.length ≤ sizeLine ∧ (a == sysModules) = false ∧ ∃ vs, KV kvs vs ∧ h.DictOf (mixKind P w) a vs :=
  show ObjOk P w H h a (.dK kvs) from rd_of ok e
theorem dk_of {kvs : List (Key × V)} (ok : HOk P w H h) (e : H a = some (.dK kvs)) : kvs.length ≤ sizeLine ∧ (a == sysModules) = false ∧ ∃ vs, KV kvs vs ∧ h.DictOf (mixKind P w) a vs := dk_rd ok (.inl e)
theorem key_of {ks : List Key} (ok : HOk P w H h) (e : H a = some (.tup (ks.map kV))) : (tupleKind (mixKind P w)).is h ks a := by
  obtain ⟨_, its, r, o, h1, h2, n, h3⟩ := (show ObjOk P w H h a (.tup (ks.map kV)) from ok a _ e)
  exact ⟨o, its.toArray, n, h1, h2, h3, by simpa using items_are r⟩
theorem dt_rd {kvs : List (List Key × V)} (ok : HOk P w H h) (e : Rd H a (.dT kvs)) : kvs.length ≤ sizeLine ∧ (a == sysModules) = false ∧
    ∃ xs, KT H kvs xs ∧ h.DictOfH (tupleKind (mixKind P w)) a xs := by
  obtain ⟨z, y, xs, r, o, es, ep, h1, h2, h3, h4, h5⟩ := (show ObjOk P w H h a (.dT kvs) from rd_of ok e)
  refine ⟨z, y, xs, r, o, es, ep, h1, h2, h3, h4, fun x hx => ?_, h5⟩
  have all : ∀ {l : List (List Key × V)} {m : List (List Key × Addr × Value)}, KT H l m → ∀ x ∈ m, (tupleKind (mixKind P w)).is h x.1 x.2.1 := by
    intro l m q
    induction q with
    | nil => intro x hx; exact nomatch hx
    | @cons p q ps qs hq t ih =>
      intro x hx
      rcases List.mem_cons.mp hx with e | hx
      · subst e
        exact key_of ok (by rw [← hq.1]; exact hq.2.1)
      · exact ih x hx
  exact all r x hx
theorem dt_of {kvs : List (List Key × V)} (ok : HOk P w H h) (e : H a = some (.dT kvs)) : kvs.length ≤ sizeLine ∧ (a == sysModules) = false ∧
    ∃ xs, KT H kvs xs ∧ h.DictOfH (tupleKind (mixKind P w)) a xs := dt_rd ok (.inl e)
end

noncomputable def DGet (H : Hp) (a : Addr) (y : V) (r : Option V) : Prop :=
  (∃ kvs k, Rd H a (.dK kvs) ∧ y = kV k ∧ r = valV kvs k) ∨ ∃ kvs k b, Rd H a (.dT kvs) ∧ y = .ref b ∧ H b = some (.tup (k.map kV)) ∧ r = valV kvs k
noncomputable def DPut (H : Hp) (a : Addr) (y v : V) (H' : Hp) : Prop :=
  (∃ kvs k, H a = some (.dK kvs) ∧ y = kV k ∧ kvs.length < sizeLine ∧ H' = upd H a (.dK (putK kvs k v))) ∨
  ∃ kvs k b, H a = some (.dT kvs) ∧ y = .ref b ∧ H b = some (.tup (k.map kV)) ∧ kvs.length < sizeLine ∧ H' = upd H a (.dT (putK kvs k v))
section
variable {X : Cx} {pins : List (Addr × Obj)} {σ : St} {H : Hp} {s : Shared} {a : Addr} {y v : V} {u r : Value} {o : Option V} {A : Around} {E : Value → Shared → Prop}

theorem d_getItem {Q : Value → Shared → Prop} (hu : A.units + 1 < cLine) (I : Inv X pins σ H s) (g : DGet H a y (some v)) (ry : RelV y u) (h : ∀ w' s', Inv X pins σ H s' → RelV v w' → Q w' s') :
    wpAny (model X.prog X.w) A (getItem (.ref a) u) Q E s := by
  rcases g with ⟨kvs, k, e, ey, l⟩ | ⟨kvs, k, b, e, ey, eb, l⟩
  · subst ey
    obtain ⟨z, hd, vs, rel, dd⟩ := dk_rd I.hok e
    obtain ⟨w', hw, rw'⟩ := RelO.some_of (v := v) (o := valueAt vs k) (by rw [l]; exact rel.val k)
    exact wpAny_getItem_of (kV_is ry) dd.mapOf hw (h w' _ (I.tok _) rw')
  · subst ey
    cases (show u = Value.ref b from ry)
    obtain ⟨z, hd, xs, rel, dd⟩ := dt_rd I.hok e
    obtain ⟨w', hw, rw'⟩ := RelO.some_of (v := v) (o := (atKey xs k).map (·.2)) (by rw [l]; exact rel.val k)
    obtain ⟨p, hp, hp2⟩ := Option.map_eq_some_iff.mp hw
    refine wpAny_getItem_heap (tupleKind_room_in1 hu) (key_of I.hok eb) dd hp ?_
    rw [hp2]
    exact h w' _ (I.tok _) rw'
theorem d_in {Q : Value → Shared → Prop} (hu : A.units + 1 < cLine) (I : Inv X pins σ H s) (g : DGet H a y o) (ry : RelV y u) (h : ∀ s', Inv X pins σ H s' → Q (.bool o.isSome) s') :
    wpAny (model X.prog X.w) A (compareOp .In u (.ref a)) Q E s := by
  rcases g with ⟨kvs, k, e, ey, l⟩ | ⟨kvs, k, b, e, ey, eb, l⟩
  · subst ey
    obtain ⟨z, hd, vs, rel, dd⟩ := dk_rd I.hok e
    refine wpAny_in_of (kV_is ry) hd dd.mapOf ?_
    rw [← (rel.val k).isSome_eq, ← l]
    exact h _ (I.tok _)
  · subst ey
    cases (show u = Value.ref b from ry)
    obtain ⟨z, hd, xs, rel, dd⟩ := dt_rd I.hok e
    refine wpAny_in_heap (tupleKind_room_in1 hu) (key_of I.hok eb) hd dd ?_
    have q := (rel.val k).isSome_eq
    rw [Option.isSome_map] at q
    rw [← q, ← l]
    exact h _ (I.tok _)
theorem d_notIn {Q : Value → Shared → Prop} (hu : A.units + 1 < cLine) (I : Inv X pins σ H s) (g : DGet H a y o) (ry : RelV y u) (h : ∀ s', Inv X pins σ H s' → Q (.bool (!o.isSome)) s') :
    wpAny (model X.prog X.w) A (compareOp .NotIn u (.ref a)) Q E s := by
  rcases g with ⟨kvs, k, e, ey, l⟩ | ⟨kvs, k, b, e, ey, eb, l⟩
  · subst ey
    obtain ⟨z, hd, vs, rel, dd⟩ := dk_rd I.hok e
    refine wpAny_notIn_of (kV_is ry) hd dd.mapOf ?_
    rw [← (rel.val k).isSome_eq, ← l]
    exact h _ (I.tok _)
  · subst ey
    cases (show u = Value.ref b from ry)
    obtain ⟨z, hd, xs, rel, dd⟩ := dt_rd I.hok e
    refine wpAny_notIn_heap (tupleKind_room_in1 hu) (key_of I.hok eb) hd dd ?_
    have q := (rel.val k).isSome_eq
    rw [Option.isSome_map] at q
    rw [← q, ← l]
    exact h _ (I.tok _)
theorem d_write {h' : Heap} {t' : Nat} {ob : HO} (I : Inv X pins σ H s) (mu : Mut (H a)) (hs : Heap.SameBut a s.heap h') (he : ∃ q, h'.get? a = some q) (new : ObjOk X.prog X.w (upd H a ob) h' a ob) :
    Inv X pins σ (upd H a ob) { s with heap := h', toks := t' } :=
  I.write (x := a) (e := a) mu (.inl rfl) (fun b q hb z => (hs.2 b hb).trans z) he new
theorem dk_new {P : Program} {w : World} {H' : Hp} {h' : Heap} {kvs : List (Key × V)} {vs : List (Key × Value)} (z : kvs.length ≤ sizeLine) (hd : (a == sysModules) = false) (rel : KV kvs vs) (dd : h'.DictOf (mixKind P w) a vs) :
    ObjOk P w H' h' a (.dK kvs) := ⟨z, hd, vs, rel, dd⟩
theorem d_setItem {H' : Hp} {Q : Unit → Shared → Prop} (hu : A.units + 1 < cLine) (I : Inv X pins σ H s) (g : DPut H a y v H') (ry : RelV y u) (rv : RelV v r) (h : ∀ s', Inv X pins σ H' s' → Q () s') :
    wpAny (model X.prog X.w) A (setItem (.ref a) u r) Q E s := by
  rcases g with ⟨kvs, k, e, ey, l, eH⟩ | ⟨kvs, k, b, e, ey, eb, l, eH⟩
  · subst ey eH
    obtain ⟨z, hd, vs, rel, dd⟩ := dk_of I.hok e
    have hz : vs.length ≤ sizeLine := by rw [← rel.length]; exact z
    have hl : (putK kvs k v).length ≤ sizeLine := by have := length_putK kvs k v; omega
    refine wpAny_setItem_pairs (hsz := hz) (kV_is ry) dd fun h' dd' hs => h _ ?_
    have he : ∃ q, h'.get? a = some q := let ⟨q, _, _, hq, _⟩ := dd'; ⟨q, hq⟩
    exact d_write I (by rw [e]; exact True.intro) hs he (dk_new hl hd (rel.put k rv) dd')
  · subst ey eH
    cases (show u = Value.ref b from ry)
    obtain ⟨z, hd, xs, rel, dd⟩ := dt_of I.hok e
    have hz : xs.length ≤ sizeLine := by rw [← Paired.length rel]; exact z
    have hl : (putK kvs k v).length ≤ sizeLine := by have := length_putK kvs k v; omega
    refine wpAny_setItem_heap (hsz := hz) (tupleKind_room_in1 hu) (key_of I.hok eb) dd fun h' dd' hs => h _ ?_
    obtain ⟨q, es, ep, hq, h2, h3, h4, _, h5⟩ := dd'
    refine d_write I (by rw [e]; exact True.intro) hs ⟨q, hq⟩ ⟨hl, hd, _, (rel.put k eb rv).keeps fun c ys ec => ?_, q, es, ep, hq, h2, h3, h4, h5⟩
    rw [upd_ne (ne_of ec e (fun z => nomatch z))]
    exact ec
end


noncomputable def NoSl (i : Expr) : Prop := ∀ ov iv, subscripted i false ov iv = operate [ov, iv] (getItem ov iv)
theorem subD_of {prog : Program} {w : World} {A : Around} {E : Value → Shared → Prop} {s : Shared} {env : Env} {value slice : Expr} {pos : Pos} {T id : String} {Q : Value → Shared → Prop}
    (hl : typeLookup (.type T) "__getitem__" = pure (some (.builtin id))) (hs : NoSl slice)
    (h : wpAny (model prog w) A (eval value env) (fun o s₁ => wpAny (model prog w) A (eval slice env) (fun i s₂ => s₂.TypeIs o T ∧ wpAny (model prog w) A (getItem o i) Q E s₂) E s₁) E s) :
    wpAny (model prog w) A (eval (.Subscript value slice pos) env) Q E s := by
  refine Subscript_ (wpAny_mono h (fun o s₁ h₁ => wpAny_mono h₁ (fun i s₂ h₂ => ?_) fun _ _ x => x) fun _ _ x => x)
  obtain ⟨hT, h₂⟩ := h₂
  unfold subscriptTail
  refine wpAny_bind ?_
  rw [getitemInPython_of_ne hT.not_modules]
  refine wpAny_bind (wpAny_specialOf hT hl ?_)
  have fin : wpAny (model prog w) A (subscripted slice false o i) (fun r s₃ => wpAny (model prog w) A (letTemporaryGo value o r >>= fun _ => pure r) Q E s₃) E s₂ := by
    rw [hs o i]
    exact wpAny_operating (wpAny_mono h₂ (fun r s₃ h₃ => wpAny_bind (wpAny_letTemporaryGo (wpAny_pure h₃))) fun _ _ x => x)
  first
    | exact wpAny_pure (wpAny_bind fin)
    | exact wpAny_bind (wpAny_pure (wpAny_bind fin))
    | exact wpAny_bind fin

theorem dict_typeIs {X : Cx} {pins : List (Addr × Obj)} {σ : St} {H : Hp} {s : Shared} {a : Addr} {y : V} {o : Option V} (I : Inv X pins σ H s) (g : DGet H a y o) : s.TypeIs (.ref a) "dict" := by
  rcases g with ⟨kvs, k, e, _, _⟩ | ⟨kvs, k, b, e, _, _, _⟩
  · obtain ⟨_, _, vs, _, dd⟩ := dk_rd I.hok e
    exact dd.typeIs
  · obtain ⟨_, _, xs, _, dd⟩ := dt_rd I.hok e
    exact dd.typeIs
noncomputable def tDGet (td ty : TE) : TE := fun σ H Q => td σ H fun x H1 => ty σ H1 fun y H2 => ∃ a v, x = .ref a ∧ DGet H2 a y (some v) ∧ Q v H2
noncomputable def tDIn (ty td : TE) : TE := fun σ H Q => ty σ H fun y H1 => td σ H1 fun x H2 => ∃ a o, x = .ref a ∧ DGet H2 a y o ∧ Q (.bl o.isSome) H2
noncomputable def tDNotIn (ty td : TE) : TE := fun σ H Q => ty σ H fun y H1 => td σ H1 fun x H2 => ∃ a o, x = .ref a ∧ DGet H2 a y o ∧ Q (.bl (!o.isSome)) H2
noncomputable def sDPut (td ty tv : TE) : TS := fun D σ H => tv σ H fun v H1 => td σ H1 fun x H2 => ty σ H2 fun y H3 => ∃ a H4, x = .ref a ∧ DPut H3 a y v H4 ∧ D.nx σ H4
section
variable {X : Cx} {o i e value : Expr} {pos pos' tpos : Pos} {td ty tv : TE}
theorem pe_dget (hu : X.A.units + 1 < cLine) (ho : PE X o td) (hi : PE X i ty) (hs : NoSl i) : PE X (.Subscript o i pos) (tDGet td ty) := by
  intro pins s σ H Q I h
  refine subD_of PySem.F.slot_dict_getitem.lookup hs (thn (ho pins s σ H _ I h) fun u s1 ⟨x, H1, I1, rx, q1⟩ => thn (hi pins s1 σ H1 _ I1 q1) fun iv s2 ⟨y, H2, I2, ry, a, v, ex, g, q2⟩ => ?_)
  subst ex
  obtain rfl : u = Value.ref a := rx
  exact ⟨dict_typeIs I2 g, d_getItem hu I2 g ry fun w' s3 I3 rw' => ⟨v, H2, I3, rw', q2⟩⟩
theorem pc_din (hu : X.A.units + 1 < cLine) (hi : PE X i ty) (ho : PE X o td) : PC X .In i o (tDIn ty td) := by
  intro pins s σ H Q I h
  refine thn (hi pins s σ H _ I h) fun iv s1 ⟨y, H1, I1, ry, q1⟩ => thn (ho pins s1 σ H1 _ I1 q1) fun u s2 ⟨x, H2, I2, rx, a, ov, ex, g, q2⟩ => ?_
  subst ex
  obtain rfl : u = Value.ref a := rx
  exact d_in hu I2 g ry fun s3 I3 => ⟨.bl ov.isSome, H2, I3, rfl, q2⟩
theorem pc_dnotin (hu : X.A.units + 1 < cLine) (hi : PE X i ty) (ho : PE X o td) : PC X .NotIn i o (tDNotIn ty td) := by
  intro pins s σ H Q I h
  refine thn (hi pins s σ H _ I h) fun iv s1 ⟨y, H1, I1, ry, q1⟩ => thn (ho pins s1 σ H1 _ I1 q1) fun u s2 ⟨x, H2, I2, rx, a, ov, ex, g, q2⟩ => ?_
  subst ex
  obtain rfl : u = Value.ref a := rx
  exact d_notIn hu I2 g ry fun s3 I3 => ⟨.bl (!ov.isSome), H2, I3, rfl, q2⟩
theorem ps_dput (hu : X.A.units + 1 < cLine) (ho : PE X o td) (hi : PE X i ty) (hv : PE X value tv) (hs : swapsWith value (some (.Subscript o i pos')) pos.line X.env = pure false) :
    PS X (.Assign [.Subscript o i pos'] value pos) (sDPut td ty tv) := by
  intro pins s σ H D I h
  refine wpAny_Assign_Subscript (thn (hv pins s σ H _ I h) fun r s1 ⟨v, H1, I1, rv, q1⟩ => thn (ho pins s1 σ H1 _ I1 q1) fun u s2 ⟨x, H2, I2, rx, q2⟩ => thn (hi pins s2 σ H2 _ I2 q2) fun iv s3 ⟨y, H3, I3, ry, a, H4, ex, g, q3⟩ => ?_) hs
  subst ex
  obtain rfl : u = Value.ref a := rx
  exact d_setItem hu I3 g ry rv fun s4 I4 => ⟨σ, H4, I4, q3⟩
end





end L2

namespace Att
open PySem PySem.W PySem.Calls PyProof.Rows

theorem ints_of_wellAll {P : Params} {h : Heap} : ∀ (ns : List Int) (vs : List Value), WellAll P h vs (ns.map WData.int) → IntsAre vs ns := by
  intro ns
  induction ns with
  | nil =>
    intro vs w
    rw [List.map_nil] at w
    cases w
    exact .nil
  | cons n ns ih =>
    intro vs w
    rw [List.map_cons] at w
    cases w with
    | cons a b =>
      cases a
      exact .cons _ _ (ih _ b)

theorem script_of {l : OpenLaw} {n : Nat} (hn : l.most = some n) {P : Params} {h : Heap} {args : List WData} {vals : List Value}
    (hpre : l.row.toRowW.claim.pre args = true) (hwl : WellAll P h vals args) :
    ∃ a vs ns, vals = [Value.ref a] ∧ args = [WData.list (ns.map WData.int)] ∧ h.get? a = some { cls := .type "list", data := .seq vs.toArray } ∧ IntsAre vs ns ∧ ns.length ≤ n := by
  have hsh : WShape.hasAll [] args [.list .int] = true := (pre_splitW hpre).1
  have hc : l.pre.holds [] { args := args } = true := (pre_splitW hpre).2
  obtain ⟨d, r, rfl, h1, h2⟩ := hasAllW_cons hsh
  obtain rfl := hasAllW_nil h2
  obtain ⟨xs, rfl, h3⟩ := hasW_list h1
  obtain ⟨ns, rfl⟩ := items_int h3
  have hlen : ns.length ≤ n := by
    unfold OpenLaw.pre at hc
    have h4 : (WTm.not (.lt (.lit (.int (n : Int))) (.len (.arg 0)))).holds [] { args := [.list (ns.map .int)] } = true := by
      have h4 := (holds_andW hc).1
      rw [hn] at h4
      exact h4
    have h5 := condW_of h4 (w_not (w_lt w_lit (w_len_list (w_arg rfl))))
    rw [List.length_map] at h5
    refine Nat.le_of_not_lt fun q => ?_
    have q' : (n : Int) < ((ns.length : Nat) : Int) := by omega
    first
      | (rw [decide_eq_true q'] at h5; exact absurd h5 (by decide))
      | (simp at h5; omega)
  cases hwl with
  | cons w1 w2 =>
    cases w2
    cases w1 with
    | list ho hall => exact ⟨_, _, ns, rfl, rfl, ho, ints_of_wellAll ns _ hall, hlen⟩

theorem post_true (l : OpenLaw) (args : List WData) : l.row.toRowW.claim.post args (.bool true) args = true :=
  postW_of (r := l.row.toRowW) (X := (true == true))
    (show WShape.has [] (.bool true) .bool = true by first | rfl | decide | simp [WShape.has, WShape.arms, WShape.armsAll])
    (show (WTm.eq .res (.lit (.bool true))).value [] { args := args, res := some (.bool true), after := args } = some (.bool (true == true)) from w_eq_bool (w_res rfl) w_lit) rfl

theorem attach_call {l : OpenLaw} {n : Nat} {q : Program} {loose : List Str} {XP : (Str → Option Value) → Heap → Prop} {YP : World → Heap → Prop} {d : DefRec}
    (hn : l.most = some n) (hdf : d.params.defaults = [])
    (call : ∀ (w : World) (s₀ s₁ : Shared) (mg mb : Str → Option Value) (fa : Addr) (o : Obj) (pm cd doc : Value) (a : Addr) (vs : List Value) (ns : List Int),
      Ground q loose [] XP w s₀ mg mb s₁.heap → YP w s₁.heap →
      s₁.heap.get? fa = some o → o.data = .func (docDef d.name d.params d.body d.scope pm cd doc) → s₁.heap.CodeRec cd d.name → mg d.name = some (.ref fa) →
      s₁.heap.get? a = some { cls := .type "list", data := .seq vs.toArray } → IntsAre vs ns → ns.length ≤ n → s₁.gens = #[] →
      codeAny (model l.prog w) callerA (.call (.ref fa) ⟨[.ref a], []⟩) (fun r s' => r = .ok (.ret (.bool true)) ∧ OldK s₁.heap s'.heap ∧ s'.os = s₁.os ∧ AllBare s'.gens) s₁) :
    WalkO q loose XP YP l.row.toRowW d [] (fun f vs => PySem.call f vs) := by
  intro w s₀ s₁ mg mb G Y fa o pm cd doc dV kV ho hd hcd hD hmg hg args vals as hpre hlay hrd hwl hlo
  obtain rfl : dV = .none := Dflts.none hD hdf
  obtain rfl : kV = .none := Dflts.noKw hD
  obtain ⟨a, vs, ns, rfl, rfl, hobj, hints, hlen⟩ := script_of hn hpre hwl
  refine enter_call (codeAny_mono (call w s₀ s₁ mg mb fa o pm cd doc a vs ns G Y ho (fd_plain hd) hcd hmg hobj hints hlen hg) fun r s' hq => ?_)
  obtain ⟨rfl, h2, h3, h4⟩ := hq
  exact ⟨.inl ⟨.bool true, .bool true, [], rfl, fun _ => rfl, .bool true, post_true l _, fun _ => ⟨List.Pairwise.nil, fun _ hm => (nomatch hm)⟩⟩, h2, h3, h4⟩

end Att

namespace L2
open PySem PySem.Spec PyProof.Rows

theorem vals_ints : ∀ {vs : List Value} {ns : List Int}, IntsAre vs ns → Vals (ns.map V.int) vs
  | _, _, .nil => .nil
  | _, _, .cons n t h => .cons ⟨t, rfl⟩ (vals_ints h)

noncomputable def Only (H : Hp) : Prop := ∀ b, H b = none ∨ ∃ o xs, H b = some (.frz o (.lst xs))

theorem law_call {P : Program} {w : World} {K : PySem.W.Frag} {mg mb : Str → Option Value} {CX : CXT} {k : Nat} {fa a : Addr} {fd : FuncData} {x : Str} {sp : Sp} {s₁ : Shared} {vs : List Value} {ns : List Int}
    (KX : K.In s₁.heap) (hns : s₁.heap.Ns mainGlobals mg) (hb : s₁.heap.Ns builtinsNs mb) (hbb : ∀ x : Str, x ≠ "__name__" → mb x = bootBuiltins x) (hlim : s₁.heap.NoLimit) (hg : s₁.gens = #[]) (hT0 : tabsK K = [])
    (ha : s₁.heap.get? a = some { cls := .type "list", data := .seq vs.toArray }) (hi : IntsAre vs ns) (hl : ns.length ≤ sizeLine) (hr : Room k callerA)
    (F : ∀ base : Heap, K.In base → base.Ns mainGlobals mg → FnOk P w K mg base CX k fa fd [x] sp) (hbind : ∀ (s : Shared) (u : Value), BindsTo s fd ⟨[u], []⟩ [(x, u)])
    (hsp : ∀ H : Hp, Only H → SqL K H a (ns.map V.int) → sp [.ref a] H (fun v _ => v = .bl true) fun _ _ _ => False)
    (hCX : ∀ H e s', CX [] H s₁ (fun _ _ _ => False) e s' → False) :
    codeAny (model P w) callerA (.call (.ref fa) ⟨[.ref a], []⟩) (fun r s' => r = .ok (.ret (.bool true)) ∧ OldK s₁.heap s'.heap ∧ s'.os = s₁.os ∧ AllBare s'.gens) s₁ := by
  have rv := vals_ints hi
  have lenV := hi.length
  -- from an abstract heap in which nothing but the script may be tracked
  have core : ∀ H : Hp, Only H → SqL K H a (ns.map V.int) → HOk P w H s₁.heap → (∀ b, H b ≠ none → b = a) → (H a ≠ none → K.lookup a = none) →
      codeAny (model P w) callerA (.call (.ref fa) ⟨[.ref a], []⟩) (fun r s' => r = .ok (.ret (.bool true)) ∧ OldK s₁.heap s'.heap ∧ s'.os = s₁.os ∧ AllBare s'.gens) s₁ := by
    intro H hO hS hok hA hK
    have base_of : ∀ {b : Addr} {o : Obj}, s₁.heap.get? b = some o → H b = none → (hidT s₁.heap H).get? b = some o := fun e n => hidT_get e n
    have noA : ∀ {b : Addr} {o : Obj} {es : Array DictEntry} {ep : Nat}, s₁.heap.get? b = some o → o.data = .dict es ep → H b = none := fun {b o es ep} e d => by
      cases q : H b with
      | none => rfl
      | some u =>
        have e' : b = a := hA b (by rw [q]; simp)
        subst e'
        rw [ha] at e; cases e
        have d' : Data.seq vs.toArray _ = Data.dict es ep := d
        cases d'
    have nsK : ∀ {b : Addr} {m : Str → Option Value}, s₁.heap.Ns b m → (hidT s₁.heap H).Ns b m := fun {b m} ⟨o, es, ep, e, d, r⟩ => ⟨o, es, ep, base_of e (noA e d), d, r⟩
    have hKb : K.In (hidT s₁.heap H) := fun b o e => base_of (KX b o e) (by
      cases q : H b with
      | none => rfl
      | some u =>
        have e' : b = a := hA b (by rw [q]; simp)
        subst e'
        rw [hK (by rw [q]; simp)] at e; cases e)
    have hM : Mod K mg (hidT s₁.heap H) := ⟨hKb, nsK hns, ⟨mb, nsK hb, hbb⟩, let ⟨mc, h1, h2⟩ := hlim; ⟨mc, nsK h1, h2⟩⟩
    have e0 : Env0 P w K mg (hidT s₁.heap H) callerA [] s₁ H := ⟨rfl, hM, fun b o e => of_hidT e, Nat.le_of_eq (hidT_size _ _), trivial, fun b hb => absurd (show b ∈ ([] : List Addr) from hb) (by simp), hok, .of_eq hg, fun p hp => by rw [hT0] at hp; cases hp⟩
    refine codeAny_mono ((F _ hKb (nsK hns)).run callerA [] s₁ H ⟨[.ref a], []⟩ [.ref a] [.ref a] _ _ hr e0 (hbind s₁ (.ref a)) (.cons rfl .nil) (hsp H hO hS)) fun r s' h => ?_
    cases r with
    | error e => exact (hCX H e s' h).elim
    | ok fl =>
      cases fl with
      | next => exact False.elim h
      | brk => exact False.elim h
      | cont => exact False.elim h
      | ret u =>
        obtain ⟨v, H', os, bare, un, hok', r', q⟩ := h
        have q' : v = .bl true := q
        subst q'
        obtain rfl : u = Value.bool true := r'
        refine ⟨rfl, OldK.of_keep fun b o e => ?_, os, bare⟩
        cases q : H b with
        | none => exact un.keep b o e q (by intro z; exact absurd (show b ∈ ([] : List Addr) from z) (by simp)) (by simp)
        | some u =>
          rcases hO b with z | ⟨ob, xs, z⟩
          · rw [q] at z; cases z
          · have z2 := un.frzs b ob _ z
            obtain ⟨e1, _⟩ := hok b _ z
            obtain ⟨e2, _⟩ := hok' b _ z2
            rw [e] at e1; cases e1
            exact e2
  cases hk : K.lookup a with
  | some o =>
    -- the script is one of the module's own objects
    have e := KX a o hk
    rw [ha] at e
    cases e
    refine core (fun _ => none) (fun _ => .inl rfl) (.inr ⟨_, vs.toArray, _, hk, rfl, rfl, rfl, by rw [List.size_toArray, lenV]; exact hl, by simpa using rv⟩) (fun b u z => by have z' : (none : Option HO) = some u := z; cases z') (fun b z => absurd rfl z) fun z => absurd rfl z
  | none =>
    refine core (fun b => if b = a then some (.frz { cls := .type "list", data := .seq vs.toArray } (.lst (ns.map V.int))) else none) (fun b => ?_) (.inl (.inr ⟨{ cls := .type "list", data := .seq vs.toArray }, if_pos rfl⟩)) (fun b u z => ?_) (fun b z => ?_) fun _ => hk
    · by_cases hb : b = a
      · exact .inr ⟨_, _, if_pos hb⟩
      · exact .inl (if_neg hb)
    · by_cases hb : b = a
      · have z' := (if_pos hb).symm.trans z
        cases z'
        subst hb
        exact ⟨ha, by rw [List.length_map]; exact hl, vs, _, rv, ha⟩
      · have z' := (if_neg hb).symm.trans z
        cases z'
    · by_cases hb : b = a
      · exact hb
      · exact absurd (if_neg hb) z
end L2

namespace L2
open PySem PySem.Spec PyProof.Rows

theorem walk_of {l : PySem.W.OpenLaw} {n k : Nat} {q : Program} {loose : List Str} {XP : (Str → Option Value) → Heap → Prop} {YP : World → Heap → Prop} {d : DefRec} {K : Params → PySem.W.Frag} {CX : World → CXT} {sp : World → Sp} {x : Str}
    (hn : l.most = some n) (hn2 : n ≤ sizeLine) (hdf : d.params.defaults = []) (hr : Room k callerA)
    (hY : ∀ (w : World) (h : Heap), YP w h → (K w.params).In h) (hT0 : ∀ w : World, tabsK (K w.params) = [])
    (F : ∀ (w : World) (mg : Str → Option Value) (fa : Addr) (h : Heap), (K w.params).In h → h.Ns mainGlobals mg → mg d.name = some (.ref fa) →
      ∃ fd : FuncData, (∀ (s : Shared) (u : Value), BindsTo s fd ⟨[u], []⟩ [(x, u)]) ∧
        ∀ base : Heap, (K w.params).In base → base.Ns mainGlobals mg → FnOk l.prog w (K w.params) mg base (CX w) k fa fd [x] (sp w))
    (hsp : ∀ (w : World) (H : Hp) (a : Addr) (ns : List Int), ns.length ≤ n → Only H → SqL (K w.params) H a (ns.map V.int) → sp w [.ref a] H (fun v _ => v = .bl true) fun _ _ _ => False)
    (hCX : ∀ (w : World) (H : Hp) (s : Shared) (e : Value) (s' : Shared), CX w [] H s (fun _ _ _ => False) e s' → False) :
    PySem.W.WalkO q loose XP YP l.row.toRowW d [] (fun f vs => PySem.call f vs) := by
  refine Att.attach_call hn hdf fun w s₀ s₁ mg mb fa o pm cd doc a vs ns G Y ho hd hcd hmg hobj hints hlen hg => ?_
  have KX := hY w _ Y
  obtain ⟨fd, hb, hF⟩ := F w mg fa _ KX G.T.g hmg
  exact law_call KX G.T.g G.T.b G.T.builtins G.T.nolimit hg (hT0 w) hobj hints (Nat.le_trans hlen hn2) hr hF hb (fun H hO hS => hsp w H a ns hlen hO hS) fun H e s' => hCX w H s₁ e s'
end L2

/- THE LAST THEOREM (shape; LID, My.* are yours):
   My.Adr: a structure of the addresses that your layer names (classes, functions); My.Txt K t: a structure (Prop) of the equations over K;
   My.txt_mk : {K} {implicit addresses ..} (e1 : nsIn K mainGlobals "law" = some (some (.ref f))) (e2 : K.lookup f = some ⟨oc, od, .func (fnOf "law" "law" params body scope dV kV doc pm an cdv ct), sl⟩) (e3 : codeIn K cdv "law" = true) .. : ∃ t, My.Txt K t

(the tactic k_is has no namespace: write k_is) -/

namespace L2
open PySem PySem.Spec PyProof.Rows

noncomputable def defArgs (s : Stmt) : Arguments := match s with
  | .FunctionDef _ a _ _ _ _ _ _ _ _ => a
  | _ => { posonlyargs := [], args := [], vararg := none, kwonlyargs := [], kw_defaults := [], kwarg := none, defaults := [] }
noncomputable def defBody (s : Stmt) : List Stmt := match s with
  | .FunctionDef _ _ b _ _ _ _ _ _ _ => b
  | _ => []
noncomputable def defScope (s : Stmt) : Scope := match s with
  | .FunctionDef _ _ _ _ _ _ sc _ _ _ => sc
  | _ => { kind := .function, names := [], isGenerator := false, isCoroutine := false }

noncomputable abbrev CX0 : CXT := fun _ _ _ _ _ _ => False
noncomputable abbrev E0 : XK := fun _ _ _ => False
theorem pass0 {X : Cx} : Passes CX0 X E0 := fun _ _ _ _ _ _ _ h => h.elim

structure Fun (K : PySem.W.Frag) (x qual : Str) (st : Stmt) (f : Addr) (fd : FuncData) : Prop where
  ex : ∃ (oc : Value) (od : Option Addr) (kV doc pm : Value) (an : Option Addr) (cdv ct : Value) (osl : Array (Option Value)),
    fd = PySem.W.fnOf x qual (defArgs st) (defBody st) (defScope st) .none kV doc pm an cdv ct ∧ K.lookup f = some ⟨oc, od, .func fd, osl⟩ ∧ PySem.W.codeIn K cdv qual = true
  kp : PySem.W.keepIn K (.ref f) = true
section
variable {P : Program} {w : World} {K : PySem.W.Frag} {mg : Str → Option Value} {base : Heap}
theorem Fun.ok {x qual : Str} {st : Stmt} {f : Addr} {fd : FuncData} {N ps : List Str} {k : Nat} {sp : Sp} (F : Fun K x qual st f fd) (S : FnScope N ps (defScope st)) (len : ∀ vs H Q E, sp vs H Q E → vs.length = ps.length)
    (hbody : ∀ (cdv : Value) (A : Around) (outer : List Env) (s : Shared) (H : Hp) (vs : List V) (Q : VK) (E : XK), Room k (A.deeper (envOfC qual (defScope st) s.heap.objs.size f cdv)) → sp vs H Q E →
      ∃ t, PSs (cxOf CX0 P w K mg base N qual (defScope st) f cdv A outer s H E).nox (defBody st) t ∧ t { nx := fun _ H' => Q .non H', rt := Q } (start N vs) H) : FnOk P w K mg base CX0 (k + 1) f fd ps sp := by
  obtain ⟨oc, od, kV, doc, pm, an, cdv, ct, osl, rfl, lk, hcd⟩ := F.ex
  refine fn_of lk hcd S len fun A outer s H vs Q E hr hsp => ?_
  obtain ⟨t, h, q⟩ := hbody cdv A outer s H vs Q E hr hsp
  exact ⟨t, h.nox, q⟩
theorem Fun.binds {x qual : Str} {st : Stmt} {f : Addr} {fd : FuncData} {ps : List Str} (F : Fun K x qual st f fd)
    (h : ∀ (kV doc pm : Value) (an : Option Addr) (cdv ct : Value) (us : List Value), us.length = ps.length → bindArgs (PySem.W.fnOf x qual (defArgs st) (defBody st) (defScope st) .none kV doc pm an cdv ct) ⟨us, []⟩ = pure (ps.zip us)) : Binds K fd ps [] := by
  obtain ⟨oc, od, kV, doc, pm, an, cdv, ct, osl, rfl, lk, hcd⟩ := F.ex
  exact .all (h kV doc pm an cdv ct)
theorem fun_mk {x qual : Str} {st : Stmt} {f : Addr} {oc : Value} {od an : Option Addr} {osl : Array (Option Value)} {kV doc pm cdv ct : Value} (l : K.lookup f = some ⟨oc, od, .func (PySem.W.fnOf x qual (defArgs st) (defBody st) (defScope st) .none kV doc pm an cdv ct), osl⟩)
    (c : PySem.W.codeIn K cdv qual = true) (k : PySem.W.keepIn K (.ref f) = true) : Fun K x qual st f (PySem.W.fnOf x qual (defArgs st) (defBody st) (defScope st) .none kV doc pm an cdv ct) := ⟨⟨oc, od, kV, doc, pm, an, cdv, ct, osl, rfl, l, c⟩, k⟩
end
theorem hu_of {A : Around} {k : Nat} (hr : Room k A) : A.units + 1 < cLine := Nat.lt_of_le_of_lt (Nat.add_le_add_left (by decide : 1 ≤ 64) _) hr.units

noncomputable def Same (H H' : Hp) : Prop := ∀ b o, H b = some o → H' b = some o
theorem Same.refl (H : Hp) : Same H H := fun _ _ h => h
theorem Same.trans {H H1 H2 : Hp} (a : Same H H1) (b : Same H1 H2) : Same H H2 := fun c o h => b c o (a c o h)
theorem Same.free {H H' : Hp} (e : Same H H') {l : Addr} (h : H' l = Option.none) : H l = Option.none := by
  cases q : H l with
  | none => rfl
  | some o =>
    rw [e l o q] at h
    cases h
theorem Same.seq {K : PySem.W.Frag} {H H' : Hp} {a : Addr} {xs : List V} (e : Same H H') (h : SqL K H a xs) : SqL K H' a xs := by
  rcases h with (h | ⟨o, h⟩) | h
  · exact .inl (.inl (e _ _ h))
  · exact .inl (.inr ⟨o, e _ _ h⟩)
  · exact .inr h

end L2

set_option maxRecDepth 100000
set_option maxHeartbeats 4000000
namespace L2
open PySem PySem.Spec
noncomputable abbrev vtl : List Value := [.type "ValueError", .type "Exception", .type "BaseException", .type "object"]
structure XCl (K : PySem.W.Frag) (C D f : Addr) : Prop where
  obj : ∃ dd nm bs ns qn sn sub ab col k0 k1 k2 k3 k5, K.lookup C = some (excClassObj nm qn C ns bs (.ref D :: vtl) true sn sub ab col dd k0 k1 k2 k3 k5 "ValueError.__new__")
  init : PySem.W.findIn K (.ref C) "__init__" = some (some (.ref f))
  fn : PySem.W.isFn K (.ref f) = true
  sa : PySem.W.findIn K (.ref C) "__setattr__" = some (some (.builtin "object.__setattr__"))
  ga : PySem.W.findIn K (.ref C) "__getattribute__" = some (some (.builtin "BaseException.__getattribute__"))
  gn : PySem.W.findIn K (.ref C) "__getattr__" = some none
  kp : PySem.W.keepIn K (.ref C) = true
section
variable {prog : Program} {w : World} {M : Model} {A : Around} {E : Value → Shared → Prop} {h : Heap} {g : Array GenState} {d : Drawn} {t : Nat} {os : OsState}
variable {nm q : Str} {C N D : Addr} {bs : List Value} {hdct : Bool} {sn : List Str} {sub : List Value} {ab : Bool} {col : Option Bool} {dd : Option Addr} {k0 k1 k2 k3 k5 : Option Value}
theorem x_chk {rest : List Value} {Q : Unit → Shared → Prop} (hC : h.get? C = some (excClassObj nm q C N bs (.ref D :: vtl) hdct sn sub ab col dd k0 k1 k2 k3 k5 "ValueError.__new__"))
    (hq : Q () ⟨h, g, d, t, os⟩) : wpAny M A (checkBuiltinCall "ValueError.__new__" ⟨.ref C :: rest, []⟩) Q E ⟨h, g, d, t, os⟩ := by
  have F := PySem.F.excBase_ValueError
  have hcont : (Value.ref C :: .ref D :: vtl).contains (.type "ValueError") = true := by simp [vtl]
  have hstar := F.noStar
  simp only [checkBuiltinCall, F.newKind, F.newSplit, F.newRow]
  repeat (first | refine wpAny_loadPart_at hC ?_ | (refine wpAny_isSubtype_exc hC ?_; rw [hcont]) | refine wpAny_staticBase_exc hC ?_ | refine wpAny_madeBy_exc hC ?_ | simp only [bne_self_eq_false, Bool.false_eq_true, if_false] | wp_step)
  exact hq
theorem x_new {rest : List Value} {R : Result → Shared → Prop} (hC : h.get? C = some (excClassObj nm q C N bs (.ref D :: vtl) hdct sn sub ab col dd k0 k1 k2 k3 k5 "ValueError.__new__"))
    (hq : R (.ok (.ret (.ref (h.objs.size + 1)))) ⟨(h.push { cls := .type "tuple", data := .seq rest.toArray }).push
      { cls := .ref C, data := .fields #[.ref h.objs.size, .none, .none, .none, .bool false, .none] }, g, d, t, os⟩) (hrest : rest.length ≤ sizeLine) :
    codeAny (model prog w) A (.builtin "ValueError.__new__" ⟨.ref C :: rest, []⟩) R ⟨h, g, d, t, os⟩ := by
  have F := PySem.F.excBase_ValueError
  have hends := F.ends
  have hcB : (Value.ref C :: .ref D :: vtl).contains (.type "ValueError") = true := by simp [vtl]
  have hcA : (Value.ref C :: .ref D :: vtl).contains (.type "AttributeError") = false := by simp [vtl]
  have hcN : (Value.ref C :: .ref D :: vtl).contains (.type "NameError") = false := by simp [vtl]
  refine codeAny_builtinAt F.entry ?_
  unfold Builtin.«BaseException.__new__»
  refine wpAt_bind ?_
  show wpAt _ _ _ (stack >>= _) _ _ _
  refine wpAt_bind (wpAt_stack fun p below => wpAt_of_wpAny ?_)
  wp_walk
  refine wpAt_of_wpAny ?_
  rw [F.owner]
  repeat (first | with_reducible refine wpAny_madeHere_exc F.canon hC ?_ | with_reducible refine wpAny_loadPart_at hC ?_ | (with_reducible refine wpAny_isSubtype_exc hC ?_; first | rw [hcB] | rw [hcA] | rw [hcN]) | wp_step)
  show R _ _
  rw [Heap.size_push]
  exact hq
theorem x_tc {K : PySem.W.Frag} {f : Addr} {rest : List Value} {Q : Fin → Shared → Prop} (X : K.In h) (c : XCl K C D f)
    (hq : ∀ h' e, h.objs.size ≤ e → Heap.MadeExcOf h h' e (.ref C) rest →
      wpAny (model prog w) A (call (.ref f) (.ref e :: rest)) (fun r s' => r = .none ∧ Q (.done (.ret (.ref e))) s') E ⟨h', g, d, t, os⟩) (hrest : rest.length ≤ sizeLine) :
    wpAny (model prog w) A (Builtin.«type.__call__» ⟨.ref C :: rest, []⟩) Q E ⟨h, g, d, t, os⟩ := by
  obtain ⟨dd, nm, bs, N, q, sn, sub, ab, col, k0, k1, k2, k3, k5, lk⟩ := c.obj
  have hC := X _ _ lk
  have F := PySem.F.excBase_ValueError
  repeat (first | with_reducible refine wpAny_loadPart_at hC ?_ | with_reducible refine wpAny_madeBy_exc hC ?_ | wp_step)
  refine codeAny_call_builtin_code (Code.quiet_builtin _ F.quiet) (x_chk hC ?_)
  refine x_new hC ?_ hrest
  show wpAny _ _ _ _ _ _
  have kk : ∀ b o, h.get? b = some o → ((h.push { cls := .type "tuple", data := .seq rest.toArray }).push { cls := .ref C, data := .fields #[.ref h.objs.size, .none, .none, .none, .bool false, .none] }).get? b = some o :=
    fun b o e => Heap.get?_push_of_some _ (Heap.get?_push_of_some _ e)
  have hC₁ := kk _ _ hC
  have X₁ := X.keeps kk
  have hget : ((h.push { cls := .type "tuple", data := .seq rest.toArray }).push
      { cls := .ref C, data := .fields #[.ref h.objs.size, .none, .none, .none, .bool false, .none] }).get? (h.objs.size + 1) = some
      { cls := .ref C, data := .fields #[.ref h.objs.size, .none, .none, .none, .bool false, .none] } := by heap_get
  have hcC : (Value.ref C :: .ref D :: vtl).contains (.ref C) = true := by simp
  unfold isInstance
  repeat (first | with_reducible refine wpAny_loadPart_at hget ?_ | (with_reducible refine wpAny_isSubtype_exc hC₁ ?_; rw [hcC]) | wp_step)
  show wpAny _ _ (typeLookup (.ref C) _) _ _ _
  refine (PySem.W.looks_findIn X₁ c.init).at ?_
  refine wpAny_holding (wpAny_bind ((PySem.W.bind_fn X₁ _ (beq_iff_eq.mp c.fn)).at (wpAny_bind (wpAny_mono (hq _ (h.objs.size + 1) (Nat.le_succ _) ⟨kk, Heap.get?_none_of_le (Nat.le_succ _), h.objs.size, hget, Heap.get?_none_of_le (Nat.le_refl _), ?_⟩) (fun r s' hr => ?_) fun _ _ x => x))))
  · exact Heap.get?_push_of_some _ (Heap.get?_push_at rfl rfl)
  · obtain ⟨rfl, hQ⟩ := hr
    wp_walk
    exact hQ
theorem x_call {K : PySem.W.Frag} {f : Addr} {rest : List Value} {Q : Value → Shared → Prop} (X : K.In h) (c : XCl K C D f)
    (hq : ∀ h' e, h.objs.size ≤ e → Heap.MadeExcOf h h' e (.ref C) rest →
      wpAny (model prog w) (A.under (.builtin "type.__call__" ⟨.ref C :: rest, []⟩)) (call (.ref f) (.ref e :: rest)) (fun r s' => r = .none ∧ Q (.ref e) s') E ⟨h', g, d, t, os⟩) (hrest : rest.length ≤ sizeLine) :
    wpAny (model prog w) A (call (.ref C) rest) Q E ⟨h, g, d, t, os⟩ := by
  obtain ⟨dd, nm, bs, N, q, sn, sub, ab, col, k0, k1, k2, k3, k5, lk⟩ := c.obj
  have hC := X _ _ lk
  have f1 := tc_lookup
  have f2 := tc_bind (.ref C)
  have hT : (⟨h, g, d, t, os⟩ : Shared).TypeIs (.ref C) "type" := ⟨_, hC, rfl⟩
  refine wpAny_call (codeAny_of_tree ?_)
  show wpAny _ _ (callAny (.ref C) _) _ _ _
  repeat (any_goals (first | assumption | with_reducible refine wpAny_loadPart_at hC ?_ | wp_step))
  refine ⟨rfl, ?_⟩
  exact codeAny_call_builtin_at (Code.quiet_builtin _ (by decide +kernel)) entry_typeCall (wpAny_check_type_call_sub hC (x_tc X c hq hrest))
end
end L2

namespace L2
open PySem PySem.Spec Builtin Builtin.ObjectAttr
section
variable {prog : Program} {w : World} {A : Around} {E : Value → Shared → Prop} {s : Shared} {K : PySem.W.Frag} {x C D f : Addr} {o : Obj} {name : Str} {v : Value}
theorem XCl.cls (c : XCl K C D f) : ∃ cd, PySem.W.clsIn K C = some cd ∧ cd.mro = .ref C :: .ref D :: vtl ∧ cd.hasDict = true := by
  obtain ⟨dd, nm, bs, N, q, sn, sub, ab, col, k0, k1, k2, k3, k5, lk⟩ := c.obj
  exact ⟨_, by unfold PySem.W.clsIn; rw [lk], rfl, rfl⟩
theorem XCl.sub {M : Model} {h : Heap} (c : XCl K C D f) (X : K.In h) (T : Value) : PySem.W.Looks M h (isSubtype (.ref C) T) ((.ref C :: .ref D :: vtl : List Value).contains T) := by
  obtain ⟨cd, h1, h2, _⟩ := c.cls
  exact PySem.W.looks_mroIn X (by unfold PySem.W.mroIn; rw [h1, Option.bind_some, h2]; rfl)
theorem XCl.is {M : Model} {h : Heap} {b : Bool} (c : XCl K C D f) (X : K.In h) (T : Value) (hb : (.ref C :: .ref D :: vtl : List Value).contains T = b) : PySem.W.Looks M h (isSubtype (.ref C) T) b := hb ▸ c.sub X T
theorem x_type {M : Model} {h : Heap} (hx : h.get? x = some o) (hc : o.cls = .ref C) : PySem.W.Looks M h (typeOf (.ref x)) (.ref C) := hc ▸ (PySem.W.Looks.ld hx).andThen .now
theorem x_osa {tk : Tok} {R : Result → Shared → Prop} (X : K.In s.heap) (c : XCl K C D f) (hx : s.heap.get? x = some o) (hc : o.cls = .ref C) (ht : PySem.W.findIn K (.ref C) name = some none)
    (h : wpAny (model prog w) A.in1 (storeInOwnDict (.ref x) (.ref C) (.str name tk) name v false) (fun fin z => match fin with | .done f => R (.ok f) z | .again c' => c'.quiet = true ∧ codeAny (model prog w) A c' R z) (fun e z => R (.error e) z) s) :
    codeAny (model prog w) A (.call (.builtin "object.__setattr__") ⟨[.ref x, .str name tk, v], []⟩) R s := by
  have S0 := PySem.F.store_object
  have L0 := x_type (M := model prog w) hx hc
  obtain ⟨cd, hd, hm, _⟩ := c.cls
  have sb : PySem.W.Looks (model prog w) s.heap (isInstance (.ref x) (.type "object")) true := L0.andThen (c.is X (.type "object") (by simp [vtl]))
  have L1 : PySem.W.Looks (model prog w) s.heap (mroOf (.ref C)) cd.mro := (PySem.W.looks_clsIn X hd).andThen .now
  refine codeAny_call_builtin S0.slot.plain S0.entry (@PySem.W.check_slot (model prog w) _ _ s "object.__setattr__" "object" "__setattr__" (.ref x) [.str name tk, v] [] _ S0.kind S0.split sb (S0.args (.ref x) (.str name tk) v) ?_)
  rw [PySem.W.osa_eq, refuse_eq]
  refine wpAny_bind (wpAny_bind (L0.here (wpAny_bind (L1.here ?_))))
  rw [hm, refuseLoop_ref, refuseLoop_ref, PySem.F.store_ValueError.passes (.ref x)]
  exact wpAny_pure (wpAny_bind (L0.here (wpAny_bind ((PySem.W.looks_findIn X ht).here (wpAny_bind (PySem.W.Looks.now.here h))))))
theorem x_set0 {vs : Array Value} {Q : Unit → Shared → Prop} (X : K.In s.heap) (c : XCl K C D f) (hx : s.heap.get? x = some o) (hc : o.cls = .ref C) (hd : o.dict = none) (hf : o.data = .fields vs) (ht : PySem.W.findIn K (.ref C) name = some none)
    (h : ∀ h', h'.get? x = some { o with dict := some s.heap.objs.size } → h'.Ns1 s.heap.objs.size (fun y => if y = name then some v else none) → (∀ b u, b ≠ x → s.heap.get? b = some u → h'.get? b = some u) → Q () { s with heap := h', toks := s.toks + 2 }) :
    wpAny (model prog w) A (setAttr (.ref x) name v) Q E s := by
  have I : PySem.W.InstAt s.heap x o C none := ⟨hx, hc, by unfold PySem.W.notCls; rw [hf], by rw [hd]; trivial⟩
  refine PySem.W.set_plain X I c.sa (x_osa (s := { s with toks := s.toks + 1 }) X c hx hc ht ?_)
  obtain ⟨cd, h1, _, h2⟩ := c.cls
  obtain ⟨oc, od, oda, osl⟩ := o
  dsimp only at hc hd hf
  subst hc hd hf
  refine wpAny_bind (wpAny_pure (wpAny_bind (wpAny_bind (wpAny_loadPart hx (wpAny_bind (PySem.W.Looks.here (s := { s with toks := s.toks + 1 }) (PySem.W.looks_clsIn X h1) ?_))))))
  rw [h2]
  have ne : x ≠ s.heap.objs.size := Nat.ne_of_lt (Heap.lt_size hx)
  have hx1 := Heap.get?_push_of_some { cls := .type "dict", data := .dict #[] } hx
  refine wpAny_bind (wpAny_alloc' (wpAny_bind (wpAny_update' hx1 (wpAny_pure (wpAny_bind (wpAny_pure (wpAny_bind ?_)))))))
  have gd : ((s.heap.push { cls := .type "dict", data := .dict #[] }).update x fun o => { cls := o.cls, dict := some s.heap.objs.size, data := o.data, slots := o.slots }).get? s.heap.objs.size = some { cls := .type "dict", data := .dict #[] } :=
    (Heap.get?_update_ne _ _ _ _ ne.symm).trans (Heap.get?_push_at rfl rfl)
  refine wpAny_nsSet1 (s := { s with heap := ((s.heap.push { cls := .type "dict", data := .dict #[] }).update x fun o => { cls := o.cls, dict := some s.heap.objs.size, data := o.data, slots := o.slots }), toks := s.toks + 1 }) (Heap.Ns1.of_empty ⟨_, #[], _, gd, rfl, fun e he => absurd he (by simp), fun _ => rfl⟩) fun h' hn sb => ?_
  obtain ⟨oD, esD, epD, g1, g2, g3⟩ := hn.count (PySem.Within.cons name v PySem.Within.nil)
  refine wpAny_bind (wpAny_lookBehind g1 (by rw [g2]; exact pastItsLine_dict (Nat.le_trans g3 (by rw [List.length_cons, List.length_nil, sizeLine_eq]; omega))) (wpAny_pure (h h' ?_ hn fun b u hb e => ?_)))
  · exact (sb.2 x ne).trans (Heap.get?_update_self _ hx1 rfl)
  · exact (sb.2 b (Nat.ne_of_lt (Heap.lt_size e))).trans ((Heap.get?_update_ne _ _ _ _ hb).trans (Heap.get?_push_of_some _ e))
theorem x_set1 {vs : Array Value} {dx : Addr} {mA : Str → Option Value} {ns : List Str} {Q : Unit → Shared → Prop} (X : K.In s.heap) (c : XCl K C D f) (hx : s.heap.get? x = some o) (hc : o.cls = .ref C) (hd : o.dict = some dx) (hf : o.data = .fields vs) (ht : PySem.W.findIn K (.ref C) name = some none)
    (hn : s.heap.Ns1 dx mA) (hne : dx ≠ x) (hw : PySem.Within mA ns) (hz : ns.length ≤ 1000)
    (h : ∀ h', h'.get? x = some o → h'.Ns1 dx (fun y => if y = name then some v else mA y) → (∀ b u, b ≠ dx → s.heap.get? b = some u → h'.get? b = some u) → Q () { s with heap := h', toks := s.toks + 2 }) :
    wpAny (model prog w) A (setAttr (.ref x) name v) Q E s := by
  obtain ⟨od, hod, _⟩ := lookIn_ns hn
  have I : PySem.W.InstAt s.heap x o C (some od) := ⟨hx, hc, by unfold PySem.W.notCls; rw [hf], by rw [hd]; exact hod⟩
  refine PySem.W.set_plain X I c.sa (x_osa (s := { s with toks := s.toks + 1 }) X c hx hc ht ?_)
  obtain ⟨cd, h1, _, h2⟩ := c.cls
  have hx' := hx
  obtain ⟨oc, od', oda, osl⟩ := o
  dsimp only at hc hd hf
  subst hc hd hf
  refine wpAny_bind (wpAny_pure (wpAny_bind (wpAny_bind (wpAny_loadPart hx (wpAny_bind (PySem.W.Looks.here (s := { s with toks := s.toks + 1 }) (PySem.W.looks_clsIn X h1) ?_))))))
  rw [h2]
  refine wpAny_pure (a := some dx) (wpAny_bind (wpAny_pure (wpAny_bind ?_)))
  refine wpAny_nsSet1 (s := { s with toks := s.toks + 1 }) hn fun h' hn' sb => ?_
  obtain ⟨oD, esD, epD, g1, g2, g3⟩ := hn'.count (PySem.Within.cons name v hw)
  refine wpAny_bind (wpAny_lookBehind g1 (by rw [g2]; exact pastItsLine_dict (Nat.le_trans g3 (by rw [List.length_cons, sizeLine_eq]; omega))) (wpAny_pure (h h' ((sb.2 x hne.symm).trans hx') hn' fun b u hb e => (sb.2 b hb).trans e)))
end
end L2

namespace L2
open PySem PySem.Spec Builtin Builtin.ObjectAttr
section
variable {prog : Program} {w : World} {A : Around} {E : Value → Shared → Prop} {s : Shared} {K : PySem.W.Frag} {x C D f : Addr} {o : Obj} {name : Str} {v : Value}
theorem x_get {vs : Array Value} {dx : Addr} {mA : Str → Option Value} {b : Bool} {Q : Value → Shared → Prop} (X : K.In s.heap) (c : XCl K C D f) (hx : s.heap.get? x = some o) (hc : o.cls = .ref C) (hd : o.dict = some dx) (hf : o.data = .fields vs)
    (ht : PySem.W.findIn K (.ref C) name = some none) (hn : s.heap.Ns1 dx mA) (hv : mA name = some v) (hv' : PySem.W.handedIn v = true) (h : Q v { s with toks := s.toks + 1 }) : wpAny (model prog w) A (getAttr (.ref x) name b) Q E s := by
  obtain ⟨od, hod, hl⟩ := lookIn_ns hn
  have I : PySem.W.InstAt s.heap x o C (some od) := ⟨hx, hc, by unfold PySem.W.notCls; rw [hf], by rw [hd]; exact hod⟩
  obtain ⟨cd, h1, _, h2⟩ := c.cls
  have L := PySem.W.looks_find (M := model prog w) X I (PySem.W.findObj_own (K := K) (C := C) (name := name) (od := od) (v := v) (attr := none) (by unfold PySem.W.hasDictIn; rw [h1]; exact h2) ht rfl (by rw [hl, hv]))
  have L0 := x_type (M := model prog w) hx hc
  have L1 := PySem.W.looks_findIn (M := model prog w) X c.ga
  have L2 := PySem.W.looks_findIn (M := model prog w) X c.gn
  have LS := c.sub (M := model prog w) X (.type "BaseException")
  have G := PySem.F.attr_ValueError
  have sb : PySem.W.Looks (model prog w) s.heap (isInstance (.ref x) (.type "BaseException")) true := L0.andThen (c.is X (.type "BaseException") (by simp [vtl]))
  have x1 : (onTheHeap (Value.ref C) && Value.builtin "BaseException.__getattribute__" == Value.builtin "object.__getattribute__") = false := by
    rw [show (Value.builtin "BaseException.__getattribute__" == Value.builtin "object.__getattribute__") = false from by decide +kernel, Bool.and_false]
  have x0 : (b && onTheHeap (Value.builtin "BaseException.__getattribute__")) = false := by cases b <;> rfl
  unfold getAttr getAttrBy
  refine wpAny_bind (wpAny_mkText (wpAny_holding (wpAny_bind (L0.here (s := { s with toks := s.toks + 1 }) (wpAny_bind (L1.here (s := { s with toks := s.toks + 1 }) ?_))))))
  dsimp only
  rw [x1]
  unfold getAttrByItsOwn callGetattribute boundAndCalled
  rw [x0]
  refine wpAny_bind (L2.here (s := { s with toks := s.toks + 1 }) (wpAny_bind (wpAny_attempt (wpAny_holding (wpAny_bind ?_)))))
  rw [G.ga.bind (.ref x)]
  refine wpAny_pure ?_
  show wpAny _ _ (call (.builtin "BaseException.__getattribute__") [.ref x, .str name s.toks]) _ _ _
  refine wpAny_call (codeAny_call_builtin G.ga.plain PySem.F.entry_bexc_ga (@PySem.W.check_slot (model prog w) _ _ { s with toks := s.toks + 1 } "BaseException.__getattribute__" "BaseException" "__getattribute__" (.ref x) [.str name s.toks] [] _ (by decide +kernel) (by decide +kernel) sb (PySem.F.args_bexc_ga (.ref x) (.str name s.toks)) ?_))
  refine wpAny_bind (wpAny_pure (wpAny_bind (wpAny_pure (wpAny_bind (L0.here (s := { s with toks := s.toks + 1 }) (wpAny_bind (L.here (s := { s with toks := s.toks + 1 }) (wpAny_pure ?_))))))))
  show wpAny _ _ (handedOut v) _ _ _
  rw [PySem.W.handedOut_of hv']
  exact wpAny_pure h
end
end L2

namespace L2
open PySem PySem.Spec
noncomputable def Fly (B h : Heap) (e C dx : Addr) : Prop := B.get? e = none ∧ ∃ o vs, h.get? e = some o ∧ o.cls = .ref C ∧ o.dict = some dx ∧ o.data = .fields vs ∧ 1 < vs.size ∧
  (vs[1]? = some .none ∨ ∃ T oT ts, vs[1]? = some (.ref T) ∧ B.get? T = none ∧ T ≠ e ∧ h.get? T = some oT ∧ oT.data = .fields ts ∧ ts[3]? = some .none)
structure Left (B : Heap) (l : List Env) (e C dx : Addr) (h h' : Heap) : Prop where
  st : B.StaysIn h'
  fr : h'.FunFrames B l
  fly : Fly B h' e C dx
  up : h.UpToSlots h'
section
variable {M : Model} {A : Around} {E : Value → Shared → Prop} {s : Shared} {B : Heap} {env : Env} {outer : List Env} {L e C dx : Addr} {Q : Unit → Shared → Prop}
theorem x_entry {o : Obj} {vs : Array Value} {head : Value} {hn : Bool} (hA : A.frames = some (env :: outer)) (fr : s.heap.FunFrames B (env :: outer)) (hL : env.frame = some L) (st : B.StaysIn s.heap) (hB : B.get? e = none)
    (ho : s.heap.get? e = some o) (hc : o.cls = .ref C) (hx : o.dict = some dx) (hd : o.data = .fields vs) (hz : 1 < vs.size)
    (k : ∀ h', Left B (env :: outer) e C dx s.heap h' → Q () { s with heap := h' }) :
    wpAny M A (do let a ← frameOf env; let pl ← entryPlaceOf L hn; let b ← EntryCells.newEntry head a .none (rawInt L) .none pl; setField (.ref e) 1 b) (fun _ z => wpAny M A (setFlight (.ref e) none) Q E z) E s := by
  have nfr : e ∉ (env :: outer).filterMap (·.frame) := fun hm => by
    obtain ⟨_, o', q, nf⟩ := fr.mem hm
    rw [ho] at q
    cases q
    exact nf vs hd
  refine wpAny_bind (wpAny_frameOf_fun hA fr hL fun h1 c1 => wpAny_bind (wpAny_entryPlaceOf fun pl hpl => ?_))
  have e1 : h1.get? e = some o := (c1.2.1 e nfr).trans ho
  have s1 : B.StaysIn h1 := fun b u q => (c1.2.1 b fun hm => by rw [(fr.mem hm).1] at q; cases q).trans (st b u q)
  unfold EntryCells.newEntry newFields
  refine wpAny_bind (wpAny_newObj_type ?_ (hpl.sizeOk5 _ _ _ _ _))
  have e2 := Heap.get?_push_of_some (h := h1) { cls := .type "traceback", dict := none, data := .fields ([head, .ref L, .none, rawInt L, .none] ++ (if pl.isEmpty then List.replicate 6 Value.none else pl)).toArray } e1
  refine wpAny_setField e2 hd hz ?_
  have nT : h1.objs.size ≠ e := Nat.ne_of_gt (Heap.lt_size e1)
  have d3 := Obj.data_mapFields hd (·.setIfInBounds 1 (Value.ref h1.objs.size))
  have e3 := Heap.get?_update_self (Obj.mapFields (·.setIfInBounds 1 (Value.ref h1.objs.size))) e2 (Obj.isFreed_of_fields d3)
  have t3 := (Heap.get?_update_other (h1.push { cls := .type "traceback", dict := none, data := .fields ([head, .ref L, .none, rawInt L, .none] ++ (if pl.isEmpty then List.replicate 6 Value.none else pl)).toArray })
    (Obj.mapFields (·.setIfInBounds 1 (Value.ref h1.objs.size))) nT.symm).trans (Heap.get?_push_size h1 rfl)
  unfold setFlight
  refine wpAny_bind (wpAny_field e3 d3 (x := .ref h1.objs.size) (by simp [hz]) ?_)
  rw [if_pos (show (Value.ref h1.objs.size != Value.none) = true from by simp)]
  refine wpAny_setField t3 rfl (by simp only [List.size_toArray, List.length_append, List.length_cons, List.length_nil] <;> omega) (k _ ?_)
  have kp : ∀ b u, b ≠ e → h1.get? b = some u →
      (((h1.push { cls := .type "traceback", dict := none, data := .fields ([head, .ref L, .none, rawInt L, .none] ++ (if pl.isEmpty then List.replicate 6 Value.none else pl)).toArray }).update e (Obj.mapFields (·.setIfInBounds 1 (Value.ref h1.objs.size)))).update h1.objs.size
        (Obj.mapFields (·.setIfInBounds 3 ((none : Option Addr).elim Value.none fun f => rawInt f)))).get? b = some u := fun b u hb q => by
    rw [Heap.get?_update_other _ _ (Nat.ne_of_gt (Heap.lt_size q)), Heap.get?_update_other _ _ hb.symm]
    exact Heap.get?_push_of_some _ q
  have nr : ∀ b u, s.heap.get? b = some u → (∀ vs, u.data ≠ .fields vs) → b ≠ e := fun b u q nf z => by
    rw [z, ho] at q
    cases q
    exact nf vs hd
  have up : s.heap.UpToSlots (((h1.push { cls := .type "traceback", dict := none, data := .fields ([head, .ref L, .none, rawInt L, .none] ++ (if pl.isEmpty then List.replicate 6 Value.none else pl)).toArray }).update e (Obj.mapFields (·.setIfInBounds 1 (Value.ref h1.objs.size)))).update h1.objs.size
        (Obj.mapFields (·.setIfInBounds 3 ((none : Option Addr).elim Value.none fun f => rawInt f)))) := fun b u q nf => by
    obtain ⟨sl, z⟩ := c1.2.2 b u q
    exact ⟨sl, kp b _ (nr b u q nf) z⟩
  refine ⟨fun b u q => kp b u (fun z => by rw [z, hB] at q; cases q) (s1 b u q), fr.of_keeps fun b u q nf => ?_, ⟨hB, _, _, ?_, (Obj.cls_mapFields _ _).trans hc, ?_, d3, by simpa using hz, .inr ⟨h1.objs.size, _, _, by simp [hz], s1.fresh, nT, Heap.get?_update_self _ t3 (Obj.isFreed_of_fields (Obj.data_mapFields rfl _)), Obj.data_mapFields rfl _, ?_⟩⟩, up⟩
  · obtain ⟨sl, z⟩ := up b u q nf
    exact ⟨_, z, rfl⟩
  · rw [Heap.get?_update_other _ _ nT]; exact e3
  · rw [← hx]; obtain ⟨_, _, dt, _⟩ := o; cases dt <;> rfl
  · first
      | (simp; done)
      | (rcases hpl with rfl | ⟨_, _, _, _, _, _, _, rfl⟩ <;> simp)
theorem x_note (hA : A.frames = some (env :: outer)) (fr : s.heap.FunFrames B (env :: outer)) (hL : env.frame = some L) (st : B.StaysIn s.heap) (y : Fly B s.heap e C dx)
    (k : ∀ h', Left B (env :: outer) e C dx s.heap h' → Q () { s with heap := h' }) : wpAny M A (noteFrame (.ref e) env) (fun _ z => wpAny M A (setFlight (.ref e) none) Q E z) E s := by
  obtain ⟨hB, o, vs, ho, hc, hx, hd, hz, h1 | ⟨T, oT, ts, h1, bT, nT, hT, dT, h3⟩⟩ := y
  · unfold noteFrame
    simp only [hL]
    refine wpAny_bind (wpAny_field ho hd h1 ?_)
    rw [if_neg (by decide)]
    exact x_entry hA fr hL st hB ho hc hx hd hz k
  · unfold noteFrame
    simp only [hL]
    refine wpAny_bind (wpAny_field ho hd h1 ?_)
    rw [if_pos (show (Value.ref T != Value.none) = true from by simp)]
    refine wpAny_bind (wpAny_field hT dT h3 ?_)
    rw [if_neg (show ¬ ((Value.none == rawInt L) = true) from by simp [rawInt])]
    refine wpAny_bind (wpAny_setField hT dT (Array.getElem?_eq_some_iff.mp h3).1 ?_)
    have ot : ∀ b, b ≠ T → (s.heap.update T (Obj.mapFields (·.setIfInBounds 3 Value.none))).get? b = s.heap.get? b := fun b hb => Heap.get?_update_other _ _ hb.symm
    have nr : ∀ b u, s.heap.get? b = some u → (∀ vs, u.data ≠ .fields vs) → b ≠ T := fun b u q nf z => by
      rw [z, hT] at q
      cases q
      exact nf ts dT
    refine x_entry (s := { s with heap := s.heap.update T (Obj.mapFields (·.setIfInBounds 3 Value.none)) }) hA (fr.of_keeps fun b u q nf => ⟨u, (ot b (nr b u q nf)).trans q, rfl⟩) hL (fun b u q => (ot b fun z => by rw [z, bT] at q; cases q).trans (st b u q)) hB ((ot e nT.symm).trans ho) hc hx hd hz fun h' z => k h' ⟨z.st, z.fr, z.fly, fun b u q nf => z.up b u ((ot b (nr b u q nf)).trans q) nf⟩
theorem x_leave (hA : A.frames = some (env :: outer)) (fr : s.heap.FunFrames B (env :: outer)) (hL : env.frame = some L) (st : B.StaysIn s.heap) (y : Fly B s.heap e C dx)
    (k : ∀ h', Left B (env :: outer) e C dx s.heap h' → Q () { s with heap := h' }) : wpAny M A (leaving env (.ref e)) Q E s := by
  unfold leaving
  exact wpAny_bind (x_note hA fr hL st y k)
end
end L2

namespace L2
open PySem PySem.Spec PyProof.Rows
noncomputable def xoP (x C : Addr) (od : Option Addr) (h : Heap) : Prop := ∃ o vs, h.get? x = some o ∧ o.cls = .ref C ∧ o.dict = od ∧ o.data = .fields vs ∧ 1 < vs.size ∧ vs[1]? = some .none
noncomputable def xcP (x C dx : Addr) (h : Heap) : Prop := ∃ o vs, h.get? x = some o ∧ o.cls = .ref C ∧ o.dict = some dx ∧ o.data = .fields vs
noncomputable def xdP (dx : Addr) (fs : List (Str × V)) (h : Heap) : Prop := ∃ mA, h.Ns1 dx mA ∧ (∀ f, RelO (fs.lookup f) (mA f)) ∧ PySem.Within mA (fs.map (·.1))
noncomputable abbrev XO (x C : Addr) (od : Option Addr) : HO := .ext (xoP x C od)
noncomputable abbrev XC (x C dx : Addr) : HO := .ext (xcP x C dx)
noncomputable abbrev XD (dx : Addr) (fs : List (Str × V)) : HO := .ext (xdP dx fs)
section
variable {P : Program} {w : World} {H : Hp} {h : Heap} {x C dx : Addr} {od : Option Addr} {fs : List (Str × V)}
theorem xo_ok (y : xoP x C od h) : ObjOk P w H h x (XO x C od) := ⟨y, let ⟨o, _, e, _⟩ := y; ⟨o, e⟩, fun h1 h2 ⟨o, vs, e, r⟩ k => ⟨o, vs, k _ e, r⟩⟩
theorem xc_ok (y : xcP x C dx h) : ObjOk P w H h x (XC x C dx) := ⟨y, let ⟨o, _, e, _⟩ := y; ⟨o, e⟩, fun h1 h2 ⟨o, vs, e, r⟩ k => ⟨o, vs, k _ e, r⟩⟩
theorem xd_ok (y : xdP dx fs h) : ObjOk P w H h dx (XD dx fs) := ⟨y, let ⟨_, ⟨o, _, _, e, _⟩, _⟩ := y; ⟨o, e⟩, fun h1 h2 ⟨mA, ⟨o, es, ep, e, c⟩, r⟩ k => ⟨mA, ⟨o, es, ep, k _ e, c⟩, r⟩⟩
theorem HOk.xo (k : HOk P w H h) (e : H x = some (XO x C od)) : xoP x C od h := (k x _ e).1
theorem HOk.xc (k : HOk P w H h) (e : H x = some (XC x C dx)) : xcP x C dx h := (k x _ e).1
theorem HOk.xd (k : HOk P w H h) (e : H dx = some (XD dx fs)) : xdP dx fs h := (k dx _ e).1
theorem Fly.xc {B : Heap} (y : Fly B h x C dx) : xcP x C dx h := let ⟨_, o, vs, e, h1, h2, h3, _⟩ := y; ⟨o, vs, e, h1, h2, h3⟩
end
theorem ObjOk.has {P : Program} {w : World} {H : Hp} {h : Heap} {a : Addr} {o : HO} (x : ObjOk P w H h a o) : ∃ u, h.get? a = some u := by
  induction o with
  | lst xs => obtain ⟨_, _, _, _, e⟩ := x; exact ⟨_, e⟩
  | tup xs => obtain ⟨_, _, _, o, e, _⟩ := x; exact ⟨_, e⟩
  | dK kvs => obtain ⟨_, _, _, _, o, _, _, e, _⟩ := x; exact ⟨_, e⟩
  | dT kvs => obtain ⟨_, _, _, _, o, _, _, e, _⟩ := x; exact ⟨_, e⟩
  | set S n => obtain ⟨o, _, _, _, e, _⟩ := x; exact ⟨_, e⟩
  | ins C dx fs => obtain ⟨_, _, _, e, _⟩ := x; exact ⟨_, e⟩
  | own y => exact x
  | xd fs => obtain ⟨_, ⟨o, _, _, e, _⟩, _⟩ := x; exact ⟨_, e⟩
  | rng lo hi => obtain ⟨_, _, _, e⟩ := x; exact ⟨_, e⟩
  | frz o u ih => exact ⟨_, x.1⟩
  | tbl ps => exact ⟨_, x⟩
  | code q => obtain ⟨c, o, _, _, e, g, _⟩ := x; cases e; exact ⟨_, g⟩
  | ctab qs => obtain ⟨ps, g, _⟩ := x; exact ⟨_, g⟩
  | met f y => exact ⟨_, x⟩
  | ext φ => exact x.2.1
noncomputable def Cov (B : Heap) (fs : List Addr) (x : Addr) (h0 : Heap) (H : Hp) (h : Heap) : Prop := ∀ b o, h.get? b = some o → b ≠ x → (H b ≠ none ∨ ∃ u, h0.get? b = some u) → b ∉ fs → B.get? b = some o
noncomputable def CXX (P : Program) (w : World) : CXT := fun outer H s E e s' => ∃ x C dx H' B, e = .ref x ∧ s'.os = s.os ∧ AllBare s'.gens ∧ Un (frs outer) [] H H' s.heap s'.heap ∧ HOk P w H' s'.heap ∧ s.heap.objs.size ≤ x ∧
  H' x = some (XC x C dx) ∧ Fly B s'.heap x C dx ∧ B.StaysIn s'.heap ∧ s'.heap.FunFrames B outer ∧ Cov B (frs outer) x s.heap H' s'.heap ∧ E (.ref x) (some dx) H'
section
variable {P : Program} {w : World} {K : PySem.W.Frag} {mg : Str → Option Value} {base : Heap} {N : List Str} {qual : Str} {scope : Scope} {f : Addr} {cd : Value} {A : Around} {outer : List Env} {s s1 : Shared} {H H1 : Hp} {E : XK}
  {pins : List (Addr × Obj)} {σ : St} {x C dx : Addr} {B : Heap}
theorem xe_of (I : Inv (cxOf (CXX P w) P w K mg base N qual scope f cd A outer s H E) pins σ H1 s1) (hx : H1 x = some (XC x C dx)) (sz : s.heap.objs.size ≤ x) (y : Fly B s1.heap x C dx) (st : B.StaysIn s1.heap)
    (fr : s1.heap.FunFrames B (envOfC qual scope s.heap.objs.size f cd :: outer)) (cov : Cov B (frs (envOfC qual scope s.heap.objs.size f cd :: outer)) x s.heap H1 s1.heap) (q : E (.ref x) (some dx) H1) :
    (cxOf (CXX P w) P w K mg base N qual scope f cd A outer s H E).xe (.ref x) s1 := by
  have fre := I.stkFree
  have bas : Un (frs outer) [] H H1 s.heap s1.heap := I.base
  have hL : (envOfC qual scope s.heap.objs.size f cd).frame = some s.heap.objs.size := rfl
  have nst : ∀ b u, s.heap.get? b = some u → b ∉ frs outer → b ∉ frs (envOfC qual scope s.heap.objs.size f cd :: outer) := fun b u e nb z => by
    rcases List.mem_cons.mp (show b ∈ s.heap.objs.size :: frs outer from z) with z | z
    · exact absurd z (Nat.ne_of_lt (Heap.lt_size e))
    · exact nb z
  show wpAny _ _ (leaving _ _) _ _ _
  refine x_leave (outer := outer) I.ok.frames fr hL st y fun h' l => ?_
  have kB : ∀ b u, s1.heap.get? b = some u → b ≠ x → (H1 b ≠ none ∨ ∃ u, s.heap.get? b = some u) → b ∉ frs (envOfC qual scope s.heap.objs.size f cd :: outer) → h'.get? b = some u := fun b u e nx z nf => l.st b u (cov b u e nx z nf)
  have lt : ∀ b u, s.heap.get? b = some u → b ≠ x := fun b u e z => absurd (Heap.lt_size e) (by rw [z]; exact Nat.not_lt.mpr sz)
  have slo : ∀ b u, s1.heap.get? b = some u → b ∈ frs outer → ∃ sl, h'.get? b = some { u with slots := sl } := fun b u e z => by
    obtain ⟨_, o', q, nf⟩ := fr.mem (List.mem_cons_of_mem _ z : b ∈ s.heap.objs.size :: frs outer)
    rw [e] at q
    cases q
    exact l.up b u e nf
  refine ⟨x, C, dx, H1, B, rfl, I.os, I.bare, ⟨fun b u e n nb _ => ?_, fun b u e n nb hz => ?_, fun b u e n z => bas.free b u e n z, fun b u e z => ?_, bas.tups, bas.frzs, bas.tbls, bas.cts⟩, fun a o e => ?_, sz, hx, l.fly, l.st, l.fr.2.2, fun b o e nx z nb => ?_, q⟩
  · exact kB b u (bas.keep b u e n nb (by simp)) (lt b u e) (.inr ⟨u, e⟩) (nst b u e nb)
  · obtain ⟨sl, e1⟩ := bas.slot b u e n nb hz
    obtain ⟨sl', e2⟩ := slo b _ e1 nb
    exact ⟨sl', e2⟩
  · obtain ⟨o', e1⟩ := bas.there b u e z
    by_cases nb : b ∈ frs outer
    · obtain ⟨sl, e2⟩ := slo b _ e1 nb
      exact ⟨_, e2⟩
    · exact ⟨o', kB b o' e1 (lt b u e) (.inr ⟨u, e⟩) (nst b u e nb)⟩
  · by_cases hax : a = x
    · subst hax
      rw [hx] at e
      cases e
      exact xc_ok l.fly.xc
    · refine (I.hok a o e).stay (fun b u z g => ?_) (fun _ z => z) (fun _ _ z => z) fun _ _ _ z => z
      have tr : H1 b ≠ none := by
        rcases z with rfl | z
        · rw [e]; exact fun z => nomatch z
        · rw [z]; exact fun z => nomatch z
      refine kB b u g (fun z2 => ?_) (.inl tr) fun z2 => tr (fre b z2)
      subst z2
      rcases z with rfl | z
      · exact hax rfl
      · rw [hx] at z; cases z
  · have ex : ∃ o', s1.heap.get? b = some o' := by
      rcases z with z | ⟨u, z⟩
      · cases e2 : H1 b with
        | none => exact absurd e2 z
        | some oo =>
          exact (I.hok b oo e2).has
      · exact bas.there b u z (by simp)
    obtain ⟨o', e1⟩ := ex
    have nf : b ∉ frs (envOfC qual scope s.heap.objs.size f cd :: outer) := fun z2 => by
      rcases List.mem_cons.mp (show b ∈ s.heap.objs.size :: frs outer from z2) with z3 | z3
      · rcases z with z | ⟨u, z⟩
        · exact z (fre b z2)
        · exact absurd z3 (Nat.ne_of_lt (Heap.lt_size z))
      · exact nb z3
    have e2 := cov b o' e1 nx z nf
    rw [l.st b o' e2] at e
    cases e
    exact e2
theorem pass_x : Passes (CXX P w) (cxOf (CXX P w) P w K mg base N qual scope f cd A outer s H E) E := fun pins σ H1 s1 e s' I z => by
  obtain ⟨x, C, dx, H', B, rfl, os, bare, un, hok, sz, hx, fly, st, fr, cov, q⟩ := z
  have I' := I.call' (ch := []) os un hok bare (fun b z => absurd z (by simp))
  exact xe_of I' hx (Nat.le_trans I.sz sz) fly st fr (fun b o e nx z nb => cov b o e nx (z.imp id fun ⟨u, e⟩ => I.base.there b u e List.not_mem_nil) nb) q
end
end L2

namespace L2
open PySem PySem.Spec PyProof.Rows
noncomputable def sX0 (K : PySem.W.Frag) (ta tv : TE) (f : Str) : TS := fun D σ H => tv σ H fun y H1 => ta σ H1 fun v H2 => ∃ x C Dd fI, v = .ref x ∧ H2 x = some (XO x C none) ∧ XCl K C Dd fI ∧ NoAttr K C f ∧
  ∀ dx, H2 dx = none → dx ≠ x → D.nx σ (upd (upd H2 dx (XD dx [(f, y)])) x (XO x C (some dx)))
noncomputable def sX1 (K : PySem.W.Frag) (ta tv : TE) (f : Str) : TS := fun D σ H => tv σ H fun y H1 => ta σ H1 fun v H2 => ∃ x C Dd fI dx fs, v = .ref x ∧ H2 x = some (XO x C (some dx)) ∧ H2 dx = some (XD dx fs) ∧ dx ≠ x ∧ fs.length < 900 ∧ XCl K C Dd fI ∧ NoAttr K C f ∧
  D.nx σ (upd H2 dx (XD dx (putF f y fs)))
section
variable {X : Cx} {o value : Expr} {ta tv : TE} {f : Str} {pos pos' : Pos}
theorem ps_x0 (ha : PE X o ta) (hv : PE X value tv) (hs : swapsWith value (some (.Attribute o f pos')) pos.line X.env = pure false := by rfl) : PS X (.Assign [.Attribute o f pos'] value pos) (sX0 X.K ta tv f) := by
  intro pins s σ H D I h
  refine plainObj_wpAny_Assign_Attribute (thn (hv pins s σ H _ I h) fun u s1 ⟨y, H1, I1, ry, q⟩ => thn (ha pins s1 σ H1 _ I1 q) fun ov s2 ⟨v, H2, I2, rx, x, C, Dd, fI, ev, ex, c, n, k⟩ => ?_) hs
  subst ev
  obtain rfl : ov = Value.ref x := rx
  obtain ⟨ob, vs, e1, e2, e3, e4, e5, e6⟩ := I2.hok.xo ex
  have fresh := I2.hok.fresh (Nat.le_refl s2.heap.objs.size)
  have ne : s2.heap.objs.size ≠ x := Nat.ne_of_gt (Heap.lt_size e1)
  refine x_set0 I2.kIn c e1 e2 e3 e4 n fun h' g1 g2 g3 => ⟨σ, _, I2.un (h' := h') (t' := s2.toks + 2) ⟨fun b u e nn _ _ => g3 b u (fun z => ?_) e, fun b u e nn _ _ => ⟨u.slots, g3 b u (fun z => ?_) e⟩, fun b u e nn _ => ?_, fun b u e _ => ?_, fun b xs e => ?_, fun b ob u e => ?_, fun b ps e => ⟨#[], ?_⟩, fun b qs e => ?_⟩ ?_, k _ fresh ne⟩
  · subst z; rw [ex] at nn; cases nn
  · subst z; rw [ex] at nn; cases nn
  · rw [upd_ne (fun z => by subst z; rw [ex] at nn; cases nn), upd_ne (Nat.ne_of_lt (Heap.lt_size e))]; exact nn
  · by_cases z : b = x
    · subst z; exact ⟨_, g1⟩
    · exact ⟨u, g3 b u z e⟩
  · rw [upd_ne (ne_of e ex (fun z => nomatch z)), upd_ne (ne_of_none e fresh)]; exact e
  · rw [upd_ne (ne_of e ex (fun z => nomatch z)), upd_ne (ne_of_none e fresh)]; exact e
  · rw [upd_ne (ne_of e ex (fun z => nomatch z)), upd_ne (ne_of_none e fresh), e]; simp
  · rw [upd_ne (ne_of e ex (fun z => nomatch z)), upd_ne (ne_of_none e fresh)]; exact e
  · intro b u e
    by_cases z : b = x
    · subst z
      rw [upd_same] at e
      cases e
      exact xo_ok ⟨_, vs, g1, e2, rfl, e4, e5, e6⟩
    · rw [upd_ne z] at e
      by_cases z2 : b = s2.heap.objs.size
      · subst z2
        rw [upd_same] at e
        cases e
        refine xd_ok ⟨_, g2, fun g => ?_, PySem.Within.cons f u PySem.Within.nil⟩
        by_cases q : g = f
        · subst q; simp only [List.lookup, beq_self_eq_true, if_true]; exact ry
        · simp only [List.lookup, beq_eq_false_iff_ne.mpr q, if_neg q]; trivial
      · rw [upd_ne z2] at e
        refine (I2.hok b u e).stay (fun c u2 hc g => g3 c u2 (fun z3 => ?_) g) (fun c g => ?_) (fun c xs g => ?_) (fun c oc qc g => ?_)
        · subst z3
          rcases hc with hc | hc
          · exact z hc.symm
          · rw [ex] at hc; cases hc
        · rw [upd_ne (ne_of g ex (fun z => nomatch z)), upd_ne (ne_of_none g fresh)]; exact g
        · rw [upd_ne (ne_of g ex (fun z => nomatch z)), upd_ne (ne_of_none g fresh)]; exact g
        · rw [upd_ne (ne_of g ex (fun z => nomatch z)), upd_ne (ne_of_none g fresh)]; exact g
theorem ps_x1 (ha : PE X o ta) (hv : PE X value tv) (hs : swapsWith value (some (.Attribute o f pos')) pos.line X.env = pure false := by rfl) : PS X (.Assign [.Attribute o f pos'] value pos) (sX1 X.K ta tv f) := by
  intro pins s σ H D I h
  refine plainObj_wpAny_Assign_Attribute (thn (hv pins s σ H _ I h) fun u s1 ⟨y, H1, I1, ry, q⟩ => thn (ha pins s1 σ H1 _ I1 q) fun ov s2 ⟨v, H2, I2, rx, x, C, Dd, fI, dx, fs, ev, ex, ed, ne, hl, c, n, k⟩ => ?_) hs
  subst ev
  obtain rfl : ov = Value.ref x := rx
  obtain ⟨ob, vs, e1, e2, e3, e4, e5, e6⟩ := I2.hok.xo ex
  obtain ⟨mA, n1, r, wi⟩ := I2.hok.xd ed
  refine x_set1 I2.kIn c e1 e2 e3 e4 n n1 ne wi (by rw [List.length_map]; omega) fun h' g1 g2 g3 => ⟨σ, _, I2.write (x := dx) (e := dx) (by rw [ed]; exact True.intro) (.inl rfl) (fun b u hb e => g3 b u hb e) (let ⟨o, _, _, e, _⟩ := g2; ⟨o, e⟩) ?_, k⟩
  refine xd_ok ⟨_, g2, fun g => ?_, fun g hg => ?_⟩
  · rw [lookup_putF]
    by_cases q : g = f
    · rw [if_pos q, if_pos q]; exact ry
    · rw [if_neg q, if_neg q]; exact r g
  · by_cases q : g = f
    · rw [q]; exact (keys_putF f y fs).1
    · refine (keys_putF f y fs).2 g (wi g fun z => hg ?_)
      show (if g = f then some u else mA g) = none
      rw [if_neg q]; exact z
end
noncomputable def spI (K : PySem.W.Frag) (fI : Addr) (ns : List Str) : Sp := fun vs H Q _ => ∃ x C Dd us, vs = .ref x :: us ∧ us.length = ns.length ∧ XCl K C Dd fI ∧ (∀ f ∈ ns, NoAttr K C f) ∧ H x = some (XO x C none) ∧
  ∀ dx, H dx = none → dx ≠ x → Q .non (upd (upd H dx (XD dx (ns.zip us))) x (XO x C (some dx)))
section
variable {X : Cx} {k : Nat} {f C Dd : Addr} {fd : FuncData} {ps ns : List Str} {x : Str} {p pos : Pos} {e : Expr} {es : List Expr} {t : TA}
theorem run_xmk {pins : List (Addr × Obj)} {σ : St} {H : Hp} {s : Shared} {Q : VK} {us : List Value} {vs : List V} (c : XCl X.K C Dd f) (hn : ∀ g ∈ ns, NoAttr X.K C g) (F : FnOk X.prog X.w X.K X.mg X.base CX0 k f fd ps (spI X.K f ns)) (hr : Room (k + 1) X.A) (hb : Binds X.K fd ps [])
    (I : Inv X pins σ H s) (r : Vals vs us) (hl : vs.length = ns.length) (hz : ns.length ≤ sizeLine) (h : ∀ x dx, s.heap.objs.size ≤ x → H x = none → H dx = none → dx ≠ x → Q (.ref x) (upd (upd H dx (XD dx (ns.zip vs))) x (XO x C (some dx)))) :
    wpAny (model X.prog X.w) X.A (call (.ref C) us) (EP X pins σ Q) X.xe s := by
  obtain ⟨hh, g, d, t, os⟩ := s
  refine x_call I.kIn c (fun h' e sz hm => ?_) (by rw [← r.length, hl]; exact hz)
  obtain ⟨tt, he, _, _⟩ := hm.there
  have I2 : Inv X pins σ (upd H e (XO e C none)) ⟨h', g, d, t, os⟩ := I.laid (t' := t) hm.keeps sz (xo_ok ⟨_, _, he, rfl, rfl, rfl, by simp, rfl⟩)
  have hq : spI X.K f ns (V.ref e :: vs) (upd H e (XO e C none)) (fun v H2 => v = .non ∧ Q (.ref e) H2) E0 := by
    refine ⟨e, C, Dd, vs, rfl, hl, c, hn, upd_same, fun dx hd ne => ⟨rfl, ?_⟩⟩
    rw [upd_ne ne] at hd
    have := h e dx sz (I.hok.fresh sz) hd ne
    have ee : upd (upd (upd H e (XO e C none)) dx (XD dx (ns.zip vs))) e (XO e C (some dx)) = upd (upd H dx (XD dx (ns.zip vs))) e (XO e C (some dx)) := by
      funext b
      unfold upd
      split <;> rfl
    rw [ee]
    exact this
  have r2 : Vals (V.ref e :: vs) (Value.ref e :: us) := .cons rfl r
  have hl2 : (Value.ref e :: us ++ []).length = ps.length := by
    have e1 := r2.length
    rw [F.len _ _ _ _ hq] at e1
    rw [List.append_nil]
    exact e1.symm
  have hb2 := hb ⟨h', g, d, t, os⟩ (Value.ref e :: us) I2.kIn hl2
  rw [List.append_nil] at hb2
  refine wpAny_call (codeAny_mono (F.run _ X.stack _ _ ⟨Value.ref e :: us, []⟩ (Value.ref e :: us) _ _ E0 (hr.make C us []) (I2.env0.make C us []) hb2 r2 hq) fun r s' hq' => ?_)
  cases r with
  | error e => exact False.elim hq'
  | ok fl =>
    cases fl with
    | ret u =>
      obtain ⟨v, H', I3, rv, ev, q3⟩ := I2.after hq'
      subst ev
      exact ⟨rv, ⟨V.ref e, H', I3, rfl, q3⟩⟩
    | next => exact False.elim hq'
    | brk => exact False.elim hq'
    | cont => exact False.elim hq'
end
end L2

namespace L2
open PySem PySem.Spec PyProof.Rows
section
variable {X : Cx} {pins : List (Addr × Obj)} {σ : St} {H : Hp} {s : Shared}
theorem run_callx {k : Nat} {f : Addr} {fd : FuncData} {ps : List Str} {sp : Sp} {x : Str} {p pos : Pos} {e : Expr} {es : List Expr} {t : TA} {E : XK} {Q : VK} {Ex : Value → Shared → Prop} (F : FnOk X.prog X.w X.K X.mg X.base (CXX X.prog X.w) k f fd ps sp) (hr : Room k X.A) (hg : Gl X x) (hm : X.mg x = some (.ref f))
    (hk : PySem.W.keepIn X.K (.ref f) = true) (hb : Binds X.K fd ps []) (ha : PA X.nox (e :: es) t) (I : Inv X pins σ H s) (h : t σ H fun vs H1 => sp vs H1 Q E)
    (hx : ∀ H1 s1 e s', Inv X pins σ H1 s1 → CXX X.prog X.w X.stack H1 s1 E e s' → Ex e s') (hdb : (x == ("__debug__" : Str)) = false := by decide)
    (he : starEach (e :: es) X.env = (false, eval e X.env) :: starEach es X.env := by rfl) (hpl : (backTo pos (starEach es X.env)).any (·.1) = false := by rfl) :
    wpAny (model X.prog X.w) X.A (eval (.Call (.Name x p) (e :: es) [] pos) X.env) (EP X pins σ Q) Ex s := by
  refine wpAny_Call_Name_kw (ld_glob I hg hm ?_ hdb)
  refine PySem.W.callWith_K (h₀ := X.base) I.ok.mod.kin hk (wpAny_mono (ha pos pins s σ H _ (I.wish _) h) (fun us s1 ⟨vs, H1, I1, r, q⟩ => ⟨I1.kIn, ?_⟩) fun _ _ z => z.elim) he hpl
  have I1 := I1.unwish
  have hl : us.length = ps.length := by rw [← r.length]; exact F.len _ _ _ _ q
  have hb2 := hb s1 us I1.kIn (by rw [List.append_nil]; exact hl)
  rw [List.append_nil] at hb2
  refine wpAny_call (codeAny_mono (F.run X.A X.stack s1 H1 ⟨us, []⟩ us vs Q E hr I1.env0 hb2 r q) fun r s' hq => ?_)
  cases r with
  | error e => exact hx H1 s1 e s' I1 hq
  | ok fl =>
    cases fl with
    | ret u => exact I1.after hq
    | next => exact False.elim hq
    | brk => exact False.elim hq
    | cont => exact False.elim hq
noncomputable abbrev Cx.mark (X : Cx) (e : Value) (E : Value → Shared → Prop) : Cx := { X with A := X.A.mark (some e), calm := false, xe := E }
theorem Inv.mark (I : Inv X pins σ H s) (e : Value) (E : Value → Shared → Prop) : Inv (X.mark e E) pins σ H s :=
  ⟨⟨I.ok.mod, I.ok.kind, I.ok.glob, I.ok.blt, I.ok.above, I.ok.inj, I.ok.has, I.ok.cab, (fun z => nomatch z), I.ok.frames, I.ok.stk, I.ok.exf, I.ok.bs, I.ok.bsz, I.ok.noex, I.ok.exfs, I.ok.funs, I.ok.frf, I.ok.tb⟩, I.os, I.bare, I.base, I.loc, I.cell, I.free, I.freeC, I.pin, I.hok, I.len⟩
theorem Inv.unmark {e : Value} {E : Value → Shared → Prop} (ok : X.Ok) (I : Inv (X.mark e E) pins σ H s) : Inv X pins σ H s := ⟨ok, I.os, I.bare, I.base, I.loc, I.cell, I.free, I.freeC, I.pin, I.hok, I.len⟩
theorem goes_ok {M : Model} {A : Around} {E : Value → Shared → Prop} {i : Nat} {n : Str} {pos : Pos} {Q : Unit → Shared → Prop} (I : Inv X pins σ H s) (hN : X.N.Nodup) (hi : X.N[i]? = some n) (hx : X.env.scope.names.lookup n = some .local)
    (h : ∀ s', Inv X pins (σ.set i none) H s' → Q () s') : wpAny M A (do bindName X.env n .none; unbindBehindTheSuite X.env n pos) Q E s := by
  obtain ⟨m, hn, hl⟩ := id I.loc
  have hcls : (X.env.scope.kind == .class || (X.env.scope.kind == .module && X.env.locals != X.env.globals)) = false := by rw [I.ok.kind]; rfl
  have cne := I.cne
  refine wpAny_nameGoes_keeps hx hn hcls fun h' v hn' hs => ?_
  obtain ⟨oL, _, _, hoL, _⟩ := id hn
  have nl : ∀ b o, X.s₀.heap.get? b = some o → b ≠ X.env.locals := fun b o e => Nat.ne_of_lt (Nat.lt_of_lt_of_le (Heap.lt_size e) I.ok.above)
  refine h _ ⟨I.ok, I.os, I.bare, ⟨fun b o e n hb hx => ?_, fun b o e n hb hx => ?_, I.base.free, fun b o e hx => ?_, I.base.tups, I.base.frzs, I.base.tbls, I.base.cts⟩, ⟨_, hn', fun j y v' e1 e2 e3 => ?_⟩, fun y c e => ?_, I.free, I.freeC, fun p hp => ?_, fun b ob e => ?_, by simpa using I.len⟩
  · exact (hs.2 b (nl b o e)).trans (I.base.keep b o e n hb hx)
  · obtain ⟨sl, e1⟩ := I.base.slot b o e n hb hx
    exact ⟨sl, (hs.2 b (nl b o e)).trans e1⟩
  · obtain ⟨o', e1⟩ := I.base.there b o e hx
    exact ⟨o', (hs.2 b (nl b o e)).trans e1⟩
  · by_cases hj : j = i
    · subst hj
      have : j < σ.length := by rw [I.len]; exact (List.getElem?_eq_some_iff.mp hi).1
      rw [List.getElem?_set_self this] at e2
      cases e2
    · rw [List.getElem?_set_ne (Ne.symm hj)] at e2
      obtain ⟨u', r', q⟩ := hl j y v' e1 e2 e3
      refine ⟨u', r', ?_⟩
      rcases q with ⟨k, e⟩ | ⟨k, c, e, z⟩
      · refine .inl ⟨k, ?_⟩
        have : y ≠ n := fun e => hj (nodup_ix hN e1 (e ▸ hi))
        simp [this, e]
      · exact .inr ⟨k, c, e, z.sameBut hs (cne y c e)⟩
  · obtain ⟨w', z⟩ := I.cell y c e
    exact ⟨w', z.sameBut hs (cne y c e)⟩
  · obtain ⟨e, n, ne, nf, d⟩ := I.pin p hp
    exact ⟨(hs.2 p.1 ne).trans e, n, ne, nf, d⟩
  · refine (I.hok b ob e).stay (fun c w' hc q => (hs.2 c ?_).trans q) (fun _ q => q) (fun _ _ q => q) fun _ _ _ q => q
    rintro rfl
    rcases hc with rfl | hc
    · rw [I.free] at e; cases e
    · rw [I.free] at hc; cases hc
theorem caught_ok {H1 : Hp} {s1 s' : Shared} {E : XK} {e : Value} {Q : Unit → Shared → Prop} {Ex : Value → Shared → Prop} (hst : X.stack = X.env :: X.outer) (hfr : X.env.frame = some X.env.locals) (I : Inv X pins σ H1 s1) (z : CXX X.prog X.w X.stack H1 s1 E e s')
    (k : ∀ x C dx H' h', e = .ref x → Inv X pins σ H' { s' with heap := h' } → H' x = some (XC x C dx) → E (.ref x) (some dx) H' → (∃ B, Left B X.stack x C dx s'.heap h') → Q () { s' with heap := h' }) :
    wpAny (model X.prog X.w) X.A (noteFrame e X.env) (fun _ z => wpAny (model X.prog X.w) X.A (setFlight e none) Q Ex z) Ex s' := by
  obtain ⟨x, C, dx, H', B, rfl, os, bare, un, hok, sz, hx, fly, st, fr, cov, q⟩ := z
  have I' := I.call' (ch := []) os un hok bare (fun b z => absurd z (by simp))
  rw [hst] at fr cov
  refine x_note (outer := X.outer) (by rw [I.ok.frames, hst]) fr hfr st fly fun h' l => k x C dx H' h' rfl ?_ hx q ⟨B, by rw [hst]; exact l⟩
  have fre := I'.stkFree
  rw [hst] at fre
  have kB : ∀ b u, s'.heap.get? b = some u → b ≠ x → (H' b ≠ none ∨ ∃ u, s1.heap.get? b = some u) → b ∉ frs (X.env :: X.outer) → h'.get? b = some u := fun b u e nx z nf => l.st b u (cov b u e nx z nf)
  refine I.call' (ch := []) (s' := { s' with heap := h' }) os ⟨fun b u e n nb _ => ?_, fun b u e n nb hz => ?_, fun b u e n z => un.free b u e n z, fun b u e z => ?_, un.tups, un.frzs, un.tbls, un.cts⟩ (fun a o e => ?_) bare (fun b z => absurd z (by simp))
  · rw [hst] at nb
    exact kB b u (un.keep b u e n (by rw [hst]; exact nb) (by simp)) (fun z => absurd (Heap.lt_size e) (by rw [z]; exact Nat.not_lt.mpr sz)) (.inr ⟨u, e⟩) nb
  · obtain ⟨sl, e1⟩ := un.slot b u e n nb hz
    rw [hst] at nb
    obtain ⟨_, o', q2, nf⟩ := fr.mem nb
    rw [e1] at q2
    cases q2
    obtain ⟨sl', e2⟩ := l.up b _ e1 nf
    exact ⟨sl', e2⟩
  · obtain ⟨o', e1⟩ := un.there b u e z
    by_cases nb : b ∈ frs (X.env :: X.outer)
    · obtain ⟨_, o2, q2, nf⟩ := fr.mem nb
      rw [e1] at q2
      cases q2
      obtain ⟨sl', e2⟩ := l.up b _ e1 nf
      exact ⟨_, e2⟩
    · exact ⟨o', kB b o' e1 (fun z => absurd (Heap.lt_size e) (by rw [z]; exact Nat.not_lt.mpr sz)) (.inr ⟨u, e⟩) nb⟩
  · by_cases hax : a = x
    · subst hax
      rw [hx] at e
      cases e
      exact xc_ok l.fly.xc
    · refine (hok a o e).stay (fun b u z g => ?_) (fun _ z => z) (fun _ _ z => z) fun _ _ _ z => z
      have tr : H' b ≠ none := by
        rcases z with rfl | z
        · rw [e]; exact fun z => nomatch z
        · rw [z]; exact fun z => nomatch z
      refine kB b u g (fun z2 => ?_) (.inl tr) fun z2 => tr (fre b z2)
      subst z2
      rcases z with rfl | z
      · exact hax rfl
      · rw [hx] at z; cases z
end
end L2

namespace L2
open PySem PySem.Spec PyProof.Rows
theorem x_again {M : Model} {A : Around} {E : Value → Shared → Prop} {s : Shared} {B : Heap} {x C dx : Addr} {Q : Unit → Shared → Prop} (y : Fly B s.heap x C dx) (q : Q () s) : wpAny M A (setFlight (.ref x) none) Q E s := by
  obtain ⟨hB, o, vs, ho, hc, hx, hd, hz, h1 | ⟨T, oT, ts, h1, bT, nT, hT, dT, h3⟩⟩ := y
  · unfold setFlight
    refine wpAny_bind (wpAny_field ho hd h1 ?_)
    rw [if_neg (by decide)]
    exact wpAny_pure q
  · unfold setFlight
    refine wpAny_bind (wpAny_field ho hd h1 ?_)
    rw [if_pos (show (Value.ref T != Value.none) = true from by simp)]
    refine wpAny_setField hT dT (Array.getElem?_eq_some_iff.mp h3).1 ?_
    show Q () { s with heap := s.heap.update T (Obj.mapFields (·.setIfInBounds 3 Value.none)) }
    rw [Heap.update_setField_same s.heap T oT ts 3 Value.none hT dT h3]
    exact q
structure XTop (K : PySem.W.Frag) (D : Addr) : Prop where
  sub : (PySem.W.subIn K (.ref D) (.type "BaseException") == some true) = true
  cls : ((PySem.W.clsIn K D).isSome && PySem.W.typeIn K (.ref D) == some (.type "type")) = true
theorem XCl.exm {K : PySem.W.Frag} {C D f : Addr} (c : XCl K C D f) (t : XTop K D) : PySem.W.exmOne K (.ref C) (.ref D) = some true := by
  unfold PySem.W.exmOne PySem.W.kitCls
  rw [if_pos t.sub]
  dsimp only
  rw [if_pos t.cls]
  obtain ⟨cd, h1, h2, _⟩ := c.cls
  show PySem.W.mroIn K C (.ref D) = some true
  unfold PySem.W.mroIn
  rw [h1, Option.bind_some, h2]
  simp
section
variable {X : Cx} {k : Nat} {f D : Addr} {fd : FuncData} {ps : List Str} {sp : Sp} {x r n c dn : Str} {p pr pos pc pn pd pa pas ph pcl : Pos} {e : Expr} {es : List Expr} {t : TA} {ir jn ic : Nat}
noncomputable def tTry (K : PySem.W.Frag) (D : Addr) (sp : Sp) (t : TA) (ir jn ic : Nat) : TS := fun Dd σ H => t σ H fun vs H1 => sp vs H1 (fun v H2 => Dd.nx (σ.set ir (some v)) H2)
  fun u _ H2 => ∃ x C dx f, u = .ref x ∧ H2 x = some (XC x C dx) ∧ XCl K C D f ∧ Dd.nx ((σ.set jn none).set ic (some (.ref x))) H2
theorem ps_try (F : FnOk X.prog X.w X.K X.mg X.base (CXX X.prog X.w) k f fd ps sp) (hr : Room k X.A) (hg : Gl X x) (hm : X.mg x = some (.ref f)) (hk : PySem.W.keepIn X.K (.ref f) = true) (hb : Binds X.K fd ps []) (ha : PA X.nox (e :: es) t)
    (T : XTop X.K D) (hgD : Gl X dn) (hmD : X.mg dn = some (.ref D)) (hst : X.stack = X.env :: X.outer) (hfr : X.env.frame = some X.env.locals) (hN : X.N.Nodup)
    (hir : X.N[ir]? = some r) (lr : Loc X.env.scope r) (fr : X.fn r = true ∨ X.env.scope.names.lookup r = some .local) (hjn : X.N[jn]? = some n) (ln : X.env.scope.names.lookup n = some .local)
    (hic : X.N[ic]? = some c) (lc : Loc X.env.scope c) (fc : X.fn c = true ∨ X.env.scope.names.lookup c = some .local) (hij : jn ≠ ic) (hv : ∀ u E, PE (X.mark u E) (.Name n pn) (tVar jn))
    (hs : swapsWith (.Call (.Name x p) (e :: es) [] pcl) (some (.Name r pr)) pa.line X.env = pure false := by rfl) (hs2 : swapsWith (.Name n pn) (some (.Name c pc)) pas.line X.env = pure false := by rfl)
    (hdb : (x == ("__debug__" : Str)) = false := by decide) (hdb2 : (dn == ("__debug__" : Str)) = false := by decide)
    (he : starEach (e :: es) X.env = (false, eval e X.env) :: starEach es X.env := by rfl) (hpl : (backTo pcl (starEach es X.env)).any (·.1) = false := by rfl) :
    PS X (.Try [.Assign [.Name r pr] (.Call (.Name x p) (e :: es) [] pcl) pa] [.ExceptHandler (some (.Name dn pd)) (some n) [.Assign [.Name c pc] (.Name n pn) pas] ph] [] [] pos) (tTry X.K D sp t ir jn ic) := by
  intro pins s σ H Dd I h
  refine wpAny_Try_except (wpAny_execs_cons ?_)
  refine wpAny_Assign_Name (thn (run_callx (pins := pins) (σ := σ) F hr hg hm hk hb ha I h (fun H1 s1 e s' I1 z => ?_) hdb he hpl) fun v s1 ⟨y, H1, I1, r1, q1⟩ => ?_) hs
  · refine caught_ok hst hfr I1 z fun x C dx H' h' ee I2 hx hE ⟨B, l⟩ => ?_
    subst ee
    obtain ⟨x1, C', dx1, f', ex, hx2, cl, q⟩ := hE
    cases ex
    have hxc := I2.hok.xc hx2
    obtain ⟨o, vs, g1, g2, g3, g4⟩ := hxc
    refine wpAny_handleBy_cons (codeAny_handlers_test (ld_glob (I2.mark (.ref x) (fun _ _ => True)) hgD hmD ((PySem.W.exm_one (I2.kIn) (x_type g1 g2) (cl.exm T)).here ?_) hdb2)) (by intro q; cases q)
    refine codeAny_handlers_suite_as (x_again l.fly (store_ok I2 hN hjn (.inl ln) (v := .ref x) rfl (fun s3 I3 => ?_) (.inr ln)))
    have Q := pss_one (ps_set (X := X.mark (.ref x) fun _ _ => False) (i := ic) (pos' := pc) (pos := pas) hN hic lc (hv (.ref x) fun _ _ => False) hs2 fc) pins s3 (σ.set jn (some (.ref x))) H' { nx := fun σ' H2 => σ' = (σ.set jn (some (.ref x))).set ic (some (.ref x)) ∧ H2 = H', rt := fun _ _ => False } (I3.mark (.ref x) fun _ _ => False) ?_
    refine wpAny_mono Q (fun f s4 z => ?_) fun _ _ z => z.elim
    · cases f with
      | next =>
        obtain ⟨σ', H2, I4, rfl, rfl⟩ := z
        refine goes_ok (I4.unmark I2.ok) hN hjn ln fun s5 I5 => ⟨_, _, I5, ?_⟩
        rw [List.set_comm _ _ (Ne.symm hij)] at *
        rw [List.set_set]
        exact q
      | brk => obtain ⟨_, _, _, z⟩ := z; exact z.elim
      | cont => obtain ⟨_, _, _, z⟩ := z; exact z.elim
      | ret u => obtain ⟨_, _, _, _, _, z⟩ := z; exact z.elim
    · refine ⟨.ref x, ?_, rfl, rfl⟩
      rw [List.getElem?_set_self (by rw [I2.len]; exact (List.getElem?_eq_some_iff.mp hjn).1)]
  · exact store_ok I1 hN hir lr r1 (fun s2 I2 => wpAny_execs_nil (wpAny_execs_nil ⟨_, H1, I2, q1⟩)) fr
end
end L2

namespace L2
open PySem PySem.Spec
theorem x_raise {M : Model} {A : Around} {E : Value → Shared → Prop} {s : Shared} {K : PySem.W.Frag} {C D f : Addr} {env : Env} {x : Sem Value} {Q : Flow → Shared → Prop} (c : XCl K C D f) (hh : A.handled = none)
    (h : wpAny M A x (fun v z => ∃ e od, v = .ref e ∧ K.In z.heap ∧ xoP e C od z.heap ∧ E (.ref e) z) E s) : wpAny M A (raiseStmt env (some x) none) Q E s := by
  unfold raiseStmt
  refine wpAny_bind (wpAny_mono h (fun v s1 h1 => ?_) fun _ _ x => x)
  obtain ⟨e, od, rfl, X, ⟨o, vs, he, hcls, _, hd, hz, h1⟩, hE⟩ := h1
  obtain ⟨hp, g, d, tk, os⟩ := s1
  obtain ⟨dd, nm, bs, N, q, sn, sub, ab, col, k0, k1, k2, k3, k5, lk⟩ := c.obj
  have hC := X _ _ lk
  have b1 : (Value.ref C :: .ref D :: vtl).contains (.type "BaseException") = true := by simp [vtl]
  have b2 : (Value.ref C :: .ref D :: vtl).contains (.type "type") = false := by simp [vtl]
  obtain ⟨oc, odi, oda, osl⟩ := o
  dsimp only at hcls hd
  subst hcls hd
  repeat (first | with_reducible refine wpAny_loadPart_at he ?_ | with_reducible refine wpAny_loadPart_at hC ?_ | (with_reducible refine wpAny_isSubtype_exc hC ?_; first | rw [b1] | rw [b2]) | with_reducible refine wpAny_field he rfl h1 ?_ | wp_step)
  exact wpAny_raiseNew_none hh hE
end L2

namespace L2
open PySem PySem.Spec PyProof.Rows
section
variable {X : Cx} {pins : List (Addr × Obj)} {σ : St} {H : Hp} {s : Shared} {k : Nat} {f C D : Addr} {fd : FuncData} {ps ns : List Str} {x : Str} {p pos : Pos} {e : Expr} {es : List Expr} {t : TA}
theorem eval_xmk {Ex : Value → Shared → Prop} {Q : VK} {R : List V → Hp → Prop} (c : XCl X.K C D f) (hn : ∀ g ∈ ns, NoAttr X.K C g) (F : FnOk X.prog X.w X.K X.mg X.base CX0 k f fd ps (spI X.K f ns)) (hr : Room (k + 1) X.A) (hb : Binds X.K fd ps []) (hz : ns.length ≤ sizeLine) (hg : Gl X x) (hm : X.mg x = some (.ref C))
    (ha : PA X.nox (e :: es) t) (I : Inv X pins σ H s) (h : t σ H R) (hR : ∀ vs H1, R vs H1 → vs.length = ns.length ∧ ∀ x dx, X.s₀.heap.objs.size ≤ x → H1 x = none → H1 dx = none → dx ≠ x → Q (.ref x) (upd (upd H1 dx (XD dx (ns.zip vs))) x (XO x C (some dx))))
    (hdb : (x == ("__debug__" : Str)) = false := by decide) (he : starEach (e :: es) X.env = (false, eval e X.env) :: starEach es X.env := by rfl) (hpl : (backTo pos (starEach es X.env)).any (·.1) = false := by rfl) :
    wpAny (model X.prog X.w) X.A (eval (.Call (.Name x p) (e :: es) [] pos) X.env) (EP X pins σ Q) Ex s := by
  refine wpAny_Call_Name_kw (ld_glob I hg hm ?_ hdb)
  refine PySem.W.callWith_K (h₀ := X.base) I.ok.mod.kin c.kp (wpAny_mono (ha pos pins s σ H _ (I.wish _) h) (fun us s1 ⟨vs, H1, I1, r, hq⟩ => ⟨I1.kIn, ?_⟩) fun _ _ z => z.elim) he hpl
  obtain ⟨hl, q⟩ := hR vs H1 hq
  refine wpAny_mono (run_xmk (X := X.nox) (Q := Q) c hn F hr hb I1 r hl hz fun x dx sz h1 h2 h3 => q x dx (Nat.le_trans I1.sz sz) h1 h2 h3) (fun u z ⟨v, H', I', r', q'⟩ => ⟨v, H', I'.unwish, r', q'⟩) fun _ _ z => z.elim
noncomputable def tXv (C : Addr) (ns : List Str) (t : TA) : TE := fun σ H Q => t σ H fun vs H1 => vs.length = ns.length ∧ ∀ x dx, H1 x = none → H1 dx = none → dx ≠ x → Q (.ref x) (upd (upd H1 dx (XD dx (ns.zip vs))) x (XC x C dx))
theorem Inv.toXC {dx : Addr} {H1 : Hp} {fs : List (Str × V)} {x : Addr} (I : Inv X pins σ (upd (upd H1 dx (XD dx fs)) x (XO x C (some dx))) s) : Inv X pins σ (upd (upd H1 dx (XD dx fs)) x (XC x C dx)) s := by
  obtain ⟨o, vs, h1, h2, h3, h4, _⟩ := I.hok.xo (x := x) upd_same
  have := I.write (x := x) (e := x) (o := XC x C dx) (h' := s.heap) (t' := s.toks) (by rw [upd_same]; exact True.intro) (.inl rfl) (fun b u _ e => e) ⟨o, h1⟩ (xc_ok ⟨o, vs, h1, h2, h3, h4⟩)
  rw [upd_upd] at this
  exact this
theorem pe_xmk (c : XCl X.K C D f) (hn : ∀ g ∈ ns, NoAttr X.K C g) (F : FnOk X.prog X.w X.K X.mg X.base CX0 k f fd ps (spI X.K f ns)) (hr : Room (k + 1) X.A) (hb : Binds X.K fd ps []) (hz : ns.length ≤ sizeLine) (hg : Gl X x) (hm : X.mg x = some (.ref C))
    (ha : PA X.nox (e :: es) t) (hdb : (x == ("__debug__" : Str)) = false := by decide) (he : starEach (e :: es) X.env = (false, eval e X.env) :: starEach es X.env := by rfl) (hpl : (backTo pos (starEach es X.env)).any (·.1) = false := by rfl) :
    PE X (.Call (.Name x p) (e :: es) [] pos) (tXv C ns t) := by
  intro pins s σ H Q I h
  refine thn (eval_xmk (Q := fun v H' => ∃ x dx H1 fs, v = .ref x ∧ H' = upd (upd H1 dx (XD dx fs)) x (XO x C (some dx)) ∧ Q (.ref x) (upd (upd H1 dx (XD dx fs)) x (XC x C dx))) c hn F hr hb hz hg hm ha I h (fun vs H1 ⟨hl, q⟩ => ⟨hl, fun x dx _ h1 h2 h3 => ⟨x, dx, H1, _, rfl, rfl, q x dx h1 h2 h3⟩⟩) hdb he hpl) fun u s1 ⟨v, H', I', r, x, dx, H1, fs, e1, e2, q⟩ => ?_
  subst e1 e2
  exact ⟨_, _, I'.toXC, r, q⟩
end
section
variable {X : Cx} {P : Program} {w : World} {K : PySem.W.Frag} {mg : Str → Option Value} {base : Heap} {N : List Str} {qual : Str} {scope : Scope} {fa : Addr} {cd : Value} {A : Around} {outer : List Env} {s : Shared} {H : Hp} {E : XK}
  {k : Nat} {f C D : Addr} {fd : FuncData} {ps ns : List Str} {x : Str} {p pos pos' : Pos} {e : Expr} {es : List Expr} {t : TA}
noncomputable def tRs (C : Addr) (ns : List Str) (E : XK) (t : TA) : TS := fun _ σ H => t σ H fun vs H1 => vs.length = ns.length ∧ ∀ x dx, H1 x = none → H1 dx = none → dx ≠ x → E (.ref x) (some dx) (upd (upd H1 dx (XD dx (ns.zip vs))) x (XC x C dx))
theorem ps_raise (hX : X = cxOf (CXX P w) P w K mg base N qual scope fa cd A outer s H E) (c : XCl X.K C D f) (hn : ∀ g ∈ ns, NoAttr X.K C g) (F : FnOk X.prog X.w X.K X.mg X.base CX0 k f fd ps (spI X.K f ns)) (hr : Room (k + 1) X.A) (hb : Binds X.K fd ps []) (hz : ns.length ≤ sizeLine) (hg : Gl X x) (hm : X.mg x = some (.ref C))
    (ha : PA X.nox (e :: es) t) (hdb : (x == ("__debug__" : Str)) = false := by decide) (he : starEach (e :: es) X.env = (false, eval e X.env) :: starEach es X.env := by rfl) (hpl : (backTo pos (starEach es X.env)).any (·.1) = false := by rfl) :
    PS X (.Raise (some (.Call (.Name x p) (e :: es) [] pos)) none pos') (tRs C ns E t) := by
  intro pins s1 σ H1 Dd I h
  rw [arm_exec_Raise]
  have hh : X.A.handled = none := I.ok.hd (by rw [hX]; rfl)
  refine wpAny_bind (wpAny_standAt (x_raise c hh (wpAny_bind (thn (eval_xmk (Q := fun v H' => ∃ x dx H1 fs, X.s₀.heap.objs.size ≤ x ∧ v = .ref x ∧ H' = upd (upd H1 dx (XD dx fs)) x (XO x C (some dx)) ∧ E (.ref x) (some dx) (upd (upd H1 dx (XD dx fs)) x (XC x C dx))) c hn F hr hb hz hg hm ha I h (fun vs H1 ⟨hl, q⟩ => ⟨hl, fun x dx sz h1 h2 h3 => ⟨x, dx, H1, _, sz, rfl, rfl, q x dx h1 h2 h3⟩⟩) hdb he hpl) fun u s2 ⟨v, H', I', r, x, dx, H2, fs, sz, e1, e2, q⟩ => wpAny_bind (wpAny_standAt (wpAny_pure ?_))))))
  subst e1 e2
  obtain rfl : u = Value.ref x := r
  have xo := I'.hok.xo (x := x) upd_same
  refine ⟨x, some dx, rfl, I'.kIn, xo, ?_⟩
  have I2 := I'.toXC
  subst hX
  obtain ⟨o, vs, g1, g2, g3, g4, g5, g6⟩ := xo
  have fr := I2.stack
  have nfr : x ∉ frs (envOfC qual scope s.heap.objs.size fa cd :: outer) := fun z => by
    have := I2.stkFree x z
    rw [upd_same] at this
    cases this
  refine xe_of (B := PySem.W.hideAll s2.heap (x :: frs (envOfC qual scope s.heap.objs.size fa cd :: outer))) I2 upd_same sz ⟨PySem.W.hideAll_none _ (.head _), o, vs, g1, g2, g3, g4, g5, .inl g6⟩ (fun b o e => PySem.W.of_hideAll _ e) (PySem.W.funFrames_hide fr fun env he a ha => .tail _ (List.mem_filterMap.mpr ⟨env, he, ha⟩)) (fun b o e nx _ nf => PySem.W.hideAll_get _ e fun z => ?_) q
  rcases List.mem_cons.mp z with z | z
  · exact nx z
  · exact nf z
end
end L2

namespace L2
open PySem PySem.Spec Builtin Builtin.ObjectAttr
section
variable {prog : Program} {w : World} {A : Around} {E : Value → Shared → Prop} {s : Shared} {K : PySem.W.Frag} {x C D f : Addr} {o : Obj}
structure XIs (K : PySem.W.Frag) (C : Addr) : Prop where
  ha : PySem.W.findIn K (.ref C) "__class__" = some (some (.builtin "object.__class__"))
  hn : PySem.W.specialIn K (.builtin "object.__class__") "__get__" = some (some (.builtin "getset_descriptor.__get__"))
  ht : PySem.W.takesIn K (.builtin "object.__class__") = some true
theorem x_class {vs : Array Value} {dx : Addr} {mA : Str → Option Value} {Q : Option Value → Shared → Prop} (X : K.In s.heap) (c : XCl K C D f) (y : XIs K C) (hx : s.heap.get? x = some o) (hc : o.cls = .ref C) (hd : o.dict = some dx) (hf : o.data = .fields vs) (hn : s.heap.Ns1 dx mA)
    (h : Q (some (.ref C)) { s with toks := s.toks + 1 }) : wpAny (model prog w) A (getAttr? (.ref x) "__class__") Q E s := by
  obtain ⟨od, hod, hl⟩ := lookIn_ns hn
  have I : PySem.W.InstAt s.heap x o C (some od) := ⟨hx, hc, by unfold PySem.W.notCls; rw [hf], by rw [hd]; exact hod⟩
  obtain ⟨cd, h1, h3, h2⟩ := c.cls
  have L := PySem.W.looks_find (M := model prog w) X I (PySem.W.findObj_data (by rw [h1]; rfl) y.ha y.hn y.ht)
  have L0 := x_type (M := model prog w) hx hc
  have L1 := PySem.W.looks_findIn (M := model prog w) X c.ga
  have L2 := PySem.W.looks_findIn (M := model prog w) X c.gn
  have G := PySem.F.attr_ValueError
  have sb : PySem.W.Looks (model prog w) s.heap (isInstance (.ref x) (.type "BaseException")) true := L0.andThen (c.is X (.type "BaseException") (by simp [vtl]))
  have x1 : (onTheHeap (Value.ref C) && Value.builtin "BaseException.__getattribute__" == Value.builtin "object.__getattribute__") = false := by
    rw [show (Value.builtin "BaseException.__getattribute__" == Value.builtin "object.__getattribute__") = false from by decide +kernel, Bool.and_false]
  have x0 : (false && onTheHeap (Value.builtin "BaseException.__getattribute__")) = false := rfl
  unfold getAttr? getAttrBy? getAttrBy
  refine wpAny_bind (wpAny_mkText (wpAny_bind (wpAny_attempt (wpAny_holding (wpAny_bind (L0.here (s := { s with toks := s.toks + 1 }) (wpAny_bind (L1.here (s := { s with toks := s.toks + 1 }) ?_))))))))
  dsimp only
  rw [x1]
  unfold getAttrByItsOwn callGetattribute boundAndCalled
  rw [x0]
  refine wpAny_bind (L2.here (s := { s with toks := s.toks + 1 }) (wpAny_bind (wpAny_attempt (wpAny_holding (wpAny_bind ?_)))))
  rw [G.ga.bind (.ref x)]
  refine wpAny_pure ?_
  show wpAny _ _ (call (.builtin "BaseException.__getattribute__") [.ref x, .str "__class__" s.toks]) _ _ _
  refine wpAny_call (codeAny_call_builtin G.ga.plain PySem.F.entry_bexc_ga (@PySem.W.check_slot (model prog w) _ _ { s with toks := s.toks + 1 } "BaseException.__getattribute__" "BaseException" "__getattribute__" (.ref x) [.str "__class__" s.toks] [] _ (by decide +kernel) (by decide +kernel) sb (PySem.F.args_bexc_ga (.ref x) (.str "__class__" s.toks)) ?_))
  refine wpAny_bind (wpAny_pure (wpAny_bind (wpAny_pure (wpAny_bind (L0.here (s := { s with toks := s.toks + 1 }) (wpAny_bind (L.here (s := { s with toks := s.toks + 1 }) ?_)))))))
  show wpAny _ _ (holding [_] (call (.builtin "getset_descriptor.__get__") [.builtin "object.__class__", .ref x, .ref C]) >>= ret) _ _ _
  refine wpAny_bind (wpAny_holding (wpAny_call (PySem.W.class_get (s := { s with toks := s.toks + 1 }) (ox := o) (od := some od) X I ?_ (wpAny_pure ?_))))
  · unfold PySem.W.mroIn
    rw [h1, Option.bind_some, h3]
    rfl
  · show wpAny _ _ (handedOut _ ) _ _ _
    exact wpAny_pure (wpAny_pure h)
theorem x_kit {vs : Array Value} {dx : Addr} {fs : List (Str × V)} (c : XCl K C D f) (y : XIs K C) : PySem.W.KitX K (.ref x) (.ref C) (fun h => xcP x C dx h ∧ xdP dx fs h) where
  ty := fun _ _ _ ⟨⟨o, vs, h1, h2, _⟩, _⟩ => x_type h1 h2
  it := fun _ _ X _ => by
    obtain ⟨dd, nm, bs, N, q, sn, sub, ab, col, k0, k1, k2, k3, k5, lk⟩ := c.obj
    intro A' Q' E' s' k q
    unfold isType loadHead
    exact wpAny_bind (wpAny_loadPart (k _ _ (X _ _ lk)) (wpAny_pure q))
  ne := fun h tp dd its n sl X htp => by
    obtain ⟨dd, nm, bs, N, q, sn, sub, ab, col, k0, k1, k2, k3, k5, lk⟩ := c.obj
    refine Bool.eq_false_iff.mpr fun q => ?_
    have e : C = tp := Value.ref.inj (beq_iff_eq.mp q)
    subst e
    have z := congrArg Obj.data (Option.some.inj ((X _ _ lk).symm.trans htp))
    cases z
  ca := fun X ⟨⟨o, vs, h1, h2, h3, h4⟩, mA, n, _⟩ k => x_class X c y h1 h2 h3 h4 n k
end
end L2

namespace L2
open PySem PySem.Spec PyProof.Rows

noncomputable def clOf (names : List (Str × NameKind)) (cells : List (Str × Addr)) : List (Str × Addr) :=
  names.foldl (fun cs nk => if nk.2 == NameKind.free then (nk.1, (cells.lookup nk.1).getD 0) :: cs else cs) []
theorem clOf_go {cells : List (Str × Addr)} {env : Env} (hc : env.cells = cells) : ∀ (names : List (Str × NameKind)) (acc : List (Str × Addr)), (∀ x ∈ names, x.2 = .free → ∃ c, cells.lookup x.1 = some c) →
    (forIn names acc (fun (x : Str × NameKind) (r : List (Str × Addr)) => if (x.2 == NameKind.free) = true then (do let c ← cellOf env x.1; pure (ForInStep.yield ((x.1, c) :: r))) else (pure (ForInStep.yield r) : Sem _)))
      = (pure (names.foldl (fun cs nk => if nk.2 == NameKind.free then (nk.1, (cells.lookup nk.1).getD 0) :: cs else cs) acc) : Sem (List (Str × Addr)))
  | [], acc, _ => rfl
  | x :: r, acc, h => by
    have ih := fun acc => clOf_go hc r acc fun y hy => h y (List.mem_cons_of_mem _ hy)
    simp only [List.forIn_cons, List.foldl_cons]
    cases e : (x.2 == NameKind.free) with
    | false =>
      simp only [Bool.false_eq_true, if_false]
      exact ih acc
    | true =>
      obtain ⟨c, hcx⟩ := h x List.mem_cons_self (by simpa using e)
      have hcell : cellOf env x.1 = pure c := by unfold cellOf; rw [hc, hcx]
      simp only [if_true, hcell, hcx, Option.getD_some]
      exact ih _
theorem closure_eq {scope : Scope} {env : Env} (h : ∀ x ∈ scope.names, x.2 = .free → ∃ c, env.cells.lookup x.1 = some c) : closureFor scope env = pure (clOf scope.names env.cells) := by
  have := clOf_go (env := env) rfl scope.names [] h
  unfold closureFor clOf
  rw [← this]
  simp only [bind_pure]
theorem clOf_look {cells : List (Str × Addr)} : ∀ {names : List (Str × NameKind)} {acc : List (Str × Addr)} {x : Str} {c : Addr}, (∀ y ∈ names, y.2 = .free → ∃ c, cells.lookup y.1 = some c) →
    (names.foldl (fun cs nk => if nk.2 == NameKind.free then (nk.1, (cells.lookup nk.1).getD 0) :: cs else cs) acc).lookup x = some c → (∀ c, acc.lookup x = some c → cells.lookup x = some c) → cells.lookup x = some c
  | [], acc, x, c, _, h, ha => ha c h
  | y :: r, acc, x, c, hy, h, ha => by
    simp only [List.foldl_cons] at h
    refine clOf_look (fun z hz => hy z (List.mem_cons_of_mem _ hz)) h ?_
    intro c' h'
    split at h'
    · rename_i hf
      obtain ⟨c0, e0⟩ := hy y List.mem_cons_self (by simpa using hf)
      rw [List.lookup_cons] at h'
      split at h'
      · rename_i hx
        have hx' : x = y.1 := by simpa using hx
        rw [e0] at h'
        subst hx'
        rw [e0]
        simpa using h'
      · exact ha c' h'
    · exact ha c' h'
theorem clOf_lookup {names : List (Str × NameKind)} {cells : List (Str × Addr)} {x : Str} {c : Addr} (hy : ∀ y ∈ names, y.2 = .free → ∃ c, cells.lookup y.1 = some c) (h : (clOf names cells).lookup x = some c) : cells.lookup x = some c :=
  clOf_look hy h fun c h => by simp at h
theorem clOf_has0 {cells : List (Str × Addr)} : ∀ {names : List (Str × NameKind)} {acc : List (Str × Addr)} {x : Str}, ((x, NameKind.free) ∈ names ∨ (acc.lookup x).isSome) →
    ((names.foldl (fun cs nk => if nk.2 == NameKind.free then (nk.1, (cells.lookup nk.1).getD 0) :: cs else cs) acc).lookup x).isSome
  | [], acc, x, h => by simpa using h
  | y :: r, acc, x, h => by
    simp only [List.foldl_cons]
    refine clOf_has0 ?_
    rcases h with h | h
    · rcases List.mem_cons.mp h with e | h
      · subst e
        right
        simp [List.lookup_cons]
      · exact .inl h
    · right
      split
      · rw [List.lookup_cons]
        split
        · rfl
        · exact h
      · exact h
theorem clOf_has {names : List (Str × NameKind)} {cells : List (Str × Addr)} {x : Str} (h : (x, NameKind.free) ∈ names) : ∃ c, (clOf names cells).lookup x = some c :=
  Option.isSome_iff_exists.mp (clOf_has0 (.inl h))

structure CmpScope (N : List Str) (outer scope : Scope) (M : List Str) (src : List (Option Nat)) : Prop where
  kind : scope.kind = .function
  nocell : ∀ y ∈ scope.names, y.2 ≠ .cell
  free : ∀ y ∈ scope.names, y.2 = .free → outer.names.lookup y.1 = some .cell ∨ outer.names.lookup y.1 = some .free
  names : ∀ y ∈ scope.names, y.2 = .local → scope.names.lookup y.1 = some .local
  lf : ∀ y ∈ scope.names, y.2 = .free → scope.names.lookup y.1 = some .free
  len : M.length = src.length
  nd : M.Nodup
  src : ∀ p ∈ M.zip src, ∀ j ∈ p.2, N[j]? = some p.1 ∧ (p.1, NameKind.free) ∈ scope.names

noncomputable def stC (src : List (Option Nat)) (σ : St) : St := src.map fun o => o.bind fun j => (σ[j]?).join

noncomputable def cxC (X : Cx) (M : List Str) (scope : Scope) (C : Addr) (s : Shared) (H : Hp) (ex : List Addr) : Cx :=
  { X with N := M, s₀ := s, H₀ := H, env := compEnvC scope (clOf scope.names X.env.cells) C X.env, outer := X.stack, ex := ex, fn := fun _ => false, pn := [], xe := fun _ _ => False }

noncomputable def PTs (X : Cx) (ifs : List Expr) (t : TT) : Prop :=
  ∀ (pins : List (Addr × Obj)) (s : Shared) (σ : St) (H : Hp) (Q : Bool → Hp → Prop), Inv X pins σ H s → t σ H Q →
    wpAny (model X.prog X.w) X.A (forIn ifs true fun c r => if r = true then do let ok ← isTrue c X.env (eval c X.env); pure (ForInStep.yield ok) else pure (ForInStep.yield r)) (TP X pins σ Q) X.xe s
noncomputable def tYes : TT := fun _ H Q => Q true H
theorem pts_nil {X : Cx} : PTs X [] tYes := fun pins s σ H Q I h => wpAny_tests_nil ⟨H, I, h⟩
noncomputable def Wk (a b : St) : Prop := a.length = b.length ∧ ∀ (i : Nat) v, a[i]? = some (some v) → b[i]? = some (some v)
noncomputable def tComp (src : List (Option Nat)) (wi : TI) (g : TG) (tt : TT) (te : TE) : TE := fun σ H Q => wi σ H fun J H1 => ∀ D, H1 D = none → ∃ W : Nat → Nat → Hp → Prop, (∃ m, W 0 m (upd H1 D (.lst []))) ∧ ∀ i m H, W i m H →
  (J.stop i H ∧ Q (.ref D) H) ∨ (J.go i H ∧ ∃ N : Hp → Prop, (∀ H', N H' → ∃ m', m' < m ∧ W (i + 1) m' H') ∧ ∀ x H', J.yld i H x H' →
    g x (stC src σ) H' fun σ2 H2 => Wk (stC src σ) σ2 ∧ tt σ2 H2 fun b H3 => if b = true then te σ2 H3 fun v H4 => ∃ ys, H4 D = some (.lst ys) ∧ ys.length < sizeLine ∧ N (upd H4 D (.lst (ys ++ [v]))) else N H3)

theorem compLoop_gen {prog : Program} {w : World} {A : Around} {R : Result → Shared → Prop} {s : Shared} {elt target iter : Expr} {ifs : List Expr} {scope : Scope} {pos : Pos} {it acc : Value} {env : Env} (I : Nat → Shared → Prop)
    (turn : ∀ n s, I n s → wpAny (model prog w) A (pyNext it) (fun r s₁ => match r with
      | none => R (.ok .next) s₁
      | some v => wpAny (model prog w) A (letOwnedTupleGo target it v) (fun _ s₁' => wpAny (model prog w) A (assign target env v) (fun _ s₂ =>
          wpAny (model prog w) A (forIn ifs true fun c r => if r = true then do let ok ← isTrue c env (eval c env); pure (ForInStep.yield ok) else pure (ForInStep.yield r)) (fun ok s₃ =>
            if ok = true then wpAny (model prog w) A (eval elt env) (fun x s₄ =>
              wpAny (model prog w) A (call (.builtin "list.append") [acc, x]) (fun _ s₅ => ∃ m, m < n ∧ I m s₅) (fun _ _ => False) s₄) (fun _ _ => False) s₃
            else ∃ m, m < n ∧ I m s₃) (fun _ _ => False) s₂) (fun _ _ => False) s₁') (fun _ _ => False) s₁) (fun _ _ => False) s)
    (n : Nat) (h : I n s) :
    codeAny (model prog w) A (.compLoop (.ListComp elt [⟨target, iter, ifs, 0⟩] scope pos) 0 it acc env) R s := by
  refine codeAny_loop rfl I (fun n s hI => ?_) n h
  show wpAny _ A ((compTurn (.ListComp elt [⟨target, iter, ifs, 0⟩] scope pos) 0 it acc env).onRaise (fun x => do noteFrame x env; theTreesLotGoes x)) _ _ s
  refine wpAny_noted ?_
  rw [compTurn_list]
  refine wpAny_bind (wpAny_standAt (wpAny_bind (wpAny_mono (turn n s hI) (fun r s₁ h₁ => ?_) fun _ _ h' => h'.elim)))
  cases r with
  | none => exact wpAny_pure h₁
  | some v =>
    refine wpAny_bind (wpAny_mono h₁ (fun _ s₁' h₁' => ?_) fun _ _ h' => h'.elim)
    refine wpAny_bind (wpAny_mono h₁' (fun _ s₂ h₂ => wpAny_bind (wpAny_mono h₂ (fun ok s₃ h₃ => ?_) fun _ _ h' => h'.elim)) fun _ _ h' => h'.elim)
    cases ok with
    | false => exact wpAny_pure ⟨rfl, h₃⟩
    | true =>
      exact wpAny_bind (wpAny_bind (wpAny_mono h₃ (fun x s₄ h₄ => wpAny_bind (wpAny_mono h₄ (fun _ s₅ h₅ => wpAny_pure (wpAny_pure ⟨rfl, h₅⟩)) fun _ _ h' => h'.elim)) fun _ _ h' => h'.elim))

section
variable {X : Cx} {elt tg iter : Expr} {ifs : List Expr} {scope : Scope} {pos : Pos} {M : List Str} {src : List (Option Nat)} {wi : TI} {g : TG} {tt : TT} {te : TE}

theorem relabel_free {env : Env} {scope : Scope} {x : Str} (hn : ∀ y ∈ scope.names, y.2 ≠ .cell) (h : (relabel scope env).names.lookup x = some .cell ∨ (relabel scope env).names.lookup x = some .free) : (x, NameKind.free) ∈ scope.names := by
  have key : ∀ k, (relabel scope env).names.lookup x = some k → (k = .cell ∨ k = .free) → (x, NameKind.free) ∈ scope.names := by
    intro k hk hkk
    have hm := PySem.mem_of_lookup hk
    unfold relabel at hm
    obtain ⟨⟨n, k0⟩, hy, e⟩ := List.mem_map.mp hm
    dsimp only at e
    split at e
    · rename_i hc
      simp only [Bool.and_eq_true] at hc
      have : k0 = .free := by simpa using hc.1.1
      subst this
      cases e
      exact hy
    · cases e
      rcases hkk with z | z
      · subst z; exact absurd rfl (hn _ hy)
      · subst z; exact hy
  rcases h with h | h
  · exact key _ h (.inl rfl)
  · exact key _ h (.inr rfl)

theorem inv_comp {pins : List (Addr × Obj)} {σ : St} {H : Hp} {s s1 : Shared} {fp : List Addr} {m1 : Str → Option Value} (S : CmpScope X.N X.env.scope scope M src) (I : Inv X pins σ H s) (hf : ∀ b ∈ fp, FpOk X pins H b)
    (hfl : ∀ b ∈ fp, b < s.heap.objs.size) (hn : s1.heap.Ns s.heap.objs.size m1) (hk : ∀ b o, s.heap.get? b = some o → s1.heap.get? b = some o) (hos : s1.os = s.os) (hg : s1.gens = s.gens) :
    Inv (cxC X M scope s.heap.objs.size s H fp) [] (stC src σ) H s1 := by
  have hcells : ∀ x ∈ scope.names, x.2 = .free → ∃ c, X.env.cells.lookup x.1 = some c := fun x hx hfr => I.ok.has x.1 (S.free x hx hfr)
  have sub : ∀ x c, (clOf scope.names X.env.cells).lookup x = some c → X.env.cells.lookup x = some c := fun x c h => clOf_lookup hcells h
  have cellK : ∀ c v, s.heap.IsCell c v → s1.heap.IsCell c v := fun c v ⟨o, ho, hd⟩ => ⟨o, hk c o ho, hd⟩
  refine ⟨⟨I.ok.mod, S.kind, I.ok.glob, I.ok.blt, Nat.le_refl _, fun y z c h1 h2 => I.ok.inj y z c (sub _ _ h1) (sub _ _ h2), fun x hx => clOf_has (relabel_free S.nocell hx), fun x c h => (nomatch h), I.ok.hd, I.ok.frames, .inl rfl,
    fun b hb => ⟨Nat.ne_of_lt (hfl b hb), fun x c h => (hf b hb).2.2.2.2.1 x c (sub _ _ h)⟩, I.bs, Nat.le_trans I.ok.bsz I.sz, fun b o e hb => ?_, fun b hb z => ?_, I.stack, I.stkFree, fun p hp => I.base.cts _ _ (I.ok.tb p hp)⟩,
    hos, (by rw [hg]; exact I.bare), Un.kept hk, ⟨m1, hn, fun i x v h1 h2 h3 => ?_⟩, fun x c h => ?_, I.hok.fresh (Nat.le_refl _), fun x c h => I.freeC x c (sub _ _ h), fun p hp => absurd hp (by simp [cxC]), I.hok.kept hk, ?_⟩
  · rcases (hf b hb).2.2.2.1 with z | z
    · exact I.ok.noex b o e z
    · exact absurd (Nat.lt_of_lt_of_le (Heap.lt_size e) (Nat.le_trans I.ok.bsz z)) (Nat.lt_irrefl _)
  · rcases List.mem_cons.mp (I.stkSub b z) with q | q
    · exact (hf b hb).2.1 q
    · exact (hf b hb).2.2.1 q
  · -- a name taken over
    have h1 : M[i]? = some x := h1
    unfold stC at h2
    rw [List.getElem?_map] at h2
    cases hs : src[i]? with
    | none => rw [hs] at h2; cases h2
    | some o =>
      rw [hs] at h2
      simp only [Option.map_some, Option.some.injEq] at h2
      cases o with
      | none => cases h2
      | some j =>
        simp only [Option.bind_some] at h2
        have hmem : (x, some j) ∈ M.zip src := by
          have : (M.zip src)[i]? = some (x, some j) := by rw [List.getElem?_zip_eq_some]; exact ⟨h1, hs⟩
          exact List.mem_of_getElem? this
        obtain ⟨hN, hfr⟩ := S.src _ hmem j rfl
        have hσ : σ[j]? = some (some v) := by
          cases e : σ[j]? with
          | none => rw [e] at h2; cases h2
          | some o => rw [e] at h2; simp only [Option.join_some] at h2; rw [h2]
        have hkind := S.free _ hfr rfl
        obtain ⟨m, hm, hl⟩ := I.loc
        obtain ⟨u, r, l⟩ := hl j x v hN hσ (.inr hkind)
        refine ⟨u, r, ?_⟩
        have hloc : X.env.kindOf x ≠ some .local := by
          show X.env.scope.names.lookup x ≠ _
          rcases hkind with q | q <;> rw [q] <;> decide
        rcases l with l | ⟨_, c, e, z⟩
        · exact absurd l.1 hloc
        · obtain ⟨c', e'⟩ := clOf_has (cells := X.env.cells) hfr
          have := sub _ _ e'
          rw [e] at this
          cases this
          refine .inr ⟨?_, c, e', cellK _ _ z⟩
          rcases h3 with q | q
          · exact absurd q (by
              -- a name that is free in the block is not local there
              exact (by
                intro q
                have : scope.names.lookup x = some .local := by
                  have hb : ∀ (names : List (Str × NameKind)), (names.map fun (n, k) => if (k == NameKind.free && X.env.scope.kind == .function && X.env.kindOf n == some .cell) then (n, NameKind.cell) else (n, k)).lookup x = some .local → names.lookup x = some .local := by
                    intro names
                    induction names with
                    | nil => intro h; simp at h
                    | cons y r ih =>
                      obtain ⟨n, k⟩ := y
                      intro h
                      simp only [List.map_cons] at h
                      by_cases hx : x = n
                      · subst hx
                        split at h
                        · simp [List.lookup_cons] at h
                        · simpa [List.lookup_cons] using h
                      · have hx' : (x == n) = false := by simpa using hx
                        split at h
                        · simp only [List.lookup_cons, hx'] at h ⊢; exact ih h
                        · simp only [List.lookup_cons, hx'] at h ⊢; exact ih h
                  exact hb _ q
                rw [S.lf _ hfr rfl] at this
                cases this))
          · exact q
  · obtain ⟨v, z⟩ := I.cell x c (sub _ _ h)
    exact ⟨v, cellK _ _ z⟩
  · show (stC src σ).length = M.length
    unfold stC
    rw [List.length_map, S.len]

theorem pe_lcomp (S : CmpScope X.N X.env.scope scope M src) (hc : X.calm = true) (hi : PI X tg iter wi) (hg : M.Nodup → ∀ C s H ex, PG (cxC X M scope C s H ex) tg g) (ht : ∀ C s H ex, PTs (cxC X M scope C s H ex) ifs tt)
    (he : ∀ C s H ex, PE (cxC X M scope C s H ex) elt te) (hs : ∀ x, foldedSetIterable iter X.env x = pure x := by intro _; rfl) :
    PE X (.ListComp elt [⟨tg, iter, ifs, 0⟩] scope pos) (tComp src wi g tt te) := by
  intro pins s σ H Q I h
  rw [eval_ListComp]
  have hcells : ∀ x ∈ scope.names, x.2 = .free → ∃ c, X.env.cells.lookup x.1 = some c := fun x hx hfr => I.ok.has x.1 (S.free x hx hfr)
  refine wpAny_comprehension_free (use := none) rfl hs (closure_eq hcells) S.kind S.names (thn (hi pins s σ H _ I h) fun v s1 h1 => thn h1 fun itv s2 h2 => ?_)
  obtain ⟨it, fp, tn, J, H2, rfl, I2, T, st2, f2, hq⟩ := h2
  refine wpAny_newObj_type ?_
  have I3 : Inv X pins σ (upd H2 s2.heap.objs.size (.lst [])) { s2 with heap := s2.heap.push { cls := .type "list", dict := none, data := .seq ([] : List Value).toArray }, toks := s2.toks } := I2.lnew (its := []) (ys := []) (t' := s2.toks) .nil (by simp)
  have hD : H2 s2.heap.objs.size = none := I2.fresh
  obtain ⟨W, ⟨m0, w0⟩, turn⟩ := hq _ hD
  generalize hDn : s2.heap.objs.size = D at *
  generalize hs3 : ({ s2 with heap := s2.heap.push { cls := .type "list", dict := none, data := .seq ([] : List Value).toArray }, toks := s2.toks } : Shared) = s3 at *
  have f3 : ∀ b ∈ fp, FpOk X pins (upd H2 D (.lst [])) b := fun b hb => ⟨by
    obtain ⟨o, e, _⟩ := T.obj _ _ st2 b hb
    rw [upd_ne (by rw [← hDn]; exact Nat.ne_of_lt (Heap.lt_size e))]
    exact (f2 b hb).1, (f2 b hb).2⟩
  have k23 : ∀ b o, s2.heap.get? b = some o → s3.heap.get? b = some o := fun b o e => by rw [← hs3]; exact Heap.get?_push_of_some _ e
  have st3 : tn 0 s3.heap := T.keep _ _ _ st2 fun b _ o e => k23 b o e
  have fl3 : ∀ b ∈ fp, b < s3.heap.objs.size := fun b hb => by
    obtain ⟨o, e, _⟩ := T.obj _ _ st3 b hb
    exact Heap.lt_size e
  refine wpAny_newFunctionEnv S.nocell (by intro y hy; simp at hy) (fun h₁ hns₁ hsb₁ => ?_) S.kind
  have k34 : ∀ b o, s3.heap.get? b = some o → h₁.get? b = some o := fun b o e => hsb₁.extBut b o (Nat.ne_of_lt (Heap.lt_size e)) (Heap.get?_push_of_some _ e)
  generalize hs4 : ({ s3 with heap := h₁, toks := s3.toks + ([] : List (Str × Value)).length } : Shared) = s4
  have I4 : Inv (cxC X M scope s3.heap.objs.size s3 (upd H2 D (.lst [])) fp) [] (stC src σ) (upd H2 D (.lst [])) s4 := by
    rw [← hs4]
    exact inv_comp S I3 f3 fl3 hns₁ k34 rfl rfl
  have st4 : tn 0 s4.heap := T.keep _ _ _ st3 fun b _ o e => by rw [← hs4]; exact k34 b o e
  generalize hX' : cxC X M scope s3.heap.objs.size s3 (upd H2 D (.lst [])) fp = X' at *
  have hg' : PG X' tg g := by rw [← hX']; exact hg S.nd _ _ _ _
  have ht' : PTs X' ifs tt := by rw [← hX']; exact ht _ _ _ _
  have he' : PE X' elt te := by rw [← hX']; exact he _ _ _ _
  have eP : X'.prog = X.prog := by rw [← hX']; rfl
  have eW : X'.w = X.w := by rw [← hX']; rfl
  have eK : X'.K = X.K := by rw [← hX']; rfl
  have eA : X'.A = X.A := by rw [← hX']; rfl
  have ex' : X'.xe = fun _ _ => False := by rw [← hX']; rfl
  have ec : X'.calm = true := by rw [← hX']; exact hc
  have eE : X'.env = compEnvC scope (clOf scope.names X.env.cells) s3.heap.objs.size X.env := by rw [← hX']; rfl
  have stat : ∀ {H' : Hp}, (∀ b ∈ fp, H' b = none) → ∀ b ∈ fp, FpOk X' [] H' b := fun hn b hb => by
    rw [← hX']
    refine ⟨hn b hb, Nat.ne_of_lt (fl3 b hb), fun z => ?_, .inl hb, fun x c h => (f3 b hb).2.2.2.2.1 x c (clOf_lookup hcells h), fun p hp => absurd hp (by simp [cxC])⟩
    rcases List.mem_cons.mp (I3.stkSub b z) with q | q
    · exact (f3 b hb).2.1 q
    · exact (f3 b hb).2.2.1 q
  -- behind the block
  have fin : ∀ (H' : Hp) (s' : Shared), Inv X' [] (stC src σ) H' s' → Q (.ref D) H' → compPost (model X.prog X.w) X.A X.xe none (EP X pins σ Q) (.ref D) s3.heap.objs.size (.ok .next) s' := by
    intro H' s' J' q
    rw [← hX'] at J'
    obtain ⟨m, hn, _⟩ := id J'.loc
    refine ⟨m, hn, fun h' sb => ⟨.ref D, H', ?_, rfl, q⟩⟩
    have hC : H' s3.heap.objs.size = none := J'.free
    have un : Un (frs X.stack) fp (upd H2 D (.lst [])) H' s3.heap s'.heap := J'.base
    have kC : ∀ b o, b ≠ s3.heap.objs.size → s'.heap.get? b = some o → h'.get? b = some o := fun b o hb e => sb.extBut b o hb e
    have un' : Un (frs X.stack) fp (upd H2 D (.lst [])) H' s3.heap h' :=
      ⟨fun b o e n hb hx => kC b o (Nat.ne_of_lt (Heap.lt_size e)) (un.keep b o e n hb hx),
       fun b o e n hb hx => by
        obtain ⟨sl, e'⟩ := un.slot b o e n hb hx
        exact ⟨sl, kC b _ (Nat.ne_of_lt (Heap.lt_size e)) e'⟩,
       un.free,
       fun b o e hx => by
        obtain ⟨o', e'⟩ := un.there b o e hx
        exact ⟨o', kC b _ (Nat.ne_of_lt (Heap.lt_size e)) e'⟩, un.tups, un.frzs, un.tbls, un.cts⟩
    have hok' : HOk X.prog X.w H' h' := fun b u e => by
      have nb : b ≠ s3.heap.objs.size := fun z => by rw [z, hC] at e; cases e
      refine (J'.hok b u e).stay (fun c v hc' q => kC c v ?_ q) (fun _ q => q) (fun _ _ q => q) fun _ _ _ q => q
      rcases hc' with z | z
      · rw [z]; exact nb
      · intro w; rw [w, hC] at z; cases z
    exact I3.call' (s' := { s' with heap := h' }) (show s'.os = s3.os from J'.os) un' hok' J'.bare fun b hb => ⟨(f3 b hb).2.2.2.1, (f3 b hb).2.1, (f3 b hb).2.2.2.2.1, (f3 b hb).2.2.2.2.2⟩
  have loop : ∀ s4' : Shared, s4' = s4 → codeAny (model X.prog X.w) X.A (.compLoop (.ListComp elt [⟨tg, iter, ifs, 0⟩] scope pos) 0 (.ref it) (.ref D) X'.env) (compPost (model X.prog X.w) X.A X.xe none (EP X pins σ Q) (.ref D) s3.heap.objs.size) s4' := by
    rintro _ rfl
    refine compLoop_gen (fun n s' => ∃ i H', Inv X' [] (stC src σ) H' s' ∧ tn i s'.heap ∧ (∀ b ∈ fp, H' b = none) ∧ W i n H') ?_ m0 ⟨0, _, I4, st4, fun b hb => (f3 b hb).1, w0⟩
    rintro n s5 ⟨i, H5, I5, st5, fr5, w5⟩
    rcases turn i n H5 w5 with ⟨stop, qn⟩ | ⟨go, N, hN, step⟩
    · have := T.done X' eP eW eK ec i [] s5 (stC src σ) H5 (fun _ _ => False) I5 (stat fr5) st5 stop
      rw [eA] at this
      refine thn this fun r s6 ⟨hr, I6⟩ => ?_
      subst hr
      exact fin H5 s6 I6 qn
    · have := T.item X' eP eW eK ec i [] s5 (stC src σ) H5 (fun _ _ => False) I5 (stat fr5) st5 go
      rw [eA] at this
      refine thn this fun r s6 ⟨u, hr, h6⟩ => ?_
      subst hr
      refine thn h6 fun _ s7 ⟨x, H7, I7, r7, y7, st7, fr7⟩ => ?_
      have I7' := I7.pinned (stat fr7) (T.obj _ _ st7)
      have a1 := hg' _ s7 (stC src σ) H7 x u _ I7' r7 (step x H7 y7)
      rw [ex', eP, eW, eA] at a1
      refine thn a1 fun _ s8 ⟨σ8, H8, I8, wk8, q8⟩ => ?_
      have a2 := ht' _ s8 σ8 H8 _ I8 q8
      rw [ex', eP, eW, eA] at a2
      refine thn a2 fun ok s9 ⟨H9, I9, q9⟩ => ?_
      have again : ∀ {H7' : Hp} {s' : Shared}, Inv X' ([] ++ pinsAt fp s7.heap) σ8 H7' s' → N H7' → ∃ m, m < n ∧ ∃ i H', Inv X' [] (stC src σ) H' s' ∧ tn i s'.heap ∧ (∀ b ∈ fp, H' b = none) ∧ W i m H' := fun {H7' s'} J7 n7 => by
        obtain ⟨m', hm, w7⟩ := hN H7' n7
        refine ⟨m', hm, i + 1, H7', J7.unpinned.weak wk8.1 wk8.2, T.keep _ _ _ st7 fun b hb o e => (J7.pin (b, o) (List.mem_append_right _ (List.mem_append_right _ (mem_pinsAt hb e)))).1, fun b hb => ?_, w7⟩
        obtain ⟨o, e, d⟩ := T.obj _ _ st7 b hb
        exact (J7.pin (b, o) (List.mem_append_right _ (List.mem_append_right _ (mem_pinsAt hb e)))).2.1
      cases ok with
      | false => exact again I9 q9
      | true =>
        have a3 := he' _ s9 σ8 H9 _ I9 q9
        rw [ex', eP, eW, eA] at a3
        refine thn a3 fun v s10 ⟨y, H10, I10, r10, ys, hl, hz, q10⟩ => ?_
        have a4 := mt_append (X := X') _ s10 σ8 H10 (.ref D) [y] (.ref D) [v] (fun _ H' => N H') I10 rfl (.cons r10 .nil) ⟨D, ys, y, rfl, rfl, hl, hz, q10⟩
        rw [ex', eP, eW, eA] at a4
        refine thn a4 fun _ s11 ⟨_, H11, I11, _, q11⟩ => ?_
        exact again I11 q11
  have e4 : ∀ c : Env, c = X'.env → codeAny (model X.prog X.w) X.A (.compStart (.ListComp elt [⟨tg, iter, ifs, 0⟩] scope pos) 0 (.ref it) (.ref D) c) (compPost (model X.prog X.w) X.A X.xe none (EP X pins σ Q) (.ref D) s3.heap.objs.size) s4 := by
    rintro _ rfl
    exact codeAny_compStart_list (loop _ rfl) (T.self _ _ _ _ _ st4 (loop _ rfl))
  exact e4 _ (by rw [eE]; rfl)
end
end L2

namespace L2
open PySem PySem.Spec PyProof.Rows

noncomputable def Its (x : Str) : It := ⟨fun i _ => i < x.cps.size, fun i H v H' => H' = H ∧ ∃ c, x.cps[i]? = some c ∧ v = .str ⟨#[c]⟩, fun i _ => i = x.cps.size⟩
theorem turn_strA {P : Program} {w : World} {K : PySem.W.Frag} {tg : Expr} (x : Str) (t : Tok) (it : Addr) : Turn P w K tg (Its x) [it] it (fun i h => h.IsStrIter it "str_ascii_iterator" x t i) where
  mem := by simp
  obj := fun i h st b hb => by
    have e : b = it := by simpa using hb
    subst e
    obtain ⟨o, e, c, d⟩ := st
    exact ⟨o, e, fun v z => by rw [d] at z; cases z⟩
  keep := fun i h h' st k => let ⟨o, ho, r⟩ := st; ⟨o, k it (by simp) o ho, r⟩
  item := by
    intro X hP hw hK hc i pins s σ H E I hf st hg
    subst hP hw hK
    obtain ⟨f0, f1, f2, f3, f4, f5⟩ := hf it (by simp)
    have hg : i < x.cps.size := hg
    refine wpAny_pyNext_ascii_item st (c := x.cps[i]) (by simp [hg]) fun h' st' sb => ?_
    have I1 : Inv X pins σ H { s with heap := h', toks := s.toks + 1 } := I.turned (t' := s.toks + 1) (fun b o hb e => (sb.2 b hb).trans e) f0 f1 f3 f4 f5
    obtain ⟨o, e, c, d⟩ := id st'
    exact ⟨_, rfl, go_of (s := { s with heap := h', toks := s.toks + 1 }) e c d (by decide) ⟨.str ⟨#[x.cps[i]]⟩, H, I1, ⟨_, rfl⟩, ⟨rfl, x.cps[i], by simp [hg], rfl⟩, st', fun b hb => (hf b hb).1⟩⟩
  done := by
    intro X hP hw hK hc i pins s σ H E I hf st hg
    subst hP hw hK
    have hg : i = x.cps.size := hg
    obtain ⟨f0, f1, f2, f3, f4, f5⟩ := hf it (by simp)
    exact wpAny_pyNext_ascii_end (I.ok.hd hc) st (by simp [hg]) fun h' eb => ⟨rfl, I.turned (t' := s.toks) (fun b o hb e => eb b o hb e) f0 f1 f3 f4 f5⟩
  self := fun _ _ _ _ _ st h => wpAny_pyIter_striter_ascii st h
theorem turn_strW {P : Program} {w : World} {K : PySem.W.Frag} {tg : Expr} (x : Str) (t : Tok) (it : Addr) : Turn P w K tg (Its x) [it] it (fun i h => h.IsStrIter it "str_iterator" x t i) where
  mem := by simp
  obj := fun i h st b hb => by
    have e : b = it := by simpa using hb
    subst e
    obtain ⟨o, e, c, d⟩ := st
    exact ⟨o, e, fun v z => by rw [d] at z; cases z⟩
  keep := fun i h h' st k => let ⟨o, ho, r⟩ := st; ⟨o, k it (by simp) o ho, r⟩
  item := by
    intro X hP hw hK hc i pins s σ H E I hf st hg
    subst hP hw hK
    obtain ⟨f0, f1, f2, f3, f4, f5⟩ := hf it (by simp)
    have hg : i < x.cps.size := hg
    refine wpAny_pyNext_wide_item st (c := x.cps[i]) (by simp [hg]) fun h' st' sb => ?_
    have I1 : Inv X pins σ H { s with heap := h', toks := s.toks + 1 } := I.turned (t' := s.toks + 1) (fun b o hb e => (sb.2 b hb).trans e) f0 f1 f3 f4 f5
    obtain ⟨o, e, c, d⟩ := id st'
    exact ⟨_, rfl, go_of (s := { s with heap := h', toks := s.toks + 1 }) e c d (by decide) ⟨.str ⟨#[x.cps[i]]⟩, H, I1, ⟨_, rfl⟩, ⟨rfl, x.cps[i], by simp [hg], rfl⟩, st', fun b hb => (hf b hb).1⟩⟩
  done := by
    intro X hP hw hK hc i pins s σ H E I hf st hg
    subst hP hw hK
    have hg : i = x.cps.size := hg
    obtain ⟨f0, f1, f2, f3, f4, f5⟩ := hf it (by simp)
    exact wpAny_pyNext_wide_end (I.ok.hd hc) st (by simp [hg]) fun h' eb => ⟨rfl, I.turned (t' := s.toks) (fun b o hb e => eb b o hb e) f0 f1 f3 f4 f5⟩
  self := fun _ _ _ _ _ st h => wpAny_pyIter_striter_wide st h
section
variable {X : Cx} {tg : Expr}
noncomputable def iStr (tl : TE) : TI := fun σ H R => tl σ H fun v H1 => ∃ x, v = .str x ∧ R (Its x) H1
theorem pi_str {l : Expr} {tl : TE} (hl : PE X l tl) : PI X tg l (iStr tl) := by
  intro pins s σ H R I h
  refine thn (hl pins s σ H _ I h) fun v s1 ⟨y, H1, I1, r1, q1⟩ => ?_
  obtain ⟨x, e, q⟩ := q1
  subst e
  obtain ⟨t, rfl⟩ := r1
  have fin : ∀ b ∈ [s1.heap.objs.size], FpOk X pins H1 b := fun b hb => by
    have e : b = s1.heap.objs.size := by simpa using hb
    subst e
    exact I1.fpOk (Nat.le_refl _) (I1.hok.fresh (Nat.le_refl _))
  cases ha : x.cps.all (· < 128)
  · refine wpAny_pyIter_wide ha ?_
    exact ⟨s1.heap.objs.size, [s1.heap.objs.size], _, _, H1, rfl, I1.kept (t' := s1.toks) fun b o e => Heap.get?_push_of_some _ e, turn_strW x t _, ⟨_, Heap.get?_push_size _ rfl, rfl, rfl⟩, fin, q⟩
  · refine wpAny_pyIter_ascii ha ?_
    exact ⟨s1.heap.objs.size, [s1.heap.objs.size], _, _, H1, rfl, I1.kept (t' := s1.toks) fun b o e => Heap.get?_push_of_some _ e, turn_strA x t _, ⟨_, Heap.get?_push_size _ rfl, rfl, rfl⟩, fin, q⟩

theorem vals_bools : ∀ {bs : List Bool} {us : List Value}, Vals (bs.map V.bl) us → us = bs.map Value.bool
  | [], _, .nil => rfl
  | b :: r, _, .cons h t => by
    have h : _ = Value.bool b := h
    rw [h, vals_bools t]
    rfl
theorem range_get {bs : List Bool} : (List.range bs.length).map (fun i => bs.getD i false) = bs := by
  apply List.ext_getElem
  · simp
  · intro i h1 h2
    simp at h1
    simp [h1]
theorem call_any (hc : X.calm = true) : CallR X (.builtin "any") (fun xs H Q => ∃ (a : Addr) (bs : List Bool), xs = [.ref a] ∧ SqL X.K H a (bs.map V.bl) ∧ Q (.bl (bs.any id)) H) := by
  intro pins s σ H xs us Q I r h
  obtain ⟨a, bs, rfl, hq, q⟩ := h
  obtain ⟨u, rfl, ru⟩ := vals1 r
  cases ru
  obtain ⟨its, rv, p, hz⟩ := I.list hq
  have eu := vals_bools rv
  subst eu
  have hne : a ≠ s.heap.objs.size := by
    obtain ⟨o, n, e, _⟩ := p
    exact Nat.ne_of_lt (Heap.lt_size e)
  refine call_any_walk (wpAny_pyIter_list p.isList ⟨s.heap.objs.size, _, _, _, _, _, fun i => bs.getD i false, rfl, Walks.list (A := X.A.in1) (I.ok.hd hc) _ a hne (bs.map Value.bool).toArray, ⟨⟨_, Heap.get?_push_size _ rfl, rfl, rfl⟩, ?_⟩, ?_, ?_⟩)
  · obtain ⟨o, ho, hr⟩ := p.isList
    exact ⟨o, Heap.get?_push_of_some _ ho, hr⟩
  · intro i v s' Q' E' hP hQ
    rw [List.getElem?_toArray, List.getElem?_map] at hP
    cases e : bs[i]? with
    | none => rw [e] at hP; cases hP
    | some b =>
      rw [e] at hP
      cases hP
      refine wpAny_truthy_bool ?_
      dsimp only at hQ
      rw [List.getD_eq_getElem?_getD, e] at hQ
      exact hQ
  · intro h' tk hk
    refine ⟨.bl _, H, I.kept (h' := h') (t' := tk) fun b o e => hk b o (fun z => ?_) (Heap.get?_push_of_some _ e), rfl, ?_⟩
    · have z : b = s.heap.objs.size := by simpa using z
      subst z
      exact absurd (Heap.lt_size e) (Nat.lt_irrefl _)
    · have e : (List.range (bs.map Value.bool).toArray.size).any (fun i => bs.getD i false) = bs.any id := by
        conv => rhs; rw [← range_get (bs := bs)]
        rw [List.any_map]
        simp
      rw [e]
      exact q

theorem vals_strs : ∀ {ts : List Str} {us : List Value}, Vals (ts.map V.str) us → ∃ l, us = strValues l ∧ l.map (·.1) = ts
  | [], _, .nil => ⟨[], rfl, rfl⟩
  | x :: r, _, .cons h t => by
    obtain ⟨tk, rfl⟩ := h
    obtain ⟨l, e1, e2⟩ := vals_strs t
    exact ⟨(x, tk) :: l, by rw [e1]; rfl, by rw [← e2]; rfl⟩
theorem mt_join : MtR X "str.join" (fun x vs H Q => ∃ (a : Str) (l : Addr) (ts : List Str), x = .str a ∧ vs = [.ref l] ∧ SqL X.K H l (ts.map V.str) ∧ JoinOk a ts = true ∧ Q (.str (Txt.join a ts)) H) := by
  intro pins s σ H x vs v us Q I rx rv h
  obtain ⟨a, l, ts, rfl, rfl, hq, hj, q⟩ := h
  obtain ⟨t, rfl⟩ := rx
  obtain ⟨u, rfl, ru⟩ := rv.one
  cases ru
  obtain ⟨its, r, p, hz⟩ := I.list hq
  obtain ⟨ls, rfl, e2⟩ := vals_strs r
  exact SC.join p.isList e2 hj fun t' k => ⟨.str _, H, I.tok _, ⟨_, rfl⟩, q⟩
theorem call_int_str : CallR X (.type "int") (fun xs H Q => ∃ x n, xs = [.str x] ∧ PySem.intText? x = some n ∧ x.length ≤ 640 ∧ Q (.int n) H) := by
  intro pins s σ H xs us Q I r h
  obtain ⟨x, n, rfl, hn, hl, q⟩ := h
  obtain ⟨u, rfl, ru⟩ := vals1 r
  obtain ⟨t, rfl⟩ := ru
  exact PySem.W.KIN.call_text hn hl ⟨.int n, H, I.tok _, ⟨_, rfl⟩, q⟩

theorem part_of {v : Value} {o : Option Int} (h : IsPart v o) : ∃ p : Option (Int × Tok), v = partValue p ∧ o = p.map (·.1) := by
  cases o with
  | none => exact ⟨none, by cases h <;> rfl, rfl⟩
  | some i =>
    cases h
    exact ⟨some (i, _), rfl, rfl⟩
noncomputable def rSlS : V → Option Int → Option Int → Hp → VK → Prop := fun x lo hi H Q => ∃ z, x = .str z ∧ z.length ≤ sizeLine ∧ Q (.str (Txt.slice z lo hi)) H
theorem sl_str : SlR X rSlS := by
  intro pins s σ H x v vl vu lo hi sl Q I rx hs pl pu h
  obtain ⟨z, rfl, hz, q⟩ := h
  obtain ⟨t, rfl⟩ := rx
  obtain ⟨l, rfl, rfl⟩ := part_of pl
  obtain ⟨u, rfl, rfl⟩ := part_of pu
  refine ⟨"str", _, F.slot_str_getitem.lookup, typeIs_str _ _ _, ?_⟩
  exact wpAny_getItem_str_slice (l := l) (u := u) (st := none) hs rfl (post_val_or_str ⟨Nat.le_trans (Txt.slice_le z _ _) hz, fun t' k => ⟨.str _, H, I.tok _, ⟨_, rfl⟩, q⟩⟩)

end
end L2

namespace L2
open PySem PySem.Spec PyProof.Rows

theorem bt_len : bootBuiltins "len" = some (.builtin "len") := by first | exact PySem.boot_len | exact PyProof.Rows.boot_len | decide +kernel
theorem bt_any : bootBuiltins "any" = some (.builtin "any") := by first | exact PySem.boot_any | exact PyProof.Rows.boot_any | decide +kernel
theorem bt_isinstance : bootBuiltins "isinstance" = some (.builtin "isinstance") := by first | exact PySem.boot_isinstance | exact PyProof.Rows.boot_isinstance | decide +kernel
theorem bt_max : bootBuiltins "max" = some (.builtin "max") := by first | exact PySem.boot_max | exact PyProof.Rows.boot_max | decide +kernel
theorem bt_int : bootBuiltins "int" = some (.type "int") := by first | exact PySem.boot_int | exact PyProof.Rows.boot_int | decide +kernel
theorem bt_bool : bootBuiltins "bool" = some (.type "bool") := by first | exact PySem.boot_bool | exact PyProof.Rows.boot_bool | decide +kernel
theorem bt_tuple : bootBuiltins "tuple" = some (.type "tuple") := by first | exact PySem.boot_tuple | exact PyProof.Rows.boot_tuple | decide +kernel
theorem bt_enumerate : bootBuiltins "enumerate" = some (.type "enumerate") := by first | exact PySem.boot_enumerate | exact PyProof.Rows.boot_enumerate | decide +kernel
structure OkF (P : Program) (w : World) (K : PySem.W.Frag) (mg : Str → Option Value) (base : Heap) (x : Str) (k : Nat) (ps : List Str) (sp : Sp) : Prop where
  ex : ∃ f fd, mg x = some (.ref f) ∧ PySem.W.keepIn K (.ref f) = true ∧ Binds K fd ps [] ∧ FnOk P w K mg base CX0 k f fd ps sp
structure DefF (K : PySem.W.Frag) (mg : Str → Option Value) (x : Str) (st : Stmt) (ps : List Str) : Prop where
  ex : ∃ f fd, mg x = some (.ref f) ∧ PySem.W.keepIn K (.ref f) = true ∧ Binds K fd ps [] ∧ Fun K x x st f fd
section
variable {P : Program} {w : World} {K : PySem.W.Frag} {mg : Str → Option Value} {base : Heap}
theorem DefF.ok {x : Str} {st : Stmt} {N ps : List Str} {k : Nat} {sp : Sp} (F : DefF K mg x st ps) (S : FnScope N ps (defScope st)) (len : ∀ vs H Q E, sp vs H Q E → vs.length = ps.length)
    (hbody : ∀ (f : Addr) (cdv : Value) (A : Around) (outer : List Env) (s : Shared) (H : Hp) (vs : List V) (Q : VK) (E : XK), Room k (A.deeper (envOfC x (defScope st) s.heap.objs.size f cdv)) → sp vs H Q E →
      ∃ t, PSs (cxOf CX0 P w K mg base N x (defScope st) f cdv A outer s H E).nox (defBody st) t ∧ t { nx := fun _ H' => Q .non H', rt := Q } (start N vs) H) : OkF P w K mg base x (k + 1) ps sp := by
  obtain ⟨f, fd, h1, h2, h3, h4⟩ := F.ex
  exact ⟨f, fd, h1, h2, h3, h4.ok S len (hbody f)⟩
theorem DefF.mk' {x : Str} {st : Stmt} {ps : List Str} {f : Addr} {oc : Value} {od an : Option Addr} {osl : Array (Option Value)} {kV doc pm cdv ct : Value} {h : Heap} (X : K.In h) (G : h.Ns mainGlobals mg)
    (a : PySem.W.nsIn K mainGlobals x = some (some (.ref f)))
    (l : K.lookup f = some ⟨oc, od, .func (PySem.W.fnOf x x (defArgs st) (defBody st) (defScope st) .none kV doc pm an cdv ct), osl⟩) (c : PySem.W.codeIn K cdv x = true) (k : PySem.W.keepIn K (.ref f) = true)
    (hb : ∀ (kV doc pm : Value) (an : Option Addr) (cdv ct : Value) (us : List Value), us.length = ps.length → bindArgs (PySem.W.fnOf x x (defArgs st) (defBody st) (defScope st) .none kV doc pm an cdv ct) ⟨us, []⟩ = pure (ps.zip us)) : DefF K mg x st ps :=
  ⟨f, _, PySem.W.mg_of X G a, k, (fun_mk l c k).binds hb, fun_mk l c k⟩
end
section
variable {X : Cx} {k : Nat} {ps : List Str} {sp : Sp} {x : Str} {p pos : Pos} {e : Expr} {es : List Expr} {t : TA}
theorem pe_callF (F : OkF X.prog X.w X.K X.mg X.base x k ps sp) (hr : Room k X.A) (hg : Gl X x) (ha : PA X (e :: es) t) (hdb : (x == ("__debug__" : Str)) = false := by decide)
    (he : starEach (e :: es) X.env = (false, eval e X.env) :: starEach es X.env := by rfl) (hpl : (backTo pos (starEach es X.env)).any (·.1) = false := by rfl) : PE X (.Call (.Name x p) (e :: es) [] pos) (tCall sp [] E0 t) := by
  obtain ⟨f, fd, h1, h2, h3, h4⟩ := F.ex
  exact pe_call h4 hr hg h1 h2 h3 .nil pass0 ha hdb he hpl
end

noncomputable def cmpOk (N : List Str) (outer scope : Scope) (M : List Str) (src : List (Option Nat)) : Bool :=
  (match scope.kind with | .function => true | _ => false) &&
  scope.names.all (fun y => decide (y.2 ≠ .cell)) &&
  scope.names.all (fun y => !decide (y.2 = .free) || (decide (outer.names.lookup y.1 = some .cell) || decide (outer.names.lookup y.1 = some .free))) &&
  scope.names.all (fun y => !decide (y.2 = .local) || decide (scope.names.lookup y.1 = some .local)) &&
  scope.names.all (fun y => !decide (y.2 = .free) || decide (scope.names.lookup y.1 = some .free)) &&
  decide (M.length = src.length) && decide M.Nodup &&
  (M.zip src).all (fun p => match p.2 with | none => true | some j => decide (N[j]? = some p.1) && decide ((p.1, NameKind.free) ∈ scope.names))
theorem CmpScope.of {N : List Str} {outer scope : Scope} {M : List Str} {src : List (Option Nat)} (h : cmpOk N outer scope M src = true) : CmpScope N outer scope M src := by
  unfold cmpOk at h
  simp only [Bool.and_eq_true, List.all_eq_true, Bool.or_eq_true, Bool.not_eq_true', decide_eq_true_eq, decide_eq_false_iff_not] at h
  obtain ⟨⟨⟨⟨⟨⟨⟨h1, h2⟩, h3⟩, h4⟩, h5⟩, h6⟩, h7⟩, h8⟩ := h
  refine ⟨?_, h2, fun y hy e => (h3 y hy).resolve_left fun z => z e, fun y hy e => (h4 y hy).resolve_left fun z => z e, fun y hy e => (h5 y hy).resolve_left fun z => z e, h6, h7, fun p hp j hj => ?_⟩
  · revert h1
    cases scope.kind <;> simp
  · have := h8 p hp
    cases e : p.2 with
    | none => rw [e] at hj; cases hj
    | some j' =>
      rw [e] at hj this
      cases hj
      simpa using this

noncomputable def Plain (J : It) (xs : List V) (ok : Hp → Prop) : Prop := ∀ i H, ok H → (i < xs.length → J.go i H) ∧ (i = xs.length → J.stop i H) ∧ ∀ x H', i < xs.length → J.yld i H x H' → H' = H ∧ xs[i]? = some x
theorem plain_list {K : PySem.W.Frag} {a : Addr} {xs : List V} : Plain (Itl K a) xs (fun H => SqL K H a xs) := fun i H h =>
  ⟨fun hi => ⟨xs, xs[i], h, by simp [hi]⟩, fun e => ⟨xs, h, by omega⟩, fun x H' _ y => ⟨y.1, y.2 xs h⟩⟩
theorem plain_tup {K : PySem.W.Frag} {a : Addr} {xs : List V} : Plain (Itt K a) xs (fun H => SqT K H a xs) := fun i H h =>
  ⟨fun hi => ⟨xs, xs[i], h, by simp [hi]⟩, fun e => ⟨xs, h, by omega⟩, fun x H' _ y => ⟨y.1, y.2 xs h⟩⟩
noncomputable def rangeV (lo : Int) (n : Nat) : List V := (List.range n).map fun (i : Nat) => V.int (lo + i)
theorem plain_range {lo : Int} {n : Nat} : Plain (Itr lo n) (rangeV lo n) (fun _ => True) := fun i H h => by
  refine ⟨fun hi => ?_, fun e => ?_, fun x H' hi y => ?_⟩
  · show i < n
    simpa [rangeV] using hi
  · show n ≤ i
    simp [rangeV] at e
    omega
  · obtain ⟨e, rfl⟩ := y
    refine ⟨e, ?_⟩
    unfold rangeV at hi ⊢
    rw [List.length_map, List.length_range] at hi
    rw [List.getElem?_map, List.getElem?_range hi]
    rfl
noncomputable def signV (x : Str) : List V := x.cps.toList.map fun c => V.str ⟨#[c]⟩
theorem plain_str {x : Str} : Plain (Its x) (signV x) (fun _ => True) := fun i H h => by
  refine ⟨fun hi => ?_, fun e => ?_, fun v H' hi y => ?_⟩
  · show i < x.cps.size
    simpa [signV] using hi
  · show i = x.cps.size
    simpa [signV] using e
  · obtain ⟨e, c, hc, rfl⟩ := y
    refine ⟨e, ?_⟩
    unfold signV
    rw [List.getElem?_map, Array.getElem?_toList, hc]
    rfl
noncomputable def CompW (src : List (Option Nat)) (g : TG) (tt : TT) (te : TE) (σ : St) (J : It) (H1 : Hp) (Q : VK) (D : Addr) : Prop := ∃ W : Nat → Nat → Hp → Prop, (∃ m, W 0 m (upd H1 D (.lst []))) ∧ ∀ i m H, W i m H →
  (J.stop i H ∧ Q (.ref D) H) ∨ (J.go i H ∧ ∃ N : Hp → Prop, (∀ H', N H' → ∃ m', m' < m ∧ W (i + 1) m' H') ∧ ∀ x H', J.yld i H x H' →
    g x (stC src σ) H' fun σ2 H2 => Wk (stC src σ) σ2 ∧ tt σ2 H2 fun b H3 => if b = true then te σ2 H3 fun v H4 => ∃ ys, H4 D = some (.lst ys) ∧ ys.length < sizeLine ∧ N (upd H4 D (.lst (ys ++ [v]))) else N H3)
theorem tComp_eq {src : List (Option Nat)} {wi : TI} {g : TG} {tt : TT} {te : TE} {σ : St} {H : Hp} {Q : VK} : tComp src wi g tt te σ H Q = wi σ H fun J H1 => ∀ D, H1 D = none → CompW src g tt te σ J H1 Q D := rfl
noncomputable def ForW (g : TG) (tb : TS) (D : Ends) (J : It) (σ : St) (H1 : Hp) : Prop := ∃ W : Nat → Nat → St → Hp → Prop, (∃ m, W 0 m σ H1) ∧ ∀ i m σ H, W i m σ H →
  (J.stop i H ∧ D.nx σ H) ∨ (J.go i H ∧ ∃ N : St → Hp → Prop, (∀ σ' H', N σ' H' → ∃ m', m' < m ∧ W (i + 1) m' σ' H') ∧ ∀ x H', J.yld i H x H' → g x σ H' fun σ2 H2 => tb { D with nx := N, ct := N, bk := D.nx } σ2 H2)
theorem tFor_eq {wi : TI} {g : TG} {tb : TS} {D : Ends} {σ : St} {H : Hp} : tFor wi g tb D σ H = wi σ H fun J H1 => ForW g tb D J σ H1 := rfl
theorem pe_globE {X : Cx} {x : Str} {v : V} {pos : Pos} (hg : Gl X x) (hm : ∃ u, X.mg x = some u ∧ RelV v u) (hd : (x == ("__debug__" : Str)) = false := by decide) : PE X (.Name x pos) (tC v) := by
  obtain ⟨u, h1, h2⟩ := hm
  exact pe_glob hg h1 h2 hd
end L2


namespace L2
open PySem PySem.Spec PyProof.Rows
noncomputable def relabelS (scope outer : Scope) : Scope := { scope with names := scope.names.map fun (n, k) => if (k == .free && outer.kind == .function && outer.names.lookup n == some .cell) then (n, .cell) else (n, k) }
noncomputable def nmOk (sc : Scope) (N : List Str) (i : Nat) (x : Str) : Bool :=
  decide (N[i]? = some x) && (decide (sc.names.lookup x = some .local) || (decide (sc.names.lookup x = some .cell) || decide (sc.names.lookup x = some .free))) && !(x == ("__debug__" : Str)) && !(x == ("__classdict__" : Str))
noncomputable def lcOk (sc : Scope) (x : Str) : Bool := decide (sc.names.lookup x = some .local) || decide (sc.names.lookup x = some .cell)
noncomputable def glOk (sc : Scope) (x : Str) : Bool := decide (sc.names.lookup x = some .globalImplicit) && !(x == ("__debug__" : Str)) && !decide (x = ("__name__" : Str))
section
variable {sc : Scope} {N : List Str} {i : Nat} {x : Str}
theorem nm_nth (h : nmOk sc N i x = true) : N[i]? = some x := by
  unfold nmOk at h
  simp only [Bool.and_eq_true, decide_eq_true_eq] at h
  exact h.1.1.1
theorem nm_vis (h : nmOk sc N i x = true) : Vis sc x := by
  unfold nmOk at h
  simp only [Bool.and_eq_true, Bool.or_eq_true, decide_eq_true_eq] at h
  exact h.1.1.2
theorem nm_dbg (h : nmOk sc N i x = true) : (x == ("__debug__" : Str)) = false := by
  unfold nmOk at h
  simp only [Bool.and_eq_true, Bool.not_eq_true'] at h
  exact h.1.2
theorem nm_cd (h : nmOk sc N i x = true) : (x == ("__classdict__" : Str)) = false := by
  unfold nmOk at h
  simp only [Bool.and_eq_true, Bool.not_eq_true'] at h
  exact h.2
theorem lc_loc (h : lcOk sc x = true) : Loc sc x := by
  unfold lcOk at h
  simp only [Bool.or_eq_true, decide_eq_true_eq] at h
  exact h
theorem gl_kind (h : glOk sc x = true) : sc.names.lookup x = some .globalImplicit := by
  unfold glOk at h
  simp only [Bool.and_eq_true, decide_eq_true_eq] at h
  exact h.1.1
theorem gl_dbg (h : glOk sc x = true) : (x == ("__debug__" : Str)) = false := by
  unfold glOk at h
  simp only [Bool.and_eq_true, Bool.not_eq_true'] at h
  exact h.1.2
theorem gl_name (h : glOk sc x = true) : x ≠ ("__name__" : Str) := by
  unfold glOk at h
  simp only [Bool.and_eq_true, Bool.not_eq_true', decide_eq_false_iff_not] at h
  exact h.2
end
noncomputable def ScIs (X : Cx) (sc : Scope) : Prop := X.env.scope = sc
section
variable {X : Cx} {sc : Scope} {N : List Str} {x : Str} {pos p : Pos}
theorem pvD (i : Nat) (h : nmOk sc N i x = true) (e1 : ScIs X sc := by rfl) (e2 : X.N = N := by rfl) : PE X (.Name x pos) (tVar i) := by
  have e1 : X.env.scope = sc := e1
  subst e1 e2
  exact pe_var (nm_nth h) (nm_vis h) (nm_dbg h) (nm_cd h)
theorem glD (h : glOk sc x = true) (e1 : ScIs X sc := by rfl) : Gl X x := by
  have e1 : X.env.scope = sc := e1
  subst e1
  exact gl_kind h
theorem ps_setD {i : Nat} {e : Expr} {te : TE} {pos' : Pos} (h : nmOk sc N i x = true) (hl : lcOk sc x = true) (nd : N.Nodup) (he : PE X e te) (e1 : ScIs X sc := by rfl) (e2 : X.N = N := by rfl) (hf : X.fn x = true ∨ X.env.scope.names.lookup x = some .local := by exact .inl rfl)
    (hs : swapsWith e (some (.Name x pos')) pos.line X.env = pure false := by rfl) : PS X (.Assign [.Name x pos'] e pos) (tAsg te (gName i)) := by
  have e1 : X.env.scope = sc := e1
  subst e1 e2
  exact ps_set nd (nm_nth h) (lc_loc hl) he hs hf
theorem pg_nameD {i : Nat} (h : nmOk sc N i x = true) (hl : lcOk sc x = true) (nd : N.Nodup) (e1 : ScIs X sc := by rfl) (e2 : X.N = N := by rfl) (hf : X.fn x = true ∨ X.env.scope.names.lookup x = some .local := by exact .inl rfl) : PG X (.Name x pos) (gName i) := by
  have e1 : X.env.scope = sc := e1
  subst e1 e2
  exact pg_name nd (nm_nth h) (lc_loc hl) hf
noncomputable def loOk (sc : Scope) (x : Str) : Bool := decide (sc.names.lookup x = some .local)
theorem pg_nameC {i : Nat} (h : nmOk sc N i x = true) (hl : loOk sc x = true) (nd : X.N.Nodup) (e1 : ScIs X sc) (e2 : X.N = N := by rfl) : PG X (.Name x pos) (gName i) := by
  have e1 : X.env.scope = sc := e1
  subst e1 e2
  have hl : X.env.scope.names.lookup x = some .local := of_decide_eq_true hl
  exact pg_name nd (nm_nth h) (.inl hl) (.inr hl)
theorem pe_globD {v : V} (h : glOk sc x = true) (hm : ∃ u, X.mg x = some u ∧ RelV v u) (e1 : ScIs X sc := by rfl) : PE X (.Name x pos) (tC v) := pe_globE (glD h e1) hm (gl_dbg h)
theorem pe_bltnD {v : V} {u : Value} (h : glOk sc x = true) (hm : X.mg x = none) (hv : bootBuiltins x = some u) (r : RelV v u) (e1 : ScIs X sc := by rfl) : PE X (.Name x pos) (tC v) := pe_bltn (glD h e1) hm hv r (gl_name h) (gl_dbg h)
variable {e : Expr} {es : List Expr} {t : TA} {id T : String} {r : List V → Hp → VK → Prop} {k : Nat} {ps : List Str} {sp : Sp}
theorem pe_callBD (h : glOk sc x = true) (hc : CallR X (.builtin id) r) (hm : X.mg x = none) (hv : bootBuiltins x = some (.builtin id)) (ha : PA X (e :: es) t) (e1 : ScIs X sc := by rfl)
    (he : starEach (e :: es) X.env = (false, eval e X.env) :: starEach es X.env := by rfl) (hpl : (backTo pos (starEach es X.env)).any (·.1) = false := by rfl) : PE X (.Call (.Name x p) (e :: es) [] pos) (tCB r t) :=
  pe_callB hc (glD h e1) hm hv ha (gl_name h) (gl_dbg h) he hpl
theorem pe_callTyD (h : glOk sc x = true) (hc : CallR X (.type T) r) (hm : X.mg x = none) (hv : bootBuiltins x = some (.type T)) (ha : PA X (e :: es) t) (e1 : ScIs X sc := by rfl)
    (he : starEach (e :: es) X.env = (false, eval e X.env) :: starEach es X.env := by rfl) (hpl : (backTo pos (starEach es X.env)).any (·.1) = false := by rfl) : PE X (.Call (.Name x p) (e :: es) [] pos) (tCB r t) :=
  pe_callTy hc (glD h e1) hm hv ha (gl_name h) (gl_dbg h) he hpl
theorem pe_callFD (h : glOk sc x = true) (F : OkF X.prog X.w X.K X.mg X.base x k ps sp) (hr : Room k X.A) (ha : PA X (e :: es) t) (e1 : ScIs X sc := by rfl)
    (he : starEach (e :: es) X.env = (false, eval e X.env) :: starEach es X.env := by rfl) (hpl : (backTo pos (starEach es X.env)).any (·.1) = false := by rfl) : PE X (.Call (.Name x p) (e :: es) [] pos) (tCall sp [] E0 t) :=
  pe_callF F hr (glD h e1) ha (gl_dbg h) he hpl
variable {tg a b : Expr} {ta : TA}
theorem pi_range1D (h : glOk sc "range" = true) (hm : X.mg "range" = none) (ha : PA X [a] ta) (e1 : ScIs X sc := by rfl) (hs : starEach [a] X.env = [(false, eval a X.env)] := by rfl) : PI X tg (.Call (.Name "range" p) [a] [] pos) (iRng1 ta) := pi_range1 (glD h e1) hm ha hs
end
section
variable {X : Cx} {M : List Str} {scope outer : Scope} {C : Addr} {s : Shared} {H : Hp} {ex : List Addr} {x : Str} {pos p : Pos}
theorem scC (ho : ScIs X outer) : ScIs (cxC X M scope C s H ex) (relabelS scope outer) := by
  have ho : X.env.scope = outer := ho
  subst ho
  rfl
end
end L2

namespace L2
open PySem PySem.Spec PyProof.Rows

inductive Dt where
  | non | bl (b : Bool) | int (i : Int) | str (x : Str) | tup (l : List Dt) | lst (l : List Dt) | dct (ks : List Key) (l : List Dt) | dcT (ks : List (List Key)) (l : List Dt)

mutual
noncomputable def peq : Dt → Dt → Bool
  | .non, .non => true
  | .bl a, .bl b => a == b
  | .bl a, .int j => (if a then (1 : Int) else 0) == j
  | .int i, .bl b => i == (if b then (1 : Int) else 0)
  | .int i, .int j => i == j
  | .str x, .str y => x == y
  | .tup l, .tup m => peqs l m
  | .lst l, .lst m => peqs l m
  | .dct ks l, .dct js m => decide (ks = js) && peqs l m
  | .dcT ks l, .dcT js m => decide (ks = js) && peqs l m
  | _, _ => false
noncomputable def peqs : List Dt → List Dt → Bool
  | [], [] => true
  | d :: l, e :: m => peq d e && peqs l m
  | _, _ => false
end
mutual
theorem peq_self : ∀ d : Dt, peq d d = true
  | .non => by simp [peq]
  | .bl b => by simp [peq]
  | .int i => by simp [peq]
  | .str x => by simp [peq]
  | .tup l => by simp only [peq]; exact peqs_self l
  | .lst l => by simp only [peq]; exact peqs_self l
  | .dct ks l => by simp only [peq, decide_true, Bool.true_and]; exact peqs_self l
  | .dcT ks l => by simp only [peq, decide_true, Bool.true_and]; exact peqs_self l
theorem peqs_self : ∀ l : List Dt, peqs l l = true
  | [] => by simp [peqs]
  | d :: l => by simp only [peqs, peq_self d, peqs_self l, Bool.and_self]
end
mutual
noncomputable def deep : Dt → Nat
  | .tup l => deeps l + 1
  | .lst l => deeps l + 1
  | _ => 0
noncomputable def deeps : List Dt → Nat
  | [] => 0
  | d :: l => max (deep d) (deeps l)
end
mutual
noncomputable def Rep (K : PySem.W.Frag) (H : Hp) : Dt → V → Prop
  | .non, v => v = .non
  | .bl b, v => v = .bl b
  | .int i, v => v = .int i
  | .str x, v => v = .str x
  | .tup l, v => ∃ a vs, v = .ref a ∧ SqT K H a vs ∧ Reps K H l vs
  | .lst l, v => ∃ a vs, v = .ref a ∧ SqL K H a vs ∧ Reps K H l vs
  | .dct ks l, v => ∃ a kvs, v = .ref a ∧ Rd H a (.dK kvs) ∧ kvs.map (·.1) = ks ∧ Reps K H l (kvs.map (·.2))
  | .dcT ks l, v => ∃ a kvs, v = .ref a ∧ Rd H a (.dT kvs) ∧ kvs.map (·.1) = ks ∧ Reps K H l (kvs.map (·.2))
noncomputable def Reps (K : PySem.W.Frag) (H : Hp) : List Dt → List V → Prop
  | [], vs => vs = []
  | d :: l, vs => ∃ v ws, vs = v :: ws ∧ Rep K H d v ∧ Reps K H l ws
end
theorem Same.tup {K : PySem.W.Frag} {H H' : Hp} {a : Addr} {xs : List V} (e : Same H H') (h : SqT K H a xs) : SqT K H' a xs := by
  rcases h with h | h
  · exact .inl (e _ _ h)
  · exact .inr h
theorem Same.rd {H H' : Hp} {a : Addr} {u : HO} (e : Same H H') (h : Rd H a u) : Rd H' a u := by
  rcases h with h | ⟨o, h⟩
  · exact .inl (e _ _ h)
  · exact .inr ⟨o, e _ _ h⟩
mutual
theorem Rep.same {K : PySem.W.Frag} {H H' : Hp} (e : Same H H') : ∀ {d : Dt} {v : V}, Rep K H d v → Rep K H' d v
  | .non, v, h => h
  | .bl _, v, h => h
  | .int _, v, h => h
  | .str _, v, h => h
  | .tup l, v, h => by
    unfold Rep at h ⊢
    obtain ⟨a, vs, h1, h2, h3⟩ := h
    exact ⟨a, vs, h1, e.tup h2, Reps.same e h3⟩
  | .lst l, v, h => by
    unfold Rep at h ⊢
    obtain ⟨a, vs, h1, h2, h3⟩ := h
    exact ⟨a, vs, h1, e.seq h2, Reps.same e h3⟩
  | .dct ks l, v, h => by
    unfold Rep at h ⊢
    obtain ⟨a, vs, h1, h2, h3, h4⟩ := h
    exact ⟨a, vs, h1, e.rd h2, h3, Reps.same e h4⟩
  | .dcT ks l, v, h => by
    unfold Rep at h ⊢
    obtain ⟨a, vs, h1, h2, h3, h4⟩ := h
    exact ⟨a, vs, h1, e.rd h2, h3, Reps.same e h4⟩
theorem Reps.same {K : PySem.W.Frag} {H H' : Hp} (e : Same H H') : ∀ {l : List Dt} {vs : List V}, Reps K H l vs → Reps K H' l vs
  | [], vs, h => h
  | d :: l, vs, h => by
    unfold Reps at h ⊢
    obtain ⟨v, ws, h1, h2, h3⟩ := h
    exact ⟨v, ws, h1, Rep.same e h2, Reps.same e h3⟩
end
theorem Reps.length {K : PySem.W.Frag} {H : Hp} : ∀ {l : List Dt} {vs : List V}, Reps K H l vs → vs.length = l.length
  | [], vs, h => by unfold Reps at h; rw [h]; rfl
  | d :: l, vs, h => by
    unfold Reps at h
    obtain ⟨v, ws, rfl, _, h3⟩ := h
    simp [Reps.length h3]
theorem Reps.get {K : PySem.W.Frag} {H : Hp} : ∀ {l : List Dt} {vs : List V} {i : Nat} {d : Dt}, Reps K H l vs → l[i]? = some d → ∃ v, vs[i]? = some v ∧ Rep K H d v
  | [], vs, i, d, h, e => by simp at e
  | d0 :: l, vs, 0, d, h, e => by
    unfold Reps at h
    obtain ⟨v, ws, rfl, h2, _⟩ := h
    simp at e
    subst e
    exact ⟨v, rfl, h2⟩
  | d0 :: l, vs, i + 1, d, h, e => by
    unfold Reps at h
    obtain ⟨v, ws, rfl, _, h3⟩ := h
    obtain ⟨u, e1, e2⟩ := Reps.get (i := i) h3 (by simpa using e)
    exact ⟨u, by simpa using e1, e2⟩
theorem Reps.append {K : PySem.W.Frag} {H : Hp} : ∀ {l m : List Dt} {vs ws : List V}, Reps K H l vs → Reps K H m ws → Reps K H (l ++ m) (vs ++ ws)
  | [], m, vs, ws, h, h' => by unfold Reps at h; rw [h]; exact h'
  | d :: l, m, vs, ws, h, h' => by
    unfold Reps at h
    obtain ⟨v, us, rfl, h2, h3⟩ := h
    show Reps K H (d :: (l ++ m)) (v :: (us ++ ws))
    unfold Reps
    exact ⟨v, _, rfl, h2, Reps.append h3 h'⟩
theorem Reps.one {K : PySem.W.Frag} {H : Hp} {d : Dt} {v : V} (h : Rep K H d v) : Reps K H [d] [v] := by
  unfold Reps
  exact ⟨v, [], rfl, h, by unfold Reps; rfl⟩
theorem Reps.take {K : PySem.W.Frag} {H : Hp} : ∀ {l : List Dt} {vs : List V} (n : Nat), Reps K H l vs → Reps K H (l.take n) (vs.take n)
  | _, _, 0, _ => by simp [Reps]
  | [], vs, n + 1, h => by unfold Reps at h; rw [h]; simp [Reps]
  | d :: l, vs, n + 1, h => by
    unfold Reps at h
    obtain ⟨v, us, rfl, h2, h3⟩ := h
    show Reps K H (d :: l.take n) (v :: us.take n)
    unfold Reps
    exact ⟨v, _, rfl, h2, Reps.take n h3⟩
theorem Reps.drop {K : PySem.W.Frag} {H : Hp} : ∀ {l : List Dt} {vs : List V} (n : Nat), Reps K H l vs → Reps K H (l.drop n) (vs.drop n)
  | _, _, 0, h => h
  | [], vs, n + 1, h => by unfold Reps at h; rw [h]; simp [Reps]
  | d :: l, vs, n + 1, h => by
    unfold Reps at h
    obtain ⟨v, us, rfl, h2, h3⟩ := h
    exact Reps.drop n h3
section
variable {X : Cx} {pins : List (Addr × Obj)} {σ : St} {H : Hp} {s : Shared} {K : PySem.W.Frag}
theorem Inv.notBoth {a : Addr} {xs ys : List V} (I : Inv X pins σ H s) (h : SqL X.K H a xs) (h' : SqT X.K H a ys) : False := by
  obtain ⟨its, r, pl, _⟩ := I.list h
  obtain ⟨its', r', pt, _⟩ := I.tuple h'
  obtain ⟨o, n, e, hc, _⟩ := pl
  obtain ⟨o', e', hc', _⟩ := pt
  rw [e] at e'
  cases e'
  rw [hc] at hc'
  injection hc' with z
  exact absurd z (by decide)
theorem rd_dK {a : Addr} {u w : List (Key × V)} (h : Rd H a (.dK u)) (h' : Rd H a (.dK w)) : u = w := by
  rcases h with h | ⟨o, h⟩ <;> rcases h' with h' | ⟨o', h'⟩ <;> rw [h] at h' <;> cases h' <;> rfl
theorem rd_dT {a : Addr} {u w : List (List Key × V)} (h : Rd H a (.dT u)) (h' : Rd H a (.dT w)) : u = w := by
  rcases h with h | ⟨o, h⟩ <;> rcases h' with h' | ⟨o', h'⟩ <;> rw [h] at h' <;> cases h' <;> rfl
theorem rd_some {a : Addr} {u : HO} (h : Rd H a u) : ∃ o, H a = some o := by
  rcases h with h | ⟨o, h⟩
  · exact ⟨_, h⟩
  · exact ⟨_, h⟩
theorem Inv.kNone (I : Inv X pins σ H s) {a : Addr} {o : Obj} (h : X.K.lookup a = some o) : H a = none := (I.bs a o (I.ok.mod.kin a o h)).2
theorem Inv.sqT_dK (I : Inv X pins σ H s) {a : Addr} {xs : List V} {u : List (Key × V)} (h : SqT X.K H a xs) (h' : Rd H a (.dK u)) : False := by
  rcases h with h | ⟨o, _, _, h, _⟩
  · rcases h' with h' | ⟨o', h'⟩ <;> rw [h] at h' <;> cases h'
  · obtain ⟨o', e⟩ := rd_some h'
    rw [I.kNone h] at e
    cases e
theorem Inv.sqT_dT (I : Inv X pins σ H s) {a : Addr} {xs : List V} {u : List (List Key × V)} (h : SqT X.K H a xs) (h' : Rd H a (.dT u)) : False := by
  rcases h with h | ⟨o, _, _, h, _⟩
  · rcases h' with h' | ⟨o', h'⟩ <;> rw [h] at h' <;> cases h'
  · obtain ⟨o', e⟩ := rd_some h'
    rw [I.kNone h] at e
    cases e
theorem Inv.sqL_dK (I : Inv X pins σ H s) {a : Addr} {xs : List V} {u : List (Key × V)} (h : SqL X.K H a xs) (h' : Rd H a (.dK u)) : False := by
  rcases h with h | ⟨o, _, _, h, _⟩
  · rcases h with h | ⟨o, h⟩ <;> rcases h' with h' | ⟨o', h'⟩ <;> rw [h] at h' <;> cases h'
  · obtain ⟨o', e⟩ := rd_some h'
    rw [I.kNone h] at e
    cases e
theorem Inv.sqL_dT (I : Inv X pins σ H s) {a : Addr} {xs : List V} {u : List (List Key × V)} (h : SqL X.K H a xs) (h' : Rd H a (.dT u)) : False := by
  rcases h with h | ⟨o, _, _, h, _⟩
  · rcases h with h | ⟨o, h⟩ <;> rcases h' with h' | ⟨o', h'⟩ <;> rw [h] at h' <;> cases h'
  · obtain ⟨o', e⟩ := rd_some h'
    rw [I.kNone h] at e
    cases e
theorem rd_dKT {a : Addr} {u : List (Key × V)} {w : List (List Key × V)} (h : Rd H a (.dK u)) (h' : Rd H a (.dT w)) : False := by
  rcases h with h | ⟨o, h⟩ <;> rcases h' with h' | ⟨o', h'⟩ <;> rw [h] at h' <;> cases h'
noncomputable def kindD : Dt → Nat
  | .non => 0
  | .bl _ => 1
  | .int _ => 2
  | .str _ => 3
  | .tup _ => 4
  | .lst _ => 5
  | .dct _ _ => 6
  | .dcT _ _ => 7
theorem rep_kind (I : Inv X pins σ H s) {d e : Dt} {v : V} (h : Rep X.K H d v) (h' : Rep X.K H e v) : kindD d = kindD e := by
  cases d <;> cases e <;> first
    | rfl
    | (simp only [Rep] at h h'; subst h; cases h'; done)
    | (simp only [Rep] at h h'; obtain ⟨_, _, e, _⟩ := h'; rw [h] at e; cases e; done)
    | (simp only [Rep] at h h'; obtain ⟨_, _, e, _⟩ := h; rw [h'] at e; cases e; done)
    | (simp only [Rep] at h h'; obtain ⟨_, _, rfl, h2, _⟩ := h; obtain ⟨_, _, e, h2', _⟩ := h'; cases e
       first
         | exact (I.sqT_dK h2 h2').elim
         | exact (I.sqT_dK h2' h2).elim
         | exact (I.sqT_dT h2 h2').elim
         | exact (I.sqT_dT h2' h2).elim
         | exact (I.notBoth h2 h2').elim
         | exact (I.notBoth h2' h2).elim
         | exact (I.sqL_dK h2 h2').elim
         | exact (I.sqL_dK h2' h2).elim
         | exact (I.sqL_dT h2 h2').elim
         | exact (I.sqL_dT h2' h2).elim
         | exact (rd_dKT h2 h2').elim
         | exact (rd_dKT h2' h2).elim)
mutual
theorem rep_inj (I : Inv X pins σ H s) : ∀ (d e : Dt) (v : V), Rep X.K H d v → Rep X.K H e v → peq d e = true := fun d => by
  match d with
  | .tup l =>
    intro e v h h'
    have hk := rep_kind I h h'
    cases e <;> first | (simp [kindD] at hk; done) | skip
    simp only [Rep] at h h'
    obtain ⟨a, vs, rfl, h2, h3⟩ := h
    obtain ⟨b, ws, e, h2', h3'⟩ := h'
    cases e
    have := I.tuple_inj h2 h2'
    subst this
    simp only [peq]
    exact reps_inj I l _ _ h3 h3'
  | .lst l =>
    intro e v h h'
    have hk := rep_kind I h h'
    cases e <;> first | (simp [kindD] at hk; done) | skip
    simp only [Rep] at h h'
    obtain ⟨a, vs, rfl, h2, h3⟩ := h
    obtain ⟨b, ws, e, h2', h3'⟩ := h'
    cases e
    have := I.list_inj h2 h2'
    subst this
    simp only [peq]
    exact reps_inj I l _ _ h3 h3'
  | .dct ks l =>
    intro e v h h'
    have hk := rep_kind I h h'
    cases e <;> first | (simp [kindD] at hk; done) | skip
    simp only [Rep] at h h'
    obtain ⟨a, vs, rfl, h2, h3, h4⟩ := h
    obtain ⟨b, ws, e, h2', h3', h4'⟩ := h'
    cases e
    have := rd_dK h2 h2'
    subst this
    subst h3 h3'
    simp only [peq, decide_true, Bool.true_and]
    exact reps_inj I l _ _ h4 h4'
  | .dcT ks l =>
    intro e v h h'
    have hk := rep_kind I h h'
    cases e <;> first | (simp [kindD] at hk; done) | skip
    simp only [Rep] at h h'
    obtain ⟨a, vs, rfl, h2, h3, h4⟩ := h
    obtain ⟨b, ws, e, h2', h3', h4'⟩ := h'
    cases e
    have := rd_dT h2 h2'
    subst this
    subst h3 h3'
    simp only [peq, decide_true, Bool.true_and]
    exact reps_inj I l _ _ h4 h4'
  | .non =>
    intro e v h h'
    have hk := rep_kind I h h'
    cases e <;> first | (simp [kindD] at hk; done) | simp only [peq]
  | .bl b =>
    intro e v h h'
    have hk := rep_kind I h h'
    cases e <;> first | (simp [kindD] at hk; done) | (simp only [Rep] at h h'; rw [h] at h'; cases h'; exact peq_self _)
  | .int b =>
    intro e v h h'
    have hk := rep_kind I h h'
    cases e <;> first | (simp [kindD] at hk; done) | (simp only [Rep] at h h'; rw [h] at h'; cases h'; exact peq_self _)
  | .str b =>
    intro e v h h'
    have hk := rep_kind I h h'
    cases e <;> first | (simp [kindD] at hk; done) | (simp only [Rep] at h h'; rw [h] at h'; cases h'; exact peq_self _)
theorem reps_inj (I : Inv X pins σ H s) : ∀ (l m : List Dt) (vs : List V), Reps X.K H l vs → Reps X.K H m vs → peqs l m = true := fun l => by
  match l with
  | [] =>
    intro m vs h h'
    cases m with
    | nil => simp only [peqs]
    | cons e m => unfold Reps at h h'; obtain ⟨v, ws, e, _⟩ := h'; rw [h] at e; cases e
  | d :: l =>
    intro m vs h h'
    cases m with
    | nil => unfold Reps at h h'; obtain ⟨v, ws, e, _⟩ := h; rw [h'] at e; cases e
    | cons e m =>
      unfold Reps at h h'
      obtain ⟨v, ws, rfl, h2, h3⟩ := h
      obtain ⟨v', ws', e', h2', h3'⟩ := h'
      cases e'
      simp only [peqs, rep_inj I d _ _ h2 h2', reps_inj I l _ _ h3 h3', Bool.and_self]
end
end
end L2

namespace L2
open PySem PySem.Spec PyProof.Rows
mutual
noncomputable def cmpb : Dt → Dt → Bool
  | .tup l, .tup m => cmpbs l m
  | .lst l, .lst m => cmpbs l m
  | d, e => decide (kindD d < 4) && decide (kindD e < 4)
noncomputable def cmpbs : List Dt → List Dt → Bool
  | d :: l, e :: m => cmpb d e && cmpbs l m
  | _, _ => true
end
theorem cmpbs_get : ∀ {l m : List Dt} {j : Nat} {d e : Dt}, cmpbs l m = true → l[j]? = some d → m[j]? = some e → cmpb d e = true
  | [], _, j, d, e, _, h, _ => by simp at h
  | _ :: _, [], j, d, e, _, _, h => by simp at h
  | d0 :: l, e0 :: m, 0, d, e, h, h1, h2 => by
    simp only [cmpbs, Bool.and_eq_true] at h
    simp at h1 h2
    subst h1 h2
    exact h.1
  | d0 :: l, e0 :: m, j + 1, d, e, h, h1, h2 => by
    simp only [cmpbs, Bool.and_eq_true] at h
    exact cmpbs_get (j := j) h.2 (by simpa using h1) (by simpa using h2)
theorem deep_get : ∀ {l : List Dt} {j : Nat} {d : Dt}, l[j]? = some d → deep d ≤ deeps l
  | [], j, d, h => by simp at h
  | d0 :: l, 0, d, h => by
    simp at h
    subst h
    simp only [deeps]
    exact Nat.le_max_left ..
  | d0 :: l, j + 1, d, h => by
    simp only [deeps]
    exact Nat.le_trans (deep_get (j := j) (by simpa using h)) (Nat.le_max_right ..)
noncomputable def peqAt (l m : List Dt) (j : Nat) : Bool := peq (l.getD j .non) (m.getD j .non)
theorem peqs_range : ∀ (l m : List Dt), peqs l m = ((List.range (min l.length m.length)).all (peqAt l m) && l.length == m.length)
  | [], [] => by simp [peqs]
  | [], _ :: _ => by simp [peqs]
  | _ :: _, [] => by simp [peqs]
  | d :: l, e :: m => by
    have ih := peqs_range l m
    simp only [peqs, ih, List.length_cons]
    rw [show min (l.length + 1) (m.length + 1) = min l.length m.length + 1 by omega, List.range_succ_eq_map, List.all_cons, List.all_map]
    have e1 : peqAt (d :: l) (e :: m) 0 = peq d e := rfl
    have e2 : (peqAt (d :: l) (e :: m) ∘ Nat.succ) = peqAt l m := by
      funext j
      rfl
    have e3 : (l.length + 1 == m.length + 1) = (l.length == m.length) := by
      rw [Bool.eq_iff_iff]
      simp
    rw [e1, e2, e3, Bool.and_assoc]
section
variable {X : Cx} {pins : List (Addr × Obj)} {σ : St} {H : Hp} {s : Shared}
theorem items_get {l : List Dt} {vs : List V} {its : List Value} (h : Reps X.K H l vs) (r : Vals vs its) {j : Nat} (hj : j < its.length) : ∃ d v, l[j]? = some d ∧ Rep X.K H d v ∧ RelV v its[j] := by
  have hl : j < l.length := by rw [← h.length, r.length]; exact hj
  obtain ⟨v, e1, e2⟩ := h.get (i := j) (d := l[j]) (by simp [hl])
  obtain ⟨u, e3, e4⟩ := r.get e1
  have : its[j] = u := by
    have := List.getElem?_eq_getElem hj
    rw [this] at e3
    exact Option.some.inj e3
  exact ⟨l[j], v, by simp [hl], e2, by rw [this]; exact e4⟩
theorem eqAtD (I : Inv X pins σ H s) : ∀ (n : Nat) {A : Around} {d e : Dt} {v w : V} {u u' : Value}, deep d ≤ n → A.units + n < cLine → cmpb d e = true → Rep X.K H d v → Rep X.K H e w → RelV v u → RelV w u' → SeqAt.EqAt A s u u' (peq d e) := by
  intro n
  induction n with
  | zero =>
    intro A d e v w u u' hd hu hc h h' r r'
    cases d <;> cases e <;> first
      | (simp only [Rep] at h h'; subst h h'; exact eqAt_V r r' rfl rfl)
      | (simp only [deep] at hd; omega)
      | (simp [cmpb, kindD] at hc)
  | succ n ih =>
    intro A d e v w u u' hd hu hc h h' r r'
    cases d with
    | tup l =>
      cases e with
      | tup m =>
        have h0 := h
        have h0' := h'
        simp only [Rep] at h h'
        obtain ⟨a, vs, rfl, h2, h3⟩ := h
        obtain ⟨b, ws, rfl, h2', h3'⟩ := h'
        cases r
        cases r'
        by_cases hab : a = b
        · subst hab
          have := rep_inj I _ _ _ h0 h0'
          rw [this]
          exact SeqAt.EqAt.same _
        obtain ⟨its, rv, pt, _⟩ := I.tuple h2
        obtain ⟨its', rv', pt', _⟩ := I.tuple h2'
        have n1 : its.length = l.length := by rw [← h3.length, rv.length]
        have n2 : its'.length = m.length := by rw [← h3'.length, rv'.length]
        simp only [peq]
        rw [peqs_range, ← n1, ← n2]
        simp only [deep] at hd
        simp only [cmpb] at hc
        have key := SeqAt.RcAt.tuples (A := A) (e := peqAt l m) pt pt' (by omega) (fun j h1 h2 => by
          have h1' : j < its.length := by simpa using h1
          have h2' : j < its'.length := by simpa using h2
          obtain ⟨d, v, g1, g2, g3⟩ := items_get h3 rv h1'
          obtain ⟨e, w, g1', g2', g3'⟩ := items_get h3' rv' h2'
          have : peqAt l m j = peq d e := by unfold peqAt; rw [List.getD_eq_getElem?_getD, List.getD_eq_getElem?_getD, g1, g1']; rfl
          rw [this]
          have := ih (A := A.in1) (Nat.le_trans (deep_get g1) (by omega)) (show A.units + 1 + n < cLine by omega) (cmpbs_get hc g1 g1') g2 g2' g3 g3'
          simpa using this)
        have key' : SeqAt.RcAt A s (.ref a) (.ref b) ((List.range (min its.length its'.length)).all (peqAt l m) && its.length == its'.length) := by simpa using key
        exact SeqAt.EqAt.of_refs hab key'
      | _ => exact absurd hc (by simp [cmpb, kindD])
    | lst l =>
      cases e with
      | lst m =>
        have h0 := h
        have h0' := h'
        simp only [Rep] at h h'
        obtain ⟨a, vs, rfl, h2, h3⟩ := h
        obtain ⟨b, ws, rfl, h2', h3'⟩ := h'
        cases r
        cases r'
        by_cases hab : a = b
        · subst hab
          have := rep_inj I _ _ _ h0 h0'
          rw [this]
          exact SeqAt.EqAt.same _
        obtain ⟨its, rv, pt, _⟩ := I.list h2
        obtain ⟨its', rv', pt', _⟩ := I.list h2'
        have n1 : its.length = l.length := by rw [← h3.length, rv.length]
        have n2 : its'.length = m.length := by rw [← h3'.length, rv'.length]
        simp only [peq]
        rw [peqs_range, ← n1, ← n2]
        simp only [deep] at hd
        simp only [cmpb] at hc
        by_cases hlen : its.length = its'.length
        · have key := SeqAt.RcAt.lists (A := A) (e := peqAt l m) pt.isList pt'.isList (by simpa using hlen) (by omega) (fun j h1 h2 => by
            have h1' : j < its.length := by simpa using h1
            have h2' : j < its'.length := by simpa using h2
            obtain ⟨d, v, g1, g2, g3⟩ := items_get h3 rv h1'
            obtain ⟨e, w, g1', g2', g3'⟩ := items_get h3' rv' h2'
            have : peqAt l m j = peq d e := by unfold peqAt; rw [List.getD_eq_getElem?_getD, List.getD_eq_getElem?_getD, g1, g1']; rfl
            rw [this]
            have := ih (A := A.in1) (Nat.le_trans (deep_get g1) (by omega)) (show A.units + 1 + n < cLine by omega) (cmpbs_get hc g1 g1') g2 g2' g3 g3'
            simpa using this)
          have e1 : (its.length == its'.length) = true := by simpa using hlen
          rw [e1, Bool.and_true, show min its.length its'.length = its.length by omega]
          exact SeqAt.EqAt.of_refs hab (by simpa using key)
        · have e1 : (its.length == its'.length) = false := by simpa using hlen
          rw [e1, Bool.and_false]
          exact SeqAt.EqAt.of_refs hab (SeqAt.RcAt.lists_lengths pt.isList pt'.isList (by simpa using hlen) (by omega))
      | _ => exact absurd hc (by simp [cmpb, kindD])
    | non => cases e <;> first | (simp only [Rep] at h h'; subst h h'; exact eqAt_V r r' rfl rfl) | (simp [cmpb, kindD] at hc)
    | bl b => cases e <;> first | (simp only [Rep] at h h'; subst h h'; exact eqAt_V r r' rfl rfl) | (simp [cmpb, kindD] at hc)
    | int b => cases e <;> first | (simp only [Rep] at h h'; subst h h'; exact eqAt_V r r' rfl rfl) | (simp [cmpb, kindD] at hc)
    | str b => cases e <;> first | (simp only [Rep] at h h'; subst h h'; exact eqAt_V r r' rfl rfl) | (simp [cmpb, kindD] at hc)
    | dct ks l => cases e <;> (simp [cmpb, kindD] at hc)
    | dcT ks l => cases e <;> (simp [cmpb, kindD] at hc)
theorem rcAtD (I : Inv X pins σ H s) {A : Around} {d e : Dt} {v w : V} {u u' : Value} (hq : (∃ l m, d = .tup l ∧ e = .tup m) ∨ ∃ l m, d = .lst l ∧ e = .lst m) (hu : A.units + deep d < cLine) (hc : cmpb d e = true) (h : Rep X.K H d v) (h' : Rep X.K H e w) (r : RelV v u) (r' : RelV w u') :
    SeqAt.RcAt A s u u' (peq d e) ∧ SeqAt.RcNeAt A s u u' (!peq d e) := by
  rcases hq with ⟨l, m, rfl, rfl⟩ | ⟨l, m, rfl, rfl⟩
  · simp only [Rep] at h h'
    obtain ⟨a, vs, rfl, h2, h3⟩ := h
    obtain ⟨b, ws, rfl, h2', h3'⟩ := h'
    cases r
    cases r'
    obtain ⟨its, rv, pt, _⟩ := I.tuple h2
    obtain ⟨its', rv', pt', _⟩ := I.tuple h2'
    have n1 : its.length = l.length := by rw [← h3.length, rv.length]
    have n2 : its'.length = m.length := by rw [← h3'.length, rv'.length]
    simp only [peq]
    rw [peqs_range, ← n1, ← n2]
    simp only [deep] at hu
    simp only [cmpb] at hc
    have he : ∀ j (h1 : j < its.toArray.size) (h2 : j < its'.toArray.size), SeqAt.EqAt A.in1 s its.toArray[j] its'.toArray[j] (peqAt l m j) := fun j h1 h2 => by
      have h1' : j < its.length := by simpa using h1
      have h2' : j < its'.length := by simpa using h2
      obtain ⟨d, v, g1, g2, g3⟩ := items_get h3 rv h1'
      obtain ⟨e, w, g1', g2', g3'⟩ := items_get h3' rv' h2'
      have : peqAt l m j = peq d e := by unfold peqAt; rw [List.getD_eq_getElem?_getD, List.getD_eq_getElem?_getD, g1, g1']; rfl
      rw [this]
      have := eqAtD I (deeps l) (A := A.in1) (deep_get g1) (show A.units + 1 + deeps l < cLine by omega) (cmpbs_get hc g1 g1') g2 g2' g3 g3'
      simpa using this
    exact ⟨by simpa using SeqAt.RcAt.tuples (A := A) (e := peqAt l m) pt pt' (by omega) he, by simpa using SeqAt.RcNeAt.tuples (A := A) (e := peqAt l m) pt pt' (by omega) he⟩
  · simp only [Rep] at h h'
    obtain ⟨a, vs, rfl, h2, h3⟩ := h
    obtain ⟨b, ws, rfl, h2', h3'⟩ := h'
    cases r
    cases r'
    obtain ⟨its, rv, pt, _⟩ := I.list h2
    obtain ⟨its', rv', pt', _⟩ := I.list h2'
    have n1 : its.length = l.length := by rw [← h3.length, rv.length]
    have n2 : its'.length = m.length := by rw [← h3'.length, rv'.length]
    simp only [peq]
    rw [peqs_range, ← n1, ← n2]
    simp only [deep] at hu
    simp only [cmpb] at hc
    by_cases hlen : its.length = its'.length
    · have he : ∀ j (h1 : j < its.toArray.size) (h2 : j < its'.toArray.size), SeqAt.EqAt A.in1 s its.toArray[j] its'.toArray[j] (peqAt l m j) := fun j h1 h2 => by
        have h1' : j < its.length := by simpa using h1
        have h2' : j < its'.length := by simpa using h2
        obtain ⟨d, v, g1, g2, g3⟩ := items_get h3 rv h1'
        obtain ⟨e, w, g1', g2', g3'⟩ := items_get h3' rv' h2'
        have : peqAt l m j = peq d e := by unfold peqAt; rw [List.getD_eq_getElem?_getD, List.getD_eq_getElem?_getD, g1, g1']; rfl
        rw [this]
        have := eqAtD I (deeps l) (A := A.in1) (deep_get g1) (show A.units + 1 + deeps l < cLine by omega) (cmpbs_get hc g1 g1') g2 g2' g3 g3'
        simpa using this
      have e1 : (its.length == its'.length) = true := by simpa using hlen
      rw [e1, Bool.and_true, show min its.length its'.length = its.length by omega]
      exact ⟨by simpa using SeqAt.RcAt.lists (A := A) (e := peqAt l m) pt.isList pt'.isList (by simpa using hlen) (by omega) he, by simpa using SeqAt.RcNeAt.lists (A := A) (e := peqAt l m) pt.isList pt'.isList (by simpa using hlen) (by omega) he⟩
    · have e1 : (its.length == its'.length) = false := by simpa using hlen
      rw [e1, Bool.and_false]
      exact ⟨SeqAt.RcAt.lists_lengths pt.isList pt'.isList (by simpa using hlen) (by omega), SeqAt.RcNeAt.lists_lengths pt.isList pt'.isList (by simpa using hlen) (by omega)⟩
noncomputable def rEqD (K : PySem.W.Frag) (neg : Bool) : R2 := fun x y H Q => ∃ d e, ((∃ l m, d = .tup l ∧ e = .tup m) ∨ ∃ l m, d = .lst l ∧ e = .lst m) ∧ Rep K H d x ∧ Rep K H e y ∧ cmpb d e = true ∧ deep d ≤ 60 ∧ Q (.bl (if neg then !peq d e else peq d e)) H
theorem op_eqD {K : PySem.W.Frag} {k : Nat} (hr : Room k X.A) (hK : X.K = K) : OpR X (compareOp .Eq) (rEqD K false) := by
  subst hK
  intro pins s σ H x y v u Q I rx ry h
  obtain ⟨d, e, hq, hd, he, hc, hdp, q⟩ := h
  have hu := hr.units
  exact (rcAtD I hq (by omega) hc hd he rx ry).1 _ _ _ _ ⟨.bl (peq d e), H, I, rfl, q⟩
theorem op_neD {K : PySem.W.Frag} {k : Nat} (hr : Room k X.A) (hK : X.K = K) : OpR X (compareOp .NotEq) (rEqD K true) := by
  subst hK
  intro pins s σ H x y v u Q I rx ry h
  obtain ⟨d, e, hq, hd, he, hc, hdp, q⟩ := h
  have hu := hr.units
  exact (rcAtD I hq (by omega) hc hd he rx ry).2 _ _ _ _ ⟨.bl (!peq d e), H, I, rfl, q⟩
end
end L2

namespace L2
open PySem PySem.Spec PyProof.Rows
noncomputable abbrev NT (o : HO) : Prop := ∀ vs, o ≠ .tup vs
structure Step (F H F' H' : Hp) : Prop where
  hh : Same H H'
  ff : Same F F'
  fh : Same F' H'
  nw : ∀ b o, F' b = some o → F b = some o ∨ H b = none ∨ ∃ vs, H b = some (.tup vs)
section
variable {F H F' H' F1 H1 : Hp} {p : Addr} {o : HO}
theorem Step.refl (h : Same F H) : Step F H F H := ⟨Same.refl _, Same.refl _, h, fun _ _ e => .inl e⟩
theorem Step.trans (a : Step F H F1 H1) (b : Step F1 H1 F' H') : Step F H F' H' :=
  ⟨a.hh.trans b.hh, a.ff.trans b.ff, b.fh, fun c o e => by
    rcases b.nw c o e with z | z | ⟨vs, z⟩
    · exact a.nw c o z
    · exact .inr (.inl (a.hh.free z))
    · cases q : H c with
      | none => exact .inr (.inl rfl)
      | some u =>
        have := a.hh c u q
        rw [z] at this
        cases this
        exact .inr (.inr ⟨vs, rfl⟩)⟩
theorem Same.upd (hp : H p = none) : Same H (upd H p o) := fun b u e => by
  rw [upd_ne (ne_of_none e hp)]
  exact e
theorem Step.new (h : Same F H) (hp : H p = none) : Step F H (upd F p o) (upd H p o) where
  hh := Same.upd hp
  ff := Same.upd (h.free hp)
  fh := fun b u e => by
    by_cases hb : b = p
    · subst hb
      rw [upd_same] at e ⊢
      exact e
    · rw [upd_ne hb] at e ⊢
      exact h _ _ e
  nw := fun b u e => by
    by_cases hb : b = p
    · subst hb
      exact .inr (.inl hp)
    · rw [upd_ne hb] at e
      exact .inl e
theorem Step.keepN {b : Addr} {u : HO} (st : Step F H F' H') (hF : F b = none) (hH : H b = some u) (nt : NT u := by intro _ z; cases z) : F' b = none := by
  cases q : F' b with
  | none => rfl
  | some o' =>
    rcases st.nw b o' q with z | z | ⟨vs, z⟩
    · rw [hF] at z; cases z
    · rw [hH] at z; cases z
    · rw [hH] at z; cases z; exact absurd rfl (nt vs)
theorem Step.made (h : Same F H) (hp : H p = none) : Step F H F (upd H p o) where
  hh := Same.upd hp
  ff := Same.refl _
  fh := h.trans (Same.upd hp)
  nw := fun b u e => .inl e
end
noncomputable def clsOf (K : PySem.W.Frag) (c : Str) : Option Addr := match PySem.W.nsIn K mainGlobals c with
  | some (some (.ref C)) => some C
  | _ => none
noncomputable def RepX (K : PySem.W.Frag) (F : Hp) (c : Str) (l : List (Str × Dt)) (v : V) : Prop := ∃ x C D f dx vs, v = .ref x ∧ clsOf K c = some C ∧ clsOf K "DimError" = some D ∧ XCl K C D f ∧ (∀ g ∈ l.map (·.1), NoAttr K C g) ∧
  F x = some (XC x C dx) ∧ F dx = some (XD dx ((l.map (·.1)).zip vs)) ∧ Reps K F (l.map (·.2)) vs
theorem RepX.same {K : PySem.W.Frag} {F F' : Hp} {c : Str} {l : List (Str × Dt)} {v : V} (ff : Same F F') (h : RepX K F c l v) : RepX K F' c l v := by
  obtain ⟨x, C, D, f, dx, vs, e, h1, h2, h3, h4, h5, h6, h7⟩ := h
  exact ⟨x, C, D, f, dx, vs, e, h1, h2, h3, h4, ff _ _ h5, ff _ _ h6, h7.same ff⟩
inductive T where
  | leaf (d : Dt) | lst (l : List Dt) | dct (l : List (Key × Dt)) | dcT (l : List (List Key × Dt)) | fn (a : Addr) (F0 : Hp) | exc (c : Str) (l : List (Str × Dt)) | rse (c : Str) (l : List (Str × Dt))
noncomputable def T.d : T → Option Dt
  | .leaf d => some d
  | .lst l => some (.lst l)
  | .dct l => some (.dct (l.map (·.1)) (l.map (·.2)))
  | .dcT l => some (.dcT (l.map (·.1)) (l.map (·.2)))
  | .fn _ _ | .exc _ _ | .rse _ _ => none
noncomputable def T.own : T → Bool
  | .leaf _ | .fn _ _ | .exc _ _ | .rse _ _ => false
  | _ => true
noncomputable def Own (K : PySem.W.Frag) (F H : Hp) : T → V → (Addr → Prop) → Prop
  | .leaf d, v, _ => Rep K F d v
  | .lst l, v, S => ∃ a vs, v = .ref a ∧ S a ∧ H a = some (.lst vs) ∧ Reps K F l vs
  | .dct l, v, S => ∃ a kvs, v = .ref a ∧ S a ∧ H a = some (.dK kvs) ∧ kvs.map (·.1) = l.map (·.1) ∧ Reps K F (l.map (·.2)) (kvs.map (·.2))
  | .dcT l, v, S => ∃ a kvs, v = .ref a ∧ S a ∧ H a = some (.dT kvs) ∧ kvs.map (·.1) = l.map (·.1) ∧ Reps K F (l.map (·.2)) (kvs.map (·.2))
  | .fn a F0, v, _ => v = .ref a ∧ Same F0 F
  | .exc c l, v, _ => RepX K F c l v
  | .rse _ _, _, _ => False
noncomputable def RepB (K : PySem.W.Frag) (F H : Hp) : Dt → V → Prop
  | .lst l, v => ∃ a vs, v = .ref a ∧ SqL K H a vs ∧ Reps K F l vs
  | .dct ks l, v => ∃ a kvs, v = .ref a ∧ Rd H a (.dK kvs) ∧ kvs.map (·.1) = ks ∧ Reps K F l (kvs.map (·.2))
  | .dcT ks l, v => ∃ a kvs, v = .ref a ∧ Rd H a (.dT kvs) ∧ kvs.map (·.1) = ks ∧ Reps K F l (kvs.map (·.2))
  | .non, v => v = .non
  | .bl b, v => v = .bl b
  | .int i, v => v = .int i
  | .str x, v => v = .str x
  | .tup l, v => ∃ a vs, v = .ref a ∧ SqT K F a vs ∧ Reps K F l vs
section
variable {K : PySem.W.Frag} {F H F' H' : Hp} {t : T} {v : V} {d : Dt} {S : Addr → Prop}
theorem Own.step (ff : Same F F') (hh : ∀ b o, S b → H b = some o → H' b = some o) (h : Own K F H t v S) : Own K F' H' t v S := by
  induction t with
  | leaf d => exact Rep.same ff h
  | lst l =>
    obtain ⟨a, vs, e, hs, h1, h2⟩ := h
    exact ⟨a, vs, e, hs, hh _ _ hs h1, h2.same ff⟩
  | dct l =>
    obtain ⟨a, vs, e, hs, h1, h2, h3⟩ := h
    exact ⟨a, vs, e, hs, hh _ _ hs h1, h2, h3.same ff⟩
  | dcT l =>
    obtain ⟨a, vs, e, hs, h1, h2, h3⟩ := h
    exact ⟨a, vs, e, hs, hh _ _ hs h1, h2, h3.same ff⟩
  | fn a F0 => exact ⟨h.1, h.2.trans ff⟩
  | exc c l => exact RepX.same ff h
  | rse c l => exact h
theorem Own.grow {S' : Addr → Prop} (hs : ∀ b, S b → S' b) (h : Own K F H t v S) : Own K F H t v S' := by
  induction t with
  | leaf d => exact h
  | lst l =>
    obtain ⟨a, vs, e, q, h1⟩ := h
    exact ⟨a, vs, e, hs _ q, h1⟩
  | dct l =>
    obtain ⟨a, vs, e, q, h1⟩ := h
    exact ⟨a, vs, e, hs _ q, h1⟩
  | dcT l =>
    obtain ⟨a, vs, e, q, h1⟩ := h
    exact ⟨a, vs, e, hs _ q, h1⟩
  | fn a F0 => exact h
  | exc c l => exact h
  | rse c l => exact h
theorem RepB.of (fh : Same F H) (h : Rep K F d v) : RepB K F H d v := by
  cases d with
  | lst l =>
    simp only [Rep] at h
    obtain ⟨a, vs, e, h1, h2⟩ := h
    exact ⟨a, vs, e, fh.seq h1, h2⟩
  | dct ks l =>
    simp only [Rep] at h
    obtain ⟨a, vs, e, h1, h2⟩ := h
    exact ⟨a, vs, e, fh.rd h1, h2⟩
  | dcT ks l =>
    simp only [Rep] at h
    obtain ⟨a, vs, e, h1, h2⟩ := h
    exact ⟨a, vs, e, fh.rd h1, h2⟩
  | tup l =>
    simp only [Rep] at h
    exact h
  | _ =>
    simp only [Rep] at h
    exact h
theorem RepB.rep (fh : Same F H) (h : RepB K F H d v) : Rep K H d v := by
  cases d with
  | lst l =>
    obtain ⟨a, vs, e, h1, h2⟩ := h
    simp only [Rep]
    exact ⟨a, vs, e, h1, h2.same fh⟩
  | dct ks l =>
    obtain ⟨a, vs, e, h1, h2, h3⟩ := h
    simp only [Rep]
    exact ⟨a, vs, e, h1, h2, h3.same fh⟩
  | dcT ks l =>
    obtain ⟨a, vs, e, h1, h2, h3⟩ := h
    simp only [Rep]
    exact ⟨a, vs, e, h1, h2, h3.same fh⟩
  | tup l =>
    obtain ⟨a, vs, e, h1, h2⟩ := h
    simp only [Rep]
    exact ⟨a, vs, e, fh.tup h1, h2.same fh⟩
  | _ =>
    simp only [Rep]
    exact h
theorem RepB.step (ff : Same F F') (hh : Same H H') (h : RepB K F H d v) : RepB K F' H' d v := by
  cases d with
  | lst l =>
    obtain ⟨a, vs, e, h1, h2⟩ := h
    exact ⟨a, vs, e, hh.seq h1, h2.same ff⟩
  | dct ks l =>
    obtain ⟨a, vs, e, h1, h2, h3⟩ := h
    exact ⟨a, vs, e, hh.rd h1, h2, h3.same ff⟩
  | dcT ks l =>
    obtain ⟨a, vs, e, h1, h2, h3⟩ := h
    exact ⟨a, vs, e, hh.rd h1, h2, h3.same ff⟩
  | tup l =>
    obtain ⟨a, vs, e, h1, h2⟩ := h
    exact ⟨a, vs, e, ff.tup h1, h2.same ff⟩
  | _ => exact h
theorem Own.repB (fh : Same F H) (h : Own K F H t v S) (hd : t.d = some d) : RepB K F H d v := by
  cases t with
  | leaf d => cases hd; exact RepB.of fh h
  | lst l =>
    cases hd
    obtain ⟨a, vs, e, _, h1, h2⟩ := h
    exact ⟨a, vs, e, SqL.of h1, h2⟩
  | dct l =>
    cases hd
    obtain ⟨a, vs, e, _, h1, h2⟩ := h
    exact ⟨a, vs, e, .inl h1, h2⟩
  | dcT l =>
    cases hd
    obtain ⟨a, vs, e, _, h1, h2⟩ := h
    exact ⟨a, vs, e, .inl h1, h2⟩
  | fn a F0 => cases hd
  | exc c l => cases hd
  | rse c l => cases hd
open Classical in
noncomputable def frzF (F H : Hp) (S : Addr → Prop) : Hp := fun b => if S b then H b else F b
theorem frzF_in {b : Addr} (h : S b) : frzF F H S b = H b := if_pos h
theorem frzF_out {b : Addr} (h : ¬ S b) : frzF F H S b = F b := if_neg h
theorem frzF_ff (hs : ∀ b, S b → F b = none) : Same F (frzF F H S) := fun b o e => by
  have : ¬ S b := fun z => by rw [hs b z] at e; cases e
  rw [frzF_out this]
  exact e
theorem frzF_fh (fh : Same F H) : Same (frzF F H S) H := fun b o e => by
  by_cases h : S b
  · rw [frzF_in h] at e
    exact e
  · rw [frzF_out h] at e
    exact fh _ _ e
theorem Own.freeze (hs : ∀ b, S b → F b = none) (h : Own K F H t v S) (hd : t.d = some d) : Rep K (frzF F H S) d v := by
  have ff := frzF_ff (H := H) hs
  cases t with
  | leaf d => cases hd; exact Rep.same ff h
  | lst l =>
    cases hd
    obtain ⟨a, vs, e, q, h1, h2⟩ := h
    simp only [Rep]
    exact ⟨a, vs, e, SqL.of (by rw [frzF_in q]; exact h1), h2.same ff⟩
  | dct l =>
    cases hd
    obtain ⟨a, vs, e, q, h1, h2, h3⟩ := h
    simp only [Rep]
    exact ⟨a, vs, e, .inl (by rw [frzF_in q]; exact h1), h2, h3.same ff⟩
  | dcT l =>
    cases hd
    obtain ⟨a, vs, e, q, h1, h2, h3⟩ := h
    simp only [Rep]
    exact ⟨a, vs, e, .inl (by rw [frzF_in q]; exact h1), h2, h3.same ff⟩
  | fn a F0 => cases hd
  | exc c l => cases hd
  | rse c l => cases hd
end
noncomputable abbrev Ix := Nat
noncomputable abbrev De := List (Option T)
structure Sep (K : PySem.W.Frag) (F H : Hp) (B : Addr → Prop) (L : Ix → Option (T × V)) (S : Ix → Addr → Prop) : Prop where
  own : ∀ i t v, L i = some (t, v) → Own K F H t v (S i)
  out : ∀ i b, S i b → F b = none ∧ (∃ o, H b = some o ∧ NT o) ∧ B b
  dis : ∀ i j b, S i b → S j b → i = j
noncomputable def liveS (δ : De) (σ : St) (i : Nat) : Option (T × V) := match δ[i]?, σ[i]? with
  | some (some t), some (some v) => some (t, v)
  | _, _ => none
structure Fm where
  K : PySem.W.Frag
  F0 : Hp
  H0 : Hp
  S0 : Addr → Prop
noncomputable def Fm.B (Φ : Fm) (b : Addr) : Prop := Φ.H0 b = none ∨ Φ.S0 b
structure En (Φ : Fm) (δ : De) (σ : St) (F H : Hp) : Prop where
  fh : Same F H
  prot : ∀ b o, Φ.H0 b = some o → ¬ Φ.S0 b → H b = some o
  old : Same Φ.F0 F
  nw : ∀ b o, F b = some o → Φ.F0 b = some o ∨ Φ.B b ∨ ∃ vs, Φ.H0 b = some (.tup vs)
  len : δ.length = σ.length
  has : ∀ (i : Nat) (t : T), δ[i]? = some (some t) → ∃ v, σ[i]? = some (some v)
  sep : ∃ S, Sep Φ.K F H Φ.B (liveS δ σ) S
section
variable {Φ : Fm} {δ : De} {σ : St} {F H F' H' : Hp}
theorem liveS_of {i : Nat} {t : T} {v : V} (h1 : δ[i]? = some (some t)) (h2 : σ[i]? = some (some v)) : liveS δ σ i = some (t, v) := by
  unfold liveS
  rw [h1, h2]
theorem of_liveS {i : Nat} {t : T} {v : V} (h : liveS δ σ i = some (t, v)) : δ[i]? = some (some t) ∧ σ[i]? = some (some v) := by
  unfold liveS at h
  split at h
  · rename_i e1 e2
    cases h
    exact ⟨e1, e2⟩
  · cases h
theorem En.fresh (e : En Φ δ σ F H) {p : Addr} (hp : H p = none) : Φ.B p := by
  by_cases h : Φ.S0 p
  · exact .inr h
  · left
    cases q : Φ.H0 p with
    | none => rfl
    | some o => rw [e.prot p o q h] at hp; cases hp
theorem Sep.step {K : PySem.W.Frag} {B : Addr → Prop} {L : Ix → Option (T × V)} {S : Ix → Addr → Prop} (s : Sep K F H B L S) (st : Step F H F' H') : Sep K F' H' B L S where
  own := fun i t v h => (s.own i t v h).step st.ff fun b o _ e => st.hh b o e
  out := fun i b h => by
    obtain ⟨h1, ⟨o, h2, nt⟩, h3⟩ := s.out i b h
    exact ⟨st.keepN h1 h2 nt, ⟨o, st.hh _ _ h2, nt⟩, h3⟩
  dis := s.dis
theorem En.step (e : En Φ δ σ F H) (st : Step F H F' H') : En Φ δ σ F' H' where
  fh := st.fh
  prot := fun b o h1 h2 => st.hh _ _ (e.prot b o h1 h2)
  old := e.old.trans st.ff
  nw := fun b o h => by
    rcases st.nw b o h with z | z | ⟨vs, z⟩
    · exact e.nw b o z
    · exact .inr (.inl (e.fresh z))
    · cases q : Φ.H0 b with
      | none => exact .inr (.inl (.inl q))
      | some u =>
        by_cases hs : Φ.S0 b
        · exact .inr (.inl (.inr hs))
        · rw [e.prot b u q hs] at z
          cases z
          exact .inr (.inr ⟨vs, rfl⟩)
  len := e.len
  has := e.has
  sep := let ⟨S, s⟩ := e.sep; ⟨S, s.step st⟩
theorem En.slot (e : En Φ δ σ F H) {i : Nat} {t : T} {d : Dt} (h : δ[i]? = some (some t)) (hd : t.d = some d) : ∃ v, σ[i]? = some (some v) ∧ RepB Φ.K F H d v := by
  obtain ⟨v, hv⟩ := e.has i t h
  obtain ⟨S, s⟩ := e.sep
  exact ⟨v, hv, (s.own i t v (liveS_of h hv)).repB e.fh hd⟩
theorem En.leaf (e : En Φ δ σ F H) {i : Nat} {d : Dt} (h : δ[i]? = some (some (.leaf d))) : ∃ v, σ[i]? = some (some v) ∧ Rep Φ.K F d v := by
  obtain ⟨v, hv⟩ := e.has i _ h
  obtain ⟨S, s⟩ := e.sep
  exact ⟨v, hv, s.own i _ v (liveS_of h hv)⟩
theorem get_set {α : Type} {l : List (Option α)} {i j : Nat} {x y : Option α} (h : (l.set i x)[j]? = some y) : (i = j ∧ y = x) ∨ (i ≠ j ∧ l[j]? = some y) := by
  by_cases hij : i = j
  · subst hij
    left
    rw [List.getElem?_set] at h
    simp only [if_true] at h
    split at h
    · cases h; exact ⟨rfl, rfl⟩
    · cases h
  · right
    rw [List.getElem?_set_ne hij] at h
    exact ⟨hij, h⟩
theorem En.put (e : En Φ δ σ F H) {t : T} {v : V} {S' : Addr → Prop} (st : Step F H F' H') (ho : Own Φ.K F' H' t v S') (hs : ∀ b, S' b → F' b = none ∧ H b = none ∧ ∃ o, H' b = some o ∧ NT o) (i : Nat) : En Φ (δ.set i (some t)) (σ.set i (some v)) F' H' := by
  have e' := e.step st
  obtain ⟨S, s⟩ := e.sep
  have s' := s.step st
  refine ⟨e'.fh, e'.prot, e'.old, e'.nw, by simp [e.len], fun j u h => ?_, fun j b => if j = i then S' b else S j b, ?_, ?_, ?_⟩
  · rcases get_set h with ⟨rfl, z⟩ | ⟨hn, z⟩
    · have hi : i < σ.length := by
        rw [← e.len]
        have := (List.getElem?_eq_some_iff.mp h).1
        simpa using this
      exact ⟨v, by simp [hi]⟩
    · obtain ⟨w, hw⟩ := e.has j u z
      exact ⟨w, by rw [List.getElem?_set_ne hn]; exact hw⟩
  · intro j u w h
    obtain ⟨h1, h2⟩ := of_liveS h
    rcases get_set h1 with ⟨rfl, z⟩ | ⟨hn, z⟩
    · rcases get_set h2 with ⟨_, z2⟩ | ⟨hn2, _⟩
      · cases z
        cases z2
        show Own _ _ _ _ _ (fun b => if i = i then S' b else S i b)
        simp only [if_true]
        exact ho
      · exact absurd rfl hn2
    · rcases get_set h2 with ⟨z2, _⟩ | ⟨_, z2⟩
      · exact absurd z2 hn
      · have : ¬ j = i := fun q => hn q.symm
        show Own _ _ _ _ _ (fun b => if j = i then S' b else S j b)
        simp only [if_neg this]
        exact s'.own j u w (liveS_of z z2)
  · intro j b h
    split at h
    · obtain ⟨h1, h2, h3⟩ := hs b h
      exact ⟨h1, h3, e.fresh h2⟩
    · exact s'.out _ b h
  · have old : ∀ j b, S j b → ¬ S' b := fun j b h z => by
      obtain ⟨_, ⟨o, h2, _⟩, _⟩ := s.out j b h
      rw [(hs b z).2.1] at h2
      cases h2
    intro j k b hj hk
    split at hj <;> split at hk
    · rename_i q1 q2
      rw [q1, q2]
    · exact absurd hj (old _ b hk)
    · exact absurd hk (old _ b hj)
    · exact s.dis _ _ b hj hk
theorem own_place {K : PySem.W.Frag} {t : T} {a : Addr} {S : Addr → Prop} (ht : t.own = true) (h : Own K F H t (.ref a) S) : S a := by
  cases t with
  | leaf d => cases ht
  | lst l => obtain ⟨b, _, e, q, _⟩ := h; cases e; exact q
  | dct l => obtain ⟨b, _, e, q, _⟩ := h; cases e; exact q
  | dcT l => obtain ⟨b, _, e, q, _⟩ := h; cases e; exact q
  | fn b F0 => cases ht
  | exc c l => cases ht
  | rse c l => cases ht
theorem En.poke (e : En Φ δ σ F H) {i : Nat} {t t' : T} {a : Addr} {o : HO} (h : δ[i]? = some (some t)) (hv : σ[i]? = some (some (.ref a))) (ht : t.own = true) (ho : ∀ S : Addr → Prop, S a → Own Φ.K F (upd H a o) t' (.ref a) S) (nt : NT o := by intro _ z; cases z) :
    En Φ (δ.set i (some t')) σ F (upd H a o) := by
  obtain ⟨S, s⟩ := e.sep
  have sa : S i a := own_place ht (s.own i t _ (liveS_of h hv))
  obtain ⟨fa, ⟨oa, ha, _⟩, ba⟩ := s.out _ a sa
  have hi : i < δ.length := (List.getElem?_eq_some_iff.mp h).1
  refine ⟨fun b u z => ?_, fun b u h1 h2 => ?_, e.old, e.nw, by simp [e.len], fun j u z => ?_, S, fun j u w z => ?_, fun j b z => ?_, s.dis⟩
  · have : b ≠ a := fun q => by rw [q, fa] at z; cases z
    rw [upd_ne this]
    exact e.fh _ _ z
  · have : b ≠ a := fun q => by
      subst q
      rcases ba with z | z
      · rw [z] at h1; cases h1
      · exact h2 z
    rw [upd_ne this]
    exact e.prot b u h1 h2
  · rcases get_set z with ⟨rfl, _⟩ | ⟨hn, z⟩
    · exact ⟨_, hv⟩
    · exact e.has j u z
  · obtain ⟨h1, h2⟩ := of_liveS z
    rcases get_set h1 with ⟨rfl, z1⟩ | ⟨hn, z1⟩
    · cases z1
      rw [hv] at h2
      cases h2
      exact ho _ sa
    · refine (s.own j u w (liveS_of z1 h2)).step (Same.refl _) fun b q hb hq => ?_
      have : b ≠ a := fun y => by
        subst y
        exact hn (s.dis _ _ _ hb sa).symm
      rw [upd_ne this]
      exact hq
  · obtain ⟨h1, ⟨q, h2, n2⟩, h3⟩ := s.out j b z
    refine ⟨h1, ?_, h3⟩
    by_cases y : b = a
    · subst y
      exact ⟨o, upd_same, nt⟩
    · exact ⟨q, by rw [upd_ne y]; exact h2, n2⟩
theorem En.freeze (e : En Φ δ σ F H) {i : Nat} {t : T} {d : Dt} (h : δ[i]? = some (some t)) (hd : t.d = some d) : ∃ F', En Φ (δ.set i (some (.leaf d))) σ F' H := by
  obtain ⟨S, s⟩ := e.sep
  obtain ⟨v, hv⟩ := e.has i t h
  have so := s.own i t v (liveS_of h hv)
  have sn : ∀ b, S i b → F b = none := fun b z => (s.out _ b z).1
  have ff := frzF_ff (H := H) sn
  refine ⟨frzF F H (S i), frzF_fh e.fh, e.prot, e.old.trans ff, fun b o z => ?_, by simp [e.len], fun j u z => ?_, fun j b => S j b ∧ j ≠ i, fun j u w z => ?_, fun j b z => ?_, fun j k b h1 h2 => s.dis _ _ b h1.1 h2.1⟩
  · by_cases hb : S i b
    · exact .inr (.inl (s.out _ b hb).2.2)
    · rw [frzF_out hb] at z
      exact e.nw b o z
  · rcases get_set z with ⟨rfl, _⟩ | ⟨hn, z⟩
    · exact ⟨_, hv⟩
    · exact e.has j u z
  · obtain ⟨h1, h2⟩ := of_liveS z
    rcases get_set h1 with ⟨rfl, z1⟩ | ⟨hn, z1⟩
    · cases z1
      rw [hv] at h2
      cases h2
      exact so.freeze sn hd
    · refine ((s.own j u w (liveS_of z1 h2)).step ff fun _ _ _ q => q).grow fun b q => ⟨q, fun y => hn y.symm⟩
  · obtain ⟨h1, h2, h3⟩ := s.out j b z.1
    refine ⟨?_, h2, h3⟩
    rw [frzF_out fun y => z.2 (s.dis _ _ b z.1 y)]
    exact h1
end
end L2

namespace L2
open PySem PySem.Spec PyProof.Rows
noncomputable def KO (K : PySem.W.Frag) (F H : Hp) (t : T) (Q : VK) : Prop := ∀ v H' F' S, Step F H F' H' → Own K F' H' t v S → (∀ b, S b → F' b = none ∧ H b = none ∧ ∃ o, H' b = some o ∧ NT o) → Q v H'
noncomputable def KL (K : PySem.W.Frag) (F H : Hp) (d : Dt) (Q : VK) : Prop := ∀ v H' F', Step F H F' H' → Rep K F' d v → Q v H'
noncomputable def KB (K : PySem.W.Frag) (F H : Hp) (d : Dt) (Q : VK) : Prop := ∀ v H' F', Step F H F' H' → RepB K F' H' d v → Q v H'
section
variable {K : PySem.W.Frag} {F H F1 H1 : Hp} {t : T} {d : Dt} {Q : VK}
theorem KO.step (k : KO K F H t Q) (st : Step F H F1 H1) : KO K F1 H1 t Q := fun v H' F' S s o hs => k v H' F' S (st.trans s) o fun b z => ⟨(hs b z).1, st.hh.free (hs b z).2.1, (hs b z).2.2⟩
theorem KO.leaf (k : KO K F H (.leaf d) Q) : KL K F H d Q := fun v H' F' st r => k v H' F' (fun _ => False) st r fun _ z => z.elim
theorem KL.here (k : KL K F H d Q) (fh : Same F H) {v : V} (r : Rep K F d v) : Q v H := k v H F (Step.refl fh) r
theorem KB.to (k : KB K F H d Q) : KL K F H d Q := fun v H' F' st r => k v H' F' st (RepB.of st.fh r)
theorem KL.to (hd : t.d = some d) (k : KL K F H d Q) : KO K F H t Q := fun v H' F' S st o hs => by
  refine k v H' (frzF F' H' S) ⟨st.hh, st.ff.trans (frzF_ff fun b z => (hs b z).1), frzF_fh st.fh, fun b u z => ?_⟩ (o.freeze (fun b z => (hs b z).1) hd)
  by_cases hb : S b
  · exact .inr (.inl (hs b hb).2.1)
  · rw [frzF_out hb] at z
    exact st.nw b u z
theorem KB.toO (hd : t.d = some d) (k : KB K F H d Q) : KO K F H t Q := fun v H' F' S st o hs => k v H' F' st (o.repB st.fh hd)
end
noncomputable def tO (K : PySem.W.Frag) (f : De → Option T) : TE := fun σ H Q => ∃ Φ δ F t, Fm.K Φ = K ∧ En Φ δ σ F H ∧ f δ = some t ∧ KO K F H t Q
noncomputable def tL (K : PySem.W.Frag) (f : De → Option Dt) : TE := fun σ H Q => ∃ Φ δ F d, Fm.K Φ = K ∧ En Φ δ σ F H ∧ f δ = some d ∧ KL K F H d Q
noncomputable def tBd (K : PySem.W.Frag) (f : De → Option Dt) : TE := fun σ H Q => ∃ Φ δ F d, Fm.K Φ = K ∧ En Φ δ σ F H ∧ f δ = some d ∧ KB K F H d Q
noncomputable def tTr (K : PySem.W.Frag) (f : De → Option Bool) : TT := fun σ H Q => ∃ Φ δ F b, Fm.K Φ = K ∧ En Φ δ σ F H ∧ f δ = some b ∧ ∀ H' F', Step F H F' H' → Q b H'
noncomputable def DO (X : Cx) (e : Expr) (f : De → Option T) : Prop := PE X e (tO X.K f)
noncomputable def DL (X : Cx) (e : Expr) (f : De → Option Dt) : Prop := PE X e (tL X.K f)
noncomputable def DB (X : Cx) (e : Expr) (f : De → Option Dt) : Prop := PE X e (tBd X.K f)
noncomputable def DT (X : Cx) (e : Expr) (f : De → Option Bool) : Prop := PT X e (tTr X.K f)
noncomputable def DW (X : Cx) (e : Expr) (f : De → Option Bool) : Prop := PW X e (tTr X.K f)
theorem PE.mono {X : Cx} {e : Expr} {t t' : TE} (h : PE X e t) (m : ∀ σ H Q, t' σ H Q → t σ H Q) : PE X e t' := fun pins s σ H Q I q => h pins s σ H Q I (m _ _ _ q)
theorem PT.mono {X : Cx} {e : Expr} {t t' : TT} (h : PT X e t) (m : ∀ σ H Q, t' σ H Q → t σ H Q) : PT X e t' := fun pins s σ H Q I q => h pins s σ H Q I (m _ _ _ q)
theorem PW.mono {X : Cx} {e : Expr} {t t' : TT} (h : PW X e t) (m : ∀ σ H Q, t' σ H Q → t σ H Q) : PW X e t' := fun whole pins s σ H Q I q => h whole pins s σ H Q I (m _ _ _ q)
theorem PA.mono {X : Cx} {e : List Expr} {t t' : TA} (h : PA X e t) (m : ∀ σ H Q, t' σ H Q → t σ H Q) : PA X e t' := fun pos pins s σ H Q I q => h pos pins s σ H Q I (m _ _ _ q)
theorem PI.mono {X : Cx} {tg e : Expr} {t t' : TI} (h : PI X tg e t) (m : ∀ σ H Q, t' σ H Q → t σ H Q) : PI X tg e t' := fun pins s σ H Q I q => h pins s σ H Q I (m _ _ _ q)
theorem PG.mono {X : Cx} {e : Expr} {t t' : TG} (h : PG X e t) (m : ∀ v σ H Q, t' v σ H Q → t v σ H Q) : PG X e t' := fun pins s σ H v u Q I r q => h pins s σ H v u Q I r (m _ _ _ _ q)
theorem PS.mono {X : Cx} {e : Stmt} {t t' : TS} (h : PS X e t) (m : ∀ D σ H, t' D σ H → t D σ H) : PS X e t' := fun pins s σ H Q I q => h pins s σ H Q I (m _ _ _ q)
theorem PSs.mono {X : Cx} {e : List Stmt} {t t' : TS} (h : PSs X e t) (m : ∀ D σ H, t' D σ H → t D σ H) : PSs X e t' := fun pins s σ H Q I q => h pins s σ H Q I (m _ _ _ q)
theorem PE.or {X : Cx} {e : Expr} {t t' : TE} (h : PE X e t) (h' : PE X e t') : PE X e (fun σ H Q => t σ H Q ∨ t' σ H Q) := fun pins s σ H Q I q => q.elim (h pins s σ H Q I) (h' pins s σ H Q I)
theorem PI.or {X : Cx} {tg e : Expr} {t t' : TI} (h : PI X tg e t) (h' : PI X tg e t') : PI X tg e (fun σ H Q => t σ H Q ∨ t' σ H Q) := fun pins s σ H Q I q => q.elim (h pins s σ H Q I) (h' pins s σ H Q I)
section
variable {X : Cx} {e a b c : Expr} {f : De → Option T} {g fa fb fc : De → Option Dt} {pos : Pos}
noncomputable def toD (f : De → Option T) : De → Option Dt := fun δ => (f δ).bind T.d
noncomputable def toT (f : De → Option Dt) : De → Option T := fun δ => (f δ).map T.leaf
theorem DO.toL (h : DO X e f) : DL X e (toD f) := PE.mono h fun σ H Q ⟨Φ, δ, F, d, hK, en, hf, k⟩ => by
  obtain ⟨t, ht, hd⟩ := Option.bind_eq_some_iff.mp hf
  exact ⟨Φ, δ, F, t, hK, en, ht, KL.to hd k⟩
theorem DO.toB (h : DO X e f) : DB X e (toD f) := PE.mono h fun σ H Q ⟨Φ, δ, F, d, hK, en, hf, k⟩ => by
  obtain ⟨t, ht, hd⟩ := Option.bind_eq_some_iff.mp hf
  exact ⟨Φ, δ, F, t, hK, en, ht, KB.toO hd k⟩
theorem DL.toB (h : DL X e g) : DB X e g := PE.mono h fun σ H Q ⟨Φ, δ, F, d, hK, en, hf, k⟩ => ⟨Φ, δ, F, d, hK, en, hf, k.to⟩
theorem DL.toO (h : DL X e g) : DO X e (toT g) := PE.mono h fun σ H Q ⟨Φ, δ, F, t, hK, en, hf, k⟩ => by
  unfold toT at hf
  cases hd : g δ with
  | none => rw [hd] at hf; cases hf
  | some d =>
    rw [hd] at hf
    cases hf
    exact ⟨Φ, δ, F, d, hK, en, hd, k.leaf⟩
noncomputable def vL (i : Nat) : De → Option Dt := fun δ => match δ[i]? with
  | some (some (.leaf d)) => some d
  | _ => none
noncomputable def vB (i : Nat) : De → Option Dt := fun δ => match δ[i]? with
  | some (some t) => t.d
  | _ => none
theorem dl_var {i : Nat} (h : PE X e (tVar i)) : DL X e (vL i) := PE.mono h fun σ H Q ⟨Φ, δ, F, d, hK, en, hf, k⟩ => by
  unfold vL at hf
  split at hf
  · rename_i q
    cases hf
    obtain ⟨v, h1, h2⟩ := en.leaf q
    exact ⟨v, h1, k.here en.fh (hK ▸ h2)⟩
  · cases hf
theorem db_var {i : Nat} (h : PE X e (tVar i)) : DB X e (vB i) := PE.mono h fun σ H Q ⟨Φ, δ, F, d, hK, en, hf, k⟩ => by
  unfold vB at hf
  split at hf
  · rename_i q
    obtain ⟨v, h1, h2⟩ := en.slot q hf
    exact ⟨v, h1, k v H F (Step.refl en.fh) (hK ▸ h2)⟩
  · cases hf
noncomputable def kD (d : Dt) : De → Option Dt := fun _ => some d
theorem dl_c {v : V} {d : Dt} (h : PE X e (tC v)) (r : ∀ F, Rep X.K F d v) : DL X e (kD d) := PE.mono h fun σ H Q ⟨Φ, δ, F, d', hK, en, hf, k⟩ => by
  cases hf
  exact k.here en.fh (r F)
theorem dl_int {i : Int} {j} : DL X (.Constant (.int i) j pos) (kD (.int i)) := dl_c pe_int fun F => by simp only [Rep]
theorem dl_bl {i : Bool} {j} : DL X (.Constant (.bool i) j pos) (kD (.bl i)) := dl_c pe_bl fun F => by simp only [Rep]
theorem dl_non {j} : DL X (.Constant .none j pos) (kD .non) := dl_c pe_non fun F => by simp only [Rep]
theorem dl_str {x : Str} {j} : DL X (.Constant (.str x) j pos) (kD (.str x)) := dl_c pe_str fun F => by simp only [Rep]
noncomputable def R2D (K : PySem.W.Frag) (r : R2) (g : Dt → Dt → Option T) : Prop := ∀ F H x y vx vy (Q : VK) t, Same F H → RepB K F H x vx → RepB K F H y vy → g x y = some t → KO K F H t Q → r vx vy H Q
noncomputable def d2 (g : Dt → Dt → Option T) (fa fb : De → Option Dt) : De → Option T := fun δ => (fa δ).bind fun x => (fb δ).bind fun y => g x y
theorem d2_of {K : PySem.W.Frag} {r : R2} {g : Dt → Dt → Option T} (hr : R2D K r g) {σ : St} {H : Hp} {Q : VK} (h : tO K (d2 g fa fb) σ H Q) : tOp r (tBd K fa) (tBd K fb) σ H Q := by
  obtain ⟨Φ, δ, F, t, hK, en, hf, k⟩ := h
  unfold d2 at hf
  obtain ⟨x, hx, hf⟩ := Option.bind_eq_some_iff.mp hf
  obtain ⟨y, hy, hf⟩ := Option.bind_eq_some_iff.mp hf
  exact ⟨Φ, δ, F, x, hK, en, hx, fun v H1 F1 st rv => ⟨Φ, δ, F1, y, hK, en.step st, hy, fun v2 H2 F2 st2 rv2 => hr F2 H2 x y v v2 Q t st2.fh (rv.step st2.ff st2.hh) rv2 hf (k.step (st.trans st2))⟩⟩
theorem do_bin {op : Operator} {r : R2} {g : Dt → Dt → Option T} (ho : OpR X (binaryOp op) r) (hr : R2D X.K r g) (ha : DB X a fa) (hb : DB X b fb) : DO X (.BinOp a op b pos) (d2 g fa fb) := PE.mono (pe_op ho ha hb) fun σ H Q h => d2_of hr h
theorem do_cmp {op : CmpOp} {r : R2} {g : Dt → Dt → Option T} (ho : OpR X (compareOp op) r) (hr : R2D X.K r g) (ha : DB X a fa) (hb : DB X b fb) (hm : behindInMarks op b = false) : DO X (.Compare a [op] [b] pos) (d2 g fa fb) := PE.mono (pe_cmpR ho ha hb hm) fun σ H Q h => d2_of hr h
noncomputable def asB : T → Option Bool
  | .leaf (.bl b) => some b
  | _ => none
noncomputable def tB2 (g : Dt → Dt → Option T) (fa fb : De → Option Dt) : De → Option Bool := fun δ => (d2 g fa fb δ).bind asB
theorem asB_own {K : PySem.W.Frag} {F H : Hp} {t : T} {v : V} {S : Addr → Prop} {b : Bool} (h : asB t = some b) (o : Own K F H t v S) : v = .bl b := by
  unfold asB at h
  split at h
  · cases h
    have o : Rep K F (.bl b) v := o
    simp only [Rep] at o
    exact o
  · cases h
theorem dt_cmp {op : CmpOp} {r : R2} {g : Dt → Dt → Option T} (ho : OpR X (compareOp op) r) (hr : R2D X.K r g) (ha : DB X a fa) (hb : DB X b fb) (hm : behindInMarks op b = false) : DT X (.Compare a [op] [b] pos) (tB2 g fa fb) := PT.mono (pt_cmpR ho ha hb hm) fun σ H Q ⟨Φ, δ, F, t, hK, en, hf, k⟩ => by
  unfold tB2 at hf
  obtain ⟨z, hz, hf⟩ := Option.bind_eq_some_iff.mp hf
  refine d2_of hr ⟨Φ, δ, F, z, hK, en, hz, fun v H' F' S st o hs => ?_⟩
  exact ⟨t, asB_own hf o, k H' F' st⟩
noncomputable def truD : Dt → Option Bool
  | .non => some false
  | .bl b => some b
  | .int i => some (i != 0)
  | .str x => if x.length ≤ sizeLine then some ((x.length : Int) != 0) else none
  | .tup l => some (!l.isEmpty)
  | .lst l => some (!l.isEmpty)
  | _ => none
noncomputable def fTru (f : De → Option Dt) : De → Option Bool := fun δ => (f δ).bind truD
theorem isEmpty_reps {K : PySem.W.Frag} {F : Hp} {l : List Dt} {vs : List V} (h : Reps K F l vs) : l.isEmpty = vs.isEmpty := by
  cases l with
  | nil => unfold Reps at h; rw [h]; rfl
  | cons d l => unfold Reps at h; obtain ⟨v, ws, rfl, _⟩ := h; rfl
theorem truD_of {K : PySem.W.Frag} {F H : Hp} {d : Dt} {v : V} {b : Bool} (fh : Same F H) (h : RepB K F H d v) (hb : truD d = some b) : TruV K v H b := by
  cases d with
  | non => cases h; cases hb; rfl
  | bl x => cases h; cases hb; rfl
  | int x => cases h; cases hb; rfl
  | str x =>
    cases h
    simp only [truD] at hb
    split at hb
    · cases hb; exact ⟨by assumption, rfl⟩
    · cases hb
  | tup l =>
    obtain ⟨a, vs, rfl, h1, h2⟩ := h
    cases hb
    exact .inr (.inl ⟨vs, fh.tup h1, by rw [isEmpty_reps h2]⟩)
  | lst l =>
    obtain ⟨a, vs, rfl, h1, h2⟩ := h
    cases hb
    exact .inl ⟨vs, h1, by rw [isEmpty_reps h2]⟩
  | dct ks l => cases hb
  | dcT ks l => cases hb
theorem dt_truth (ha : DB X a fa) (he : ∀ whole, isTrue a X.env whole = (do let v ← whole; standAt a.pos; holding [v] (truthy v))) : DT X a (fTru fa) := PT.mono (pt_truth ha he) fun σ H Q ⟨Φ, δ, F, b, hK, en, hf, k⟩ => by
  unfold fTru at hf
  obtain ⟨d, hd, hf⟩ := Option.bind_eq_some_iff.mp hf
  exact ⟨Φ, δ, F, d, hK, en, hd, fun v H' F' st r => ⟨b, truD_of st.fh r hf, k H' F' st⟩⟩
noncomputable def fNot (f : De → Option Bool) : De → Option Bool := fun δ => (f δ).map (!·)
noncomputable def fAnd (f g : De → Option Bool) : De → Option Bool := fun δ => (f δ).bind fun b => if b then g δ else some false
noncomputable def fOr (f g : De → Option Bool) : De → Option Bool := fun δ => (f δ).bind fun b => if b then some true else g δ
variable {ta tb tc : De → Option Bool} {rest : List Expr}
theorem dt_not (h : DT X a ta) : DT X (.UnaryOp .Not a pos) (fNot ta) := PT.mono (pt_not h) fun σ H Q ⟨Φ, δ, F, b, hK, en, hf, k⟩ => by
  unfold fNot at hf
  cases q : ta δ with
  | none => rw [q] at hf; cases hf
  | some c =>
    rw [q] at hf
    cases hf
    exact ⟨Φ, δ, F, c, hK, en, q, fun H' F' st => k H' F' st⟩
theorem dw_and1 (h : DT X a ta) : DW X (.BoolOp .And [a] pos) ta := pw_and1 h
theorem dw_or1 (h : DT X a ta) : DW X (.BoolOp .Or [a] pos) ta := pw_or1 h
theorem dw_and (h : DT X a ta) (h' : DW X (.BoolOp .And (b :: rest) pos) tb) : DW X (.BoolOp .And (a :: b :: rest) pos) (fAnd ta tb) := PW.mono (pw_and h h') fun σ H Q ⟨Φ, δ, F, t, hK, en, hf, k⟩ => by
  unfold fAnd at hf
  obtain ⟨c, hc, hf⟩ := Option.bind_eq_some_iff.mp hf
  refine ⟨Φ, δ, F, c, hK, en, hc, fun H' F' st => ?_⟩
  split at hf
  · rename_i q
    rw [if_pos q]
    exact ⟨Φ, δ, F', t, hK, en.step st, hf, fun H2 F2 s2 => k H2 F2 (st.trans s2)⟩
  · rename_i q
    rw [if_neg q]
    cases hf
    exact k H' F' st
theorem dw_or (h : DT X a ta) (h' : DW X (.BoolOp .Or (b :: rest) pos) tb) : DW X (.BoolOp .Or (a :: b :: rest) pos) (fOr ta tb) := PW.mono (pw_or h h') fun σ H Q ⟨Φ, δ, F, t, hK, en, hf, k⟩ => by
  unfold fOr at hf
  obtain ⟨c, hc, hf⟩ := Option.bind_eq_some_iff.mp hf
  refine ⟨Φ, δ, F, c, hK, en, hc, fun H' F' st => ?_⟩
  split at hf
  · rename_i q
    rw [if_pos q]
    cases hf
    exact k H' F' st
  · rename_i q
    rw [if_neg q]
    exact ⟨Φ, δ, F', t, hK, en.step st, hf, fun H2 F2 s2 => k H2 F2 (st.trans s2)⟩
theorem DW.t (h : DW X a ta) : DT X a ta := h.pt
noncomputable def asBl : Dt → Option Bool
  | .bl b => some b
  | _ => none
noncomputable def vNot (f : De → Option Dt) : De → Option T := fun δ => (f δ).bind fun x => (asBl x).map fun b => .leaf (.bl (!b))
noncomputable def vAnd (f : De → Option Dt) (g : De → Option T) : De → Option T := fun δ => (f δ).bind fun x => (asBl x).bind fun b => if b then g δ else some (.leaf (.bl false))
noncomputable def vIf (c : De → Option Bool) (f g : De → Option T) : De → Option T := fun δ => (c δ).bind fun b => if b then f δ else g δ
theorem repB_bl {K : PySem.W.Frag} {F H : Hp} {x : Dt} {v : V} {b : Bool} (h : asBl x = some b) (r : RepB K F H x v) : v = .bl b := by
  unfold asBl at h
  split at h
  · cases h; exact r
  · cases h
theorem rep_bl {K : PySem.W.Frag} {F : Hp} {b : Bool} : Rep K F (.bl b) (.bl b) := by simp only [Rep]
theorem rep_int {K : PySem.W.Frag} {F : Hp} {b : Int} : Rep K F (.int b) (.int b) := by simp only [Rep]
theorem rep_str {K : PySem.W.Frag} {F : Hp} {b : Str} : Rep K F (.str b) (.str b) := by simp only [Rep]
theorem rep_non {K : PySem.W.Frag} {F : Hp} : Rep K F .non .non := by simp only [Rep]
variable {oa ob : De → Option T}
theorem do_not (h : DB X a fa) : DO X (.UnaryOp .Not a pos) (vNot fa) := PE.mono (pe_not h) fun σ H Q ⟨Φ, δ, F, t, hK, en, hf, k⟩ => by
  unfold vNot at hf
  obtain ⟨x, hx, hf⟩ := Option.bind_eq_some_iff.mp hf
  cases q : asBl x with
  | none => rw [q] at hf; cases hf
  | some b =>
    rw [q] at hf
    cases hf
    exact ⟨Φ, δ, F, x, hK, en, hx, fun v H' F' st r => ⟨b, repB_bl q r, (k.step st).leaf.here st.fh rep_bl⟩⟩
theorem do_one {op} (h : DO X a oa) : DO X (.BoolOp op [a] pos) oa := pe_one h
theorem do_and (h : DB X a fa) (h' : DO X (.BoolOp .And (b :: rest) pos) ob) : DO X (.BoolOp .And (a :: b :: rest) pos) (vAnd fa ob) := PE.mono (pe_and h h') fun σ H Q ⟨Φ, δ, F, t, hK, en, hf, k⟩ => by
  unfold vAnd at hf
  obtain ⟨x, hx, hf⟩ := Option.bind_eq_some_iff.mp hf
  obtain ⟨b, hb, hf⟩ := Option.bind_eq_some_iff.mp hf
  refine ⟨Φ, δ, F, x, hK, en, hx, fun v H' F' st r => ⟨b, repB_bl hb r, ?_⟩⟩
  split at hf
  · rename_i q
    rw [if_pos q]
    exact ⟨Φ, δ, F', t, hK, en.step st, hf, k.step st⟩
  · rename_i q
    rw [if_neg q]
    cases hf
    exact (k.step st).leaf.here st.fh rep_bl
theorem do_if (hc : DT X c tc) (h : DO X a oa) (h' : DO X b ob) : DO X (.IfExp c a b pos) (vIf tc oa ob) := PE.mono (pe_ifExp hc h h') fun σ H Q ⟨Φ, δ, F, t, hK, en, hf, k⟩ => by
  unfold vIf at hf
  obtain ⟨x, hx, hf⟩ := Option.bind_eq_some_iff.mp hf
  refine ⟨Φ, δ, F, x, hK, en, hx, fun H' F' st => ?_⟩
  split at hf
  · rename_i q
    rw [if_pos q]
    exact ⟨Φ, δ, F', t, hK, en.step st, hf, k.step st⟩
  · rename_i q
    rw [if_neg q]
    exact ⟨Φ, δ, F', t, hK, en.step st, hf, k.step st⟩
noncomputable def RepBs (K : PySem.W.Frag) (F H : Hp) : List Dt → List V → Prop
  | [], vs => vs = []
  | d :: l, vs => ∃ v ws, vs = v :: ws ∧ RepB K F H d v ∧ RepBs K F H l ws
noncomputable def tAL (K : PySem.W.Frag) (f : De → Option (List Dt)) : TA := fun σ H Q => ∃ Φ δ F ds, Fm.K Φ = K ∧ En Φ δ σ F H ∧ f δ = some ds ∧ ∀ vs H' F', Step F H F' H' → Reps K F' ds vs → Q vs H'
noncomputable def tAB (K : PySem.W.Frag) (f : De → Option (List Dt)) : TA := fun σ H Q => ∃ Φ δ F ds, Fm.K Φ = K ∧ En Φ δ σ F H ∧ f δ = some ds ∧ ∀ vs H' F', Step F H F' H' → RepBs K F' H' ds vs → Q vs H'
structure DA (X : Cx) (es : List Expr) (f : De → Option (List Dt)) : Prop where
  len : ∀ δ ds, f δ = some ds → ds.length = es.length
  pa : PA X es (tAL X.K f)
structure DAB (X : Cx) (es : List Expr) (f : De → Option (List Dt)) : Prop where
  len : ∀ δ ds, f δ = some ds → ds.length = es.length
  pa : PA X es (tAB X.K f)
noncomputable def aNil : De → Option (List Dt) := fun _ => some []
noncomputable def aCons (f : De → Option Dt) (g : De → Option (List Dt)) : De → Option (List Dt) := fun δ => (f δ).bind fun d => (g δ).bind fun ds => some (d :: ds)
variable {es : List Expr} {fs : De → Option (List Dt)}
theorem aCons_len {n : Nat} {f : De → Option Dt} (h : ∀ δ ds, fs δ = some ds → ds.length = n) : ∀ δ ds, aCons f fs δ = some ds → ds.length = n + 1 := fun δ ds hf => by
  unfold aCons at hf
  obtain ⟨x, hx, hf⟩ := Option.bind_eq_some_iff.mp hf
  obtain ⟨y, hy, hf⟩ := Option.bind_eq_some_iff.mp hf
  cases hf
  simp [h δ y hy]
theorem da_nil : DA X [] aNil := ⟨fun _ _ h => by cases h; rfl, PA.mono pa_nil fun σ H Q ⟨Φ, δ, F, ds, hK, en, hf, k⟩ => by
  cases hf
  exact k [] H F (Step.refl en.fh) (by simp only [Reps])⟩
theorem dab_nil : DAB X [] aNil := ⟨fun _ _ h => by cases h; rfl, PA.mono pa_nil fun σ H Q ⟨Φ, δ, F, ds, hK, en, hf, k⟩ => by
  cases hf
  exact k [] H F (Step.refl en.fh) rfl⟩
theorem da_cons (h : DL X e g) (h' : DA X es fs) (hs : starEach (e :: es) X.env = (false, eval e X.env) :: starEach es X.env := by rfl) : DA X (e :: es) (aCons g fs) :=
  ⟨aCons_len h'.len, PA.mono (pa_cons h h'.pa hs) fun σ H Q ⟨Φ, δ, F, ds, hK, en, hf, k⟩ => by
    unfold aCons at hf
    obtain ⟨x, hx, hf⟩ := Option.bind_eq_some_iff.mp hf
    obtain ⟨y, hy, hf⟩ := Option.bind_eq_some_iff.mp hf
    cases hf
    exact ⟨Φ, δ, F, x, hK, en, hx, fun v H1 F1 st r => ⟨Φ, δ, F1, y, hK, en.step st, hy, fun vs H2 F2 s2 r2 => k (v :: vs) H2 F2 (st.trans s2) (by simp only [Reps]; exact ⟨v, vs, rfl, r.same s2.ff, r2⟩)⟩⟩⟩
theorem dab_cons (h : DB X e g) (h' : DAB X es fs) (hs : starEach (e :: es) X.env = (false, eval e X.env) :: starEach es X.env := by rfl) : DAB X (e :: es) (aCons g fs) :=
  ⟨aCons_len h'.len, PA.mono (pa_cons h h'.pa hs) fun σ H Q ⟨Φ, δ, F, ds, hK, en, hf, k⟩ => by
    unfold aCons at hf
    obtain ⟨x, hx, hf⟩ := Option.bind_eq_some_iff.mp hf
    obtain ⟨y, hy, hf⟩ := Option.bind_eq_some_iff.mp hf
    cases hf
    exact ⟨Φ, δ, F, x, hK, en, hx, fun v H1 F1 st r => ⟨Φ, δ, F1, y, hK, en.step st, hy, fun vs H2 F2 s2 r2 => k (v :: vs) H2 F2 (st.trans s2) ⟨v, vs, rfl, r.step s2.ff s2.hh, r2⟩⟩⟩⟩
noncomputable def vTup (f : De → Option (List Dt)) : De → Option T := fun δ => (f δ).bind fun ds => if ds.length ≤ sizeLine then some (.leaf (.tup ds)) else none
noncomputable def vLst (f : De → Option (List Dt)) : De → Option T := fun δ => (f δ).bind fun ds => if ds.length ≤ sizeLine then some (.lst ds) else none
theorem do_tup {x1} (h : DA X es fs) : DO X (.Tuple es x1 pos) (vTup fs) := PE.mono (pe_tup h.pa) fun σ H Q ⟨Φ, δ, F, t, hK, en, hf, k⟩ => by
  unfold vTup at hf
  obtain ⟨ds, hd, hf⟩ := Option.bind_eq_some_iff.mp hf
  split at hf
  · rename_i hl
    cases hf
    refine ⟨Φ, δ, F, ds, hK, en, hd, fun vs H1 F1 st r => ⟨by rw [r.length]; exact hl, fun p hp => ?_⟩⟩
    refine (k.step st).leaf _ _ _ (Step.new st.fh hp) ?_
    simp only [Rep]
    exact ⟨p, vs, rfl, SqT.of upd_same, r.same (Same.upd (st.fh.free hp))⟩
  · cases hf
theorem own_lst {K : PySem.W.Frag} {F H : Hp} {ds : List Dt} {vs : List V} {p : Addr} {Q : VK} (k : KO K F H (.lst ds) Q) (fh : Same F H) (r : Reps K F ds vs) (hp : H p = none) : Q (.ref p) (upd H p (.lst vs)) := by
  refine k _ _ F (fun b => b = p) (Step.made fh hp) ⟨p, vs, rfl, rfl, upd_same, r⟩ fun b z => ?_
  subst z
  exact ⟨fh.free hp, hp, _, upd_same, nofun⟩
theorem do_lst (h : DA X es fs) : DO X (.List es pos) (vLst fs) := PE.mono (pe_lst h.pa) fun σ H Q ⟨Φ, δ, F, t, hK, en, hf, k⟩ => by
  unfold vLst at hf
  obtain ⟨ds, hd, hf⟩ := Option.bind_eq_some_iff.mp hf
  split at hf
  · rename_i hl
    cases hf
    exact ⟨Φ, δ, F, ds, hK, en, hd, fun vs H1 F1 st r => ⟨by rw [r.length]; exact hl, fun p hp => own_lst (k.step st) st.fh r hp⟩⟩
  · cases hf
noncomputable def CRD (K : PySem.W.Frag) (r : List V → Hp → VK → Prop) (g : List Dt → Option T) : Prop := ∀ F H ds vs (Q : VK) t, Same F H → RepBs K F H ds vs → g ds = some t → KO K F H t Q → r vs H Q
noncomputable def vCall (g : List Dt → Option T) (f : De → Option (List Dt)) : De → Option T := fun δ => (f δ).bind g
theorem tcb_of {K : PySem.W.Frag} {r : List V → Hp → VK → Prop} {g : List Dt → Option T} (hr : CRD K r g) {σ : St} {H : Hp} {Q : VK} (h : tO K (vCall g fs) σ H Q) : tCB r (tAB K fs) σ H Q := by
  obtain ⟨Φ, δ, F, t, hK, en, hf, k⟩ := h
  unfold vCall at hf
  obtain ⟨ds, hd, hf⟩ := Option.bind_eq_some_iff.mp hf
  exact ⟨Φ, δ, F, ds, hK, en, hd, fun vs H1 F1 st r => hr F1 H1 ds vs Q t st.fh r hf (k.step st)⟩
variable {x : Str} {p : Pos} {id Ty : String} {sc : Scope} {r : List V → Hp → VK → Prop} {gg : List Dt → Option T}
theorem do_callB (h : glOk sc x = true) (hc : CallR X (.builtin id) r) (hr : CRD X.K r gg) (hm : X.mg x = none) (hv : bootBuiltins x = some (.builtin id)) (ha : DAB X (e :: es) fs) (e1 : ScIs X sc := by rfl)
    (he : starEach (e :: es) X.env = (false, eval e X.env) :: starEach es X.env := by rfl) (hpl : (backTo pos (starEach es X.env)).any (·.1) = false := by rfl) : DO X (.Call (.Name x p) (e :: es) [] pos) (vCall gg fs) :=
  PE.mono (pe_callBD h hc hm hv ha.pa e1 he hpl) fun σ H Q q => tcb_of hr q
theorem do_callT (h : glOk sc x = true) (hc : CallR X (.type Ty) r) (hr : CRD X.K r gg) (hm : X.mg x = none) (hv : bootBuiltins x = some (.type Ty)) (ha : DAB X (e :: es) fs) (e1 : ScIs X sc := by rfl)
    (he : starEach (e :: es) X.env = (false, eval e X.env) :: starEach es X.env := by rfl) (hpl : (backTo pos (starEach es X.env)).any (·.1) = false := by rfl) : DO X (.Call (.Name x p) (e :: es) [] pos) (vCall gg fs) :=
  PE.mono (pe_callTyD h hc hm hv ha.pa e1 he hpl) fun σ H Q q => tcb_of hr q
noncomputable def spD (K : PySem.W.Frag) (n : Nat) (f : List Dt → Option T) : Sp := fun vs H Q _ => ∃ F ds t, Same F H ∧ ds.length = n ∧ Reps K F ds vs ∧ f ds = some t ∧ KO K F H t Q
theorem do_callF {k n : Nat} {ps : List Str} {ff : List Dt → Option T} (h : glOk sc x = true) (F : OkF X.prog X.w X.K X.mg X.base x k ps (spD X.K n ff)) (hr : Room k X.A) (ha : DA X (e :: es) fs) (hn : (e :: es).length = n := by rfl) (e1 : ScIs X sc := by rfl)
    (he : starEach (e :: es) X.env = (false, eval e X.env) :: starEach es X.env := by rfl) (hpl : (backTo pos (starEach es X.env)).any (·.1) = false := by rfl) : DO X (.Call (.Name x p) (e :: es) [] pos) (vCall ff fs) :=
  PE.mono (pe_callFD h F hr ha.pa e1 he hpl) fun σ H Q ⟨Φ, δ, Fz, t, hK, en, hf, k⟩ => by
    unfold vCall at hf
    obtain ⟨ds, hd, hf⟩ := Option.bind_eq_some_iff.mp hf
    refine ⟨Φ, δ, Fz, ds, hK, en, hd, fun vs H1 F1 st r => ?_⟩
    show spD X.K n ff (vs ++ []) H1 Q E0
    rw [List.append_nil]
    exact ⟨F1, ds, t, st.fh, (ha.len δ ds hd).trans hn, r, hf, k.step st⟩
end
end L2

namespace L2
open PySem PySem.Spec PyProof.Rows
inductive Out where
  | nx (δ : De) | rt (t : T) | bk (δ : De) | ct (δ : De)
structure Rt (Φ : Fm) (t : T) (v : V) (F H : Hp) : Prop where
  fh : Same F H
  prot : ∀ b o, Φ.H0 b = some o → ¬ Φ.S0 b → H b = some o
  old : Same Φ.F0 F
  nw : ∀ b o, F b = some o → Φ.F0 b = some o ∨ Φ.B b ∨ ∃ vs, Φ.H0 b = some (.tup vs)
  own : ∃ S, Own Φ.K F H t v S ∧ ∀ b, S b → F b = none ∧ (∃ o, H b = some o ∧ NT o) ∧ Φ.B b
noncomputable def Post (Φ : Fm) (D : Ends) : Out → Prop
  | .nx δ => ∀ σ F H, En Φ δ σ F H → D.nx σ H
  | .rt t => ∀ v F H, Rt Φ t v F H → D.rt v H
  | .bk δ => ∀ σ F H, En Φ δ σ F H → D.bk σ H
  | .ct δ => ∀ σ F H, En Φ δ σ F H → D.ct σ H
noncomputable def tS (K : PySem.W.Frag) (g : De → Option Out) : TS := fun D σ H => ∃ Φ δ F o, Fm.K Φ = K ∧ En Φ δ σ F H ∧ g δ = some o ∧ Post Φ D o
noncomputable def DS1 (X : Cx) (st : Stmt) (g : De → Option Out) : Prop := PS X st (tS X.K g)
noncomputable def DS (X : Cx) (ss : List Stmt) (g : De → Option Out) : Prop := PSs X ss (tS X.K g)
section
variable {X : Cx} {st : Stmt} {rest a b body : List Stmt} {g g1 g2 : De → Option Out} {e c tg iter : Expr} {pos : Pos} {f : De → Option T} {fd : De → Option Dt} {tc : De → Option Bool} {i : Nat}
noncomputable def sNil : De → Option Out := fun δ => some (.nx δ)
noncomputable def sSeq (g1 g2 : De → Option Out) : De → Option Out := fun δ => (g1 δ).bind fun o => match o with
  | .nx δ' => g2 δ'
  | o => some o
theorem ds_nil : DS X [] sNil := PSs.mono pss_nil fun D σ H ⟨Φ, δ, F, o, hK, en, hg, k⟩ => by
  cases hg
  exact k σ F H en
theorem ds_one (h : DS1 X st g) : DS X [st] g := pss_one h
theorem ds_cons (h1 : DS1 X st g1) (h2 : DS X rest g2) : DS X (st :: rest) (sSeq g1 g2) := PSs.mono (pss_cons h1 h2) fun D σ H ⟨Φ, δ, F, o, hK, en, hg, k⟩ => by
  unfold sSeq at hg
  obtain ⟨o1, h1, hg⟩ := Option.bind_eq_some_iff.mp hg
  refine ⟨Φ, δ, F, o1, hK, en, h1, ?_⟩
  cases o1 with
  | nx δ' => exact fun σ' F' H' en' => ⟨Φ, δ', F', o, hK, en', hg, k⟩
  | rt t => cases hg; exact k
  | bk δ' => cases hg; exact k
  | ct δ' => cases hg; exact k
noncomputable def sRet (f : De → Option T) : De → Option Out := fun δ => (f δ).map .rt
theorem En.rt {Φ : Fm} {δ : De} {σ : St} {F H F' H' : Hp} {t : T} {v : V} {S : Addr → Prop} (en : En Φ δ σ F H) (st : Step F H F' H') (o : Own Φ.K F' H' t v S) (hs : ∀ b, S b → F' b = none ∧ H b = none ∧ ∃ o, H' b = some o ∧ NT o) : Rt Φ t v F' H' := by
  have e' := en.step st
  exact ⟨e'.fh, e'.prot, e'.old, e'.nw, S, o, fun b z => ⟨(hs b z).1, (hs b z).2.2, en.fresh (hs b z).2.1⟩⟩
theorem ds_ret (h : DO X e f) : DS1 X (.Return (some e) pos) (sRet f) := PS.mono (ps_ret h) fun D σ H ⟨Φ, δ, F, o, hK, en, hg, k⟩ => by
  unfold sRet at hg
  obtain ⟨t, ht, hg⟩ := Option.map_eq_some_iff.mp hg
  cases hg
  exact ⟨Φ, δ, F, t, hK, en, ht, fun v H' F' S st o hs => k v F' H' (en.rt st (hK ▸ o) hs)⟩
noncomputable def sRetV (i : Nat) : De → Option Out := fun δ => match δ[i]? with
  | some (some t) => some (.rt t)
  | _ => none
theorem ds_retV (h : PE X e (tVar i)) : DS1 X (.Return (some e) pos) (sRetV i) := PS.mono (ps_ret h) fun D σ H ⟨Φ, δ, F, o, hK, en, hg, k⟩ => by
  unfold sRetV at hg
  split at hg
  · rename_i t q
    cases hg
    obtain ⟨v, hv⟩ := en.has i t q
    obtain ⟨S, s⟩ := en.sep
    exact ⟨v, hv, k v F H ⟨en.fh, en.prot, en.old, en.nw, S i, s.own i t v (liveS_of q hv), fun b z => s.out i b z⟩⟩
  · cases hg
noncomputable def sIf (c : De → Option Bool) (g1 g2 : De → Option Out) : De → Option Out := fun δ => (c δ).bind fun b => if b then g1 δ else g2 δ
theorem ds_if (hc : DT X c tc) (h1 : DS X a g1) (h2 : DS X b g2) : DS1 X (.If c a b pos) (sIf tc g1 g2) := PS.mono (ps_if hc h1 h2) fun D σ H ⟨Φ, δ, F, o, hK, en, hg, k⟩ => by
  unfold sIf at hg
  obtain ⟨x, hx, hg⟩ := Option.bind_eq_some_iff.mp hg
  refine ⟨Φ, δ, F, x, hK, en, hx, fun H' F' st => ?_⟩
  split at hg
  · rename_i q
    rw [if_pos q]
    exact ⟨Φ, δ, F', o, hK, en.step st, hg, k⟩
  · rename_i q
    rw [if_neg q]
    exact ⟨Φ, δ, F', o, hK, en.step st, hg, k⟩
noncomputable def sSet (i : Nat) (f : De → Option T) : De → Option Out := fun δ => (f δ).map fun t => .nx (δ.set i (some t))
theorem ds_set {sc : Scope} {N : List Str} {x : Str} {pos' : Pos} (h : nmOk sc N i x = true) (hl : lcOk sc x = true) (nd : N.Nodup) (he : DO X e f) (e1 : ScIs X sc := by rfl) (e2 : X.N = N := by rfl) (hf : X.fn x = true ∨ X.env.scope.names.lookup x = some .local := by exact .inl rfl)
    (hs : swapsWith e (some (.Name x pos')) pos.line X.env = pure false := by rfl) : DS1 X (.Assign [.Name x pos'] e pos) (sSet i f) := PS.mono (ps_setD h hl nd he e1 e2 hf hs) fun D σ H ⟨Φ, δ, F, o, hK, en, hg, k⟩ => by
  unfold sSet at hg
  obtain ⟨t, ht, hg⟩ := Option.map_eq_some_iff.mp hg
  cases hg
  exact ⟨Φ, δ, F, t, hK, en, ht, fun v H' F' S st o hs => k _ F' H' (en.put st (hK ▸ o) hs i)⟩
noncomputable def sFrz (i : Nat) (g : De → Option Out) : De → Option Out := fun δ => match δ[i]? with
  | some (some t) => t.d.bind fun d => g (δ.set i (some (.leaf d)))
  | _ => none
theorem frz_of {K : PySem.W.Frag} {D : Ends} {σ : St} {H : Hp} (h : tS K (sFrz i g) D σ H) : tS K g D σ H := by
  obtain ⟨Φ, δ, F, o, hK, en, hg, k⟩ := h
  unfold sFrz at hg
  split at hg
  · rename_i t q
    obtain ⟨d, hd, hg⟩ := Option.bind_eq_some_iff.mp hg
    obtain ⟨F', en'⟩ := en.freeze q hd
    exact ⟨Φ, _, F', o, hK, en', hg, k⟩
  · cases hg
theorem ds1_frz (h : DS1 X st g) : DS1 X st (sFrz i g) := PS.mono h fun D σ H q => frz_of q
noncomputable def gD (K : PySem.W.Frag) (ts : List Nat) (st : Dt → De → Option De) : TG := fun v σ H Q => ∃ Φ δ F d δ', Fm.K Φ = K ∧ En Φ δ σ F H ∧ Rep K F d v ∧ st d δ = some δ' ∧ ∀ σ', σ'.length = σ.length → (∀ j, j ∉ ts → σ'[j]? = σ[j]?) → En Φ δ' σ' F H → Q σ' H
noncomputable def gsD (K : PySem.W.Frag) (ts : List Nat) (st : List Dt → De → Option De) : TGs := fun vs σ H Q => ∃ Φ δ F ds δ', Fm.K Φ = K ∧ En Φ δ σ F H ∧ Reps K F ds vs ∧ st ds δ = some δ' ∧ ∀ σ', σ'.length = σ.length → (∀ j, j ∉ ts → σ'[j]? = σ[j]?) → En Φ δ' σ' F H → Q σ' H
noncomputable def DG (X : Cx) (tg : Expr) (ts : List Nat) (bb : Dt → De → Option De) : Prop := PG X tg (gD X.K ts bb)
noncomputable def DGs (X : Cx) (tg : List Expr) (ts : List Nat) (bb : List Dt → De → Option De) : Prop := PGs X tg (gsD X.K ts bb)
noncomputable def bName (i : Nat) : Dt → De → Option De := fun d δ => some (δ.set i (some (.leaf d)))
theorem En.name {Φ : Fm} {δ : De} {σ : St} {F H : Hp} (en : En Φ δ σ F H) {d : Dt} {v : V} (r : Rep Φ.K F d v) (i : Nat) : En Φ (δ.set i (some (.leaf d))) (σ.set i (some v)) F H :=
  en.put (Step.refl en.fh) (S' := fun _ => False) (t := .leaf d) r (fun _ z => z.elim) i
theorem dg_name (h : PG X tg (gName i)) : DG X tg [i] (bName i) := PG.mono h fun v σ H Q ⟨Φ, δ, F, d, δ', hK, en, r, hd, k⟩ => by
  cases hd
  refine k _ (by simp) (fun j hj => ?_) (en.name (hK ▸ r) i)
  rw [List.getElem?_set_ne fun z => hj (by simp [z])]
noncomputable def bNil : List Dt → De → Option De := fun ds δ => if ds.isEmpty then some δ else none
noncomputable def bCons (b : Dt → De → Option De) (bs : List Dt → De → Option De) : List Dt → De → Option De := fun ds δ => match ds with
  | d :: r => (b d δ).bind fun δ1 => bs r δ1
  | [] => none
noncomputable def bTup (n : Nat) (bs : List Dt → De → Option De) : Dt → De → Option De := fun d δ => match d with
  | .tup ds => if ds.length = n then bs ds δ else none
  | _ => none
theorem dgs_nil : DGs X [] [] bNil := fun pins s σ H vs us Q I r q => pgs_nil pins s σ H vs us Q I r (by
  obtain ⟨Φ, δ, F, ds, δ', hK, en, rs, hd, k⟩ := q
  unfold bNil at hd
  cases ds with
  | nil => cases hd; simp only [Reps] at rs; exact ⟨rs, k σ rfl (fun _ _ => rfl) en⟩
  | cons d l => cases hd)
theorem dgs_cons {es : List Expr} {ts ts' : List Nat} {bb : Dt → De → Option De} {bs : List Dt → De → Option De} (h1 : DG X e ts bb) (h2 : DGs X es ts' bs)
    (hs : (assignEach (e :: es) X.env).map (·.2) = assign e X.env :: (assignEach es X.env).map (·.2) := by rfl) : DGs X (e :: es) (ts ++ ts') (bCons bb bs) := fun pins s σ H vs us Q I r q => pgs_cons h1 h2 hs pins s σ H vs us Q I r (by
  obtain ⟨Φ, δ, F, ds, δ', hK, en, rs, hd, k⟩ := q
  unfold bCons at hd
  cases ds with
  | nil => cases hd
  | cons d l =>
    simp only [Reps] at rs
    obtain ⟨v, ws, e, r1, r2⟩ := rs
    dsimp only at hd
    obtain ⟨δ1, hb, hd⟩ := Option.bind_eq_some_iff.mp hd
    refine ⟨v, ws, e, Φ, δ, F, d, δ1, hK, en, r1, hb, fun σ1 l1 k1 en1 => ⟨Φ, δ1, F, l, δ', hK, en1, r2, hd, fun σ2 l2 k2 en2 => k σ2 (l2.trans l1) (fun j hj => ?_) en2⟩⟩
    rw [k2 j fun z => hj (List.mem_append_right _ z), k1 j fun z => hj (List.mem_append_left _ z)])
theorem dg_tup {es : List Expr} {k : Nat} {n : Nat} {ts : List Nat} {bs : List Dt → De → Option De} (hc : X.calm = true) (h : DGs X es ts bs)
    (hn : (assignEach es X.env).length = n := by rfl) (hst : (assignEach es X.env).findIdx? (·.1) = none := by rfl) : DG X (.Tuple es k pos) ts (bTup n bs) := PG.mono (pg_tup hc h hn hst) fun v σ H Q ⟨Φ, δ, F, d, δ', hK, en, r, hd, q⟩ => by
  unfold bTup at hd
  split at hd
  · rename_i ds
    split at hd
    · rename_i hl
      simp only [Rep] at r
      obtain ⟨a, vs, e, h1, h2⟩ := r
      exact ⟨a, vs, e, en.fh.tup h1, by rw [h2.length]; exact hl, Φ, δ, F, ds, δ', hK, en, h2, hd, q⟩
    · cases hd
  · cases hd
noncomputable def WalkD (K : PySem.W.Frag) (F' : Hp) (J : It) (ds : List Dt) (ok : Hp → Prop) : Prop := ∀ (i : Nat) (H F : Hp), ok H → Same F H → Same F' F → (i < ds.length → J.go i H) ∧ (i = ds.length → J.stop i H) ∧ ∀ x H', i < ds.length → J.yld i H x H' → ∃ d F2, ds[i]? = some d ∧ Step F H F2 H' ∧ Rep K F2 d x
theorem Plain.walk {K : PySem.W.Frag} {F' : Hp} {J : It} {xs : List V} {ds : List Dt} {ok : Hp → Prop} (pl : Plain J xs ok) (r : Reps K F' ds xs) : WalkD K F' J ds ok := fun i H F hok fh ff => by
  obtain ⟨p1, p2, p3⟩ := pl i H hok
  have hl := r.length
  refine ⟨fun h => p1 (by omega), fun h => p2 (by omega), fun x H' hi hy => ?_⟩
  obtain ⟨rfl, hx⟩ := p3 x H' (by omega) hy
  have hd : ds[i]? = some ds[i] := by simp [hi]
  obtain ⟨v, e, rv⟩ := r.get hd
  rw [hx] at e
  cases e
  exact ⟨_, F, hd, Step.refl fh, rv.same ff⟩
noncomputable def tIF (K : PySem.W.Frag) (f : De → Option (List Dt)) : TI := fun σ H R => ∃ Φ δ F ds, Fm.K Φ = K ∧ En Φ δ σ F H ∧ f δ = some ds ∧ ∀ J ok H' F', Step F H F' H' → WalkD K F' J ds ok → (∀ H2, Same F' H2 → ok H2) → R J H'
noncomputable def tIB (K : PySem.W.Frag) (f : De → Option (List Dt)) : TI := fun σ H R => ∃ Φ δ F ds, Fm.K Φ = K ∧ En Φ δ σ F H ∧ f δ = some ds ∧ ∀ J ok H' F', Step F H F' H' → WalkD K F' J ds ok → (∀ H2, Same H' H2 → ok H2) → R J H'
noncomputable def DIF (X : Cx) (tg iter : Expr) (f : De → Option (List Dt)) : Prop := PI X tg iter (tIF X.K f)
noncomputable def DIB (X : Cx) (tg iter : Expr) (f : De → Option (List Dt)) : Prop := PI X tg iter (tIB X.K f)
theorem DIF.toB {fi : De → Option (List Dt)} (h : DIF X tg iter fi) : DIB X tg iter fi := PI.mono h fun σ H R ⟨Φ, δ, F, ds, hK, en, hf, k⟩ => ⟨Φ, δ, F, ds, hK, en, hf, fun J ok H' F' st wd ho => k J ok H' F' st wd fun H2 s => ho H2 (st.fh.trans s)⟩
end
end L2

namespace L2
open PySem PySem.Spec PyProof.Rows
section
variable {X : Cx} {st : Stmt} {rest a b body : List Stmt} {g g1 g2 : De → Option Out} {e c tg iter l : Expr} {pos : Pos} {f : De → Option T} {fd : De → Option Dt} {tc : De → Option Bool} {i : Nat} {fi : De → Option (List Dt)}
noncomputable def forD (bb : Dt → De → Option De) (g : De → Option Out) : List Dt → De → Option Out
  | [], δ => some (.nx δ)
  | d :: r, δ => (bb d δ).bind fun δ1 => (g δ1).bind fun o => match o with
    | .nx δ2 => forD bb g r δ2
    | .ct δ2 => forD bb g r δ2
    | .bk δ2 => some (.nx δ2)
    | .rt t => some (.rt t)

noncomputable def sFor (fi : De → Option (List Dt)) (bb : Dt → De → Option De) (g : De → Option Out) : De → Option Out := fun δ => (fi δ).bind fun ds => forD bb g ds δ
theorem Reps.same_get {K : PySem.W.Frag} {F : Hp} {ds : List Dt} {xs : List V} (r : Reps K F ds xs) {i : Nat} {x : V} (h : xs[i]? = some x) : ∃ d, ds[i]? = some d ∧ Rep K F d x := by
  have hl := r.length
  have hi : i < xs.length := (List.getElem?_eq_some_iff.mp h).1
  have hd : ds[i]? = some ds[i] := by simp [show i < ds.length by omega]
  obtain ⟨v, e, rv⟩ := r.get hd
  rw [h] at e
  cases e
  exact ⟨_, hd, rv⟩
theorem drop_of {α : Type} {l : List α} {i : Nat} {d : α} (h : l[i]? = some d) : l.drop i = d :: l.drop (i + 1) := by
  have hi : i < l.length := (List.getElem?_eq_some_iff.mp h).1
  rw [List.drop_eq_getElem_cons hi]
  congr 1
  have := (List.getElem?_eq_some_iff.mp h).2
  exact this
noncomputable def Fm.at (Φ : Fm) (F1 : Hp) : Fm := { Φ with F0 := F1 }
theorem En.back {Φ : Fm} {δ δ' : De} {σ σ' : St} {F1 H1 F H : Hp} (en : En Φ δ σ F1 H1) (e : En (Φ.at F1) δ' σ' F H) : En Φ δ' σ' F H :=
  ⟨e.fh, e.prot, en.old.trans e.old, fun b o h => (e.nw b o h).elim (fun z => en.nw b o z) .inr, e.len, e.has, e.sep⟩
theorem Rt.back {Φ : Fm} {δ : De} {σ : St} {F1 H1 F H : Hp} {t : T} {v : V} (en : En Φ δ σ F1 H1) (e : Rt (Φ.at F1) t v F H) : Rt Φ t v F H :=
  ⟨e.fh, e.prot, en.old.trans e.old, fun b o h => (e.nw b o h).elim (fun z => en.nw b o z) .inr, e.own⟩
theorem En.at {Φ : Fm} {δ : De} {σ : St} {F1 H1 : Hp} (en : En Φ δ σ F1 H1) : En (Φ.at F1) δ σ F1 H1 :=
  ⟨en.fh, en.prot, Same.refl _, fun b o h => .inl h, en.len, en.has, en.sep⟩
theorem Post.at {Φ : Fm} {D : Ends} {o : Out} {δ : De} {σ : St} {F1 H1 : Hp} (en : En Φ δ σ F1 H1) (k : Post Φ D o) : Post (Φ.at F1) D o := by
  cases o with
  | nx δ' => exact fun σ' F H e => k σ' F H (en.back e)
  | bk δ' => exact fun σ' F H e => k σ' F H (en.back e)
  | ct δ' => exact fun σ' F H e => k σ' F H (en.back e)
  | rt t => exact fun v F H e => k v F H (Rt.back en e)
theorem for_walk {n : Nat} {g : TG} {tb : TS} {D : Ends} {J : It} {σ : St} {H1 : Hp} (Pv : Nat → St → Hp → Prop) (h0 : Pv 0 σ H1) (hgo : ∀ i σ H, Pv i σ H → (i < n → J.go i H) ∧ (i = n → J.stop i H))
    (hs : ∀ i x σ H H', i < n → Pv i σ H → J.yld i H x H' → g x σ H' fun σ2 H2 => tb { D with nx := Pv (i + 1), ct := Pv (i + 1), bk := D.nx } σ2 H2) (hd : ∀ σ H, Pv n σ H → D.nx σ H) : ForW g tb D J σ H1 := by
  refine ⟨fun i m σ H => m = n - i ∧ i ≤ n ∧ Pv i σ H, ⟨n, by simp, Nat.zero_le _, h0⟩, ?_⟩
  rintro i m σ H ⟨rfl, hi, p⟩
  obtain ⟨p1, p2⟩ := hgo i σ H p
  by_cases hlt : i < n
  · exact .inr ⟨p1 hlt, Pv (i + 1), fun σ' H' p' => ⟨n - (i + 1), by omega, rfl, hlt, p'⟩, fun x H' y => hs i x σ H H' hlt p y⟩
  · have e : i = n := by omega
    subst e
    exact .inl ⟨p2 rfl, hd σ H p⟩
theorem ds_for {ts : List Nat} {bb : Dt → De → Option De} (hp : PassesOwn (model X.prog X.w) X.A X.env X.xe) (hc : X.calm = true) (hi : DIF X tg iter fi) (hg : DG X tg ts bb) (hb : DS X body g)
    (hs : ∀ x, foldedSetIterable iter X.env x = pure x := by intro _; rfl) : DS1 X (.For tg iter body [] pos) (sFor fi bb g) := PS.mono (ps_for hp hc hi hg hb hs) fun D σ H ⟨Φ, δ, F, o, hK, en, hg, k⟩ => by
  unfold sFor at hg
  obtain ⟨ds, hd, hg⟩ := Option.bind_eq_some_iff.mp hg
  rw [tFor_eq]
  refine ⟨Φ, δ, F, ds, hK, en, hd, fun J ok H1 F1 st1 wd ho => ?_⟩
  have en1 := en.step st1
  have k1 := Post.at en1 k
  refine for_walk (n := ds.length) (fun i σ' H' => ∃ δ' F', En (Φ.at F1) δ' σ' F' H' ∧ forD bb g (ds.drop i) δ' = some o) ⟨δ, F1, en1.at, by simpa using hg⟩ (fun i σ' H' ⟨δ', F', en', _⟩ => ?_) ?_ ?_
  · obtain ⟨p1, p2, _⟩ := wd i H' F' (ho H' (en'.old.trans en'.fh)) en'.fh en'.old
    exact ⟨p1, p2⟩
  · rintro i x σ' H' H'' hi ⟨δ', F', en', hgo⟩ hy
    obtain ⟨_, _, p3⟩ := wd i H' F' (ho H' (en'.old.trans en'.fh)) en'.fh en'.old
    obtain ⟨d, F2, hd', st2, rd⟩ := p3 x H'' hi hy
    rw [drop_of hd'] at hgo
    unfold forD at hgo
    obtain ⟨δ1, h1, hgo⟩ := Option.bind_eq_some_iff.mp hgo
    obtain ⟨o1, h2, hgo⟩ := Option.bind_eq_some_iff.mp hgo
    refine ⟨Φ.at F1, δ', F2, d, δ1, hK, en'.step st2, rd, h1, fun σ1 _ _ en1 => ⟨Φ.at F1, δ1, F2, o1, hK, en1, h2, ?_⟩⟩
    cases o1 with
    | nx δ2 => exact fun σ2 F2 H2 en2 => ⟨δ2, F2, en2, hgo⟩
    | ct δ2 => exact fun σ2 F2 H2 en2 => ⟨δ2, F2, en2, hgo⟩
    | bk δ2 => cases hgo; exact fun σ2 F2 H2 en2 => k1 σ2 F2 H2 en2
    | rt t => cases hgo; exact fun v F2 H2 q => k1 v F2 H2 q
  · rintro σ' H' ⟨δ', F', en', hgo⟩
    rw [List.drop_length] at hgo
    cases hgo
    exact k1 σ' F' H' en'
noncomputable def signD (x : Str) : List Dt := x.cps.toList.map fun c => .str ⟨#[c]⟩
noncomputable def rangeD (lo : Int) (n : Nat) : List Dt := (List.range n).map fun (i : Nat) => .int (lo + i)
theorem Reps.map {K : PySem.W.Frag} {F : Hp} {α : Type} {f : α → Dt} {g : α → V} (h : ∀ x, Rep K F (f x) (g x)) : ∀ l : List α, Reps K F (l.map f) (l.map g)
  | [] => by simp [Reps]
  | x :: l => by
    simp only [List.map_cons, Reps]
    exact ⟨_, _, rfl, h x, Reps.map h l⟩
noncomputable def itD : Dt → Option (List Dt)
  | .lst l => some l
  | .tup l => some l
  | .str x => some (signD x)
  | _ => none
noncomputable def fIt (f : De → Option Dt) : De → Option (List Dt) := fun δ => (f δ).bind itD
theorem dib_seq (h : DB X l fd) : DIB X tg l (fIt fd) := PI.mono (PI.or (pi_list h) (PI.or (pi_tup h) (pi_str h))) fun σ H R ⟨Φ, δ, F, ds, hK, en, hf, k⟩ => by
  unfold fIt at hf
  obtain ⟨d, hd, hf⟩ := Option.bind_eq_some_iff.mp hf
  cases d with
  | lst l =>
    cases hf
    refine .inl ⟨Φ, δ, F, _, hK, en, hd, fun v H' F' st r => ?_⟩
    obtain ⟨a, vs, rfl, h1, h2⟩ := r
    exact ⟨a, rfl, ⟨vs, h1⟩, k _ _ H' F' st (plain_list.walk h2) fun H2 s => s.seq h1⟩
  | tup l =>
    cases hf
    refine .inr (.inl ⟨Φ, δ, F, _, hK, en, hd, fun v H' F' st r => ?_⟩)
    obtain ⟨a, vs, rfl, h1, h2⟩ := r
    exact ⟨a, rfl, ⟨vs, st.fh.tup h1⟩, k _ _ H' F' st (plain_tup.walk h2) fun H2 s => s.tup (st.fh.tup h1)⟩
  | str x =>
    cases hf
    refine .inr (.inr ⟨Φ, δ, F, _, hK, en, hd, fun v H' F' st r => ?_⟩)
    exact ⟨x, r, k _ _ H' F' st (plain_str.walk (Reps.map (fun c => rep_str) _)) fun _ _ => trivial⟩
  | _ => cases hf
noncomputable def rngOk (j : Int) : Bool := decide (-(2 ^ 62) ≤ j) && decide (j < 2 ^ 62)
noncomputable def rng1 : List Dt → Option (List Dt)
  | [.int j] => if rngOk j then some (rangeD 0 j.toNat) else none
  | _ => none
noncomputable def fRng (r : List Dt → Option (List Dt)) (f : De → Option (List Dt)) : De → Option (List Dt) := fun δ => (f δ).bind r
variable {p : Pos} {sc : Scope} {x y : Expr} {fs : De → Option (List Dt)}
theorem rngOk_iff {j : Int} (h : rngOk j = true) : -(2 ^ 62) ≤ j ∧ j < 2 ^ 62 := by
  unfold rngOk at h
  simpa using h
theorem reps_range {K : PySem.W.Frag} {F : Hp} (lo : Int) (n : Nat) : Reps K F (rangeD lo n) (rangeV lo n) := Reps.map (fun _ => rep_int) _
theorem di_range1 (h : glOk sc "range" = true) (hm : X.mg "range" = none) (ha : DA X [x] fs) (e1 : ScIs X sc := by rfl) (hs : starEach [x] X.env = [(false, eval x X.env)] := by rfl) : DIF X tg (.Call (.Name "range" p) [x] [] pos) (fRng rng1 fs) :=
  PI.mono (pi_range1D h hm ha.pa e1 hs) fun σ H R ⟨Φ, δ, F, ds, hK, en, hf, k⟩ => by
    unfold fRng at hf
    obtain ⟨as, hd, hf⟩ := Option.bind_eq_some_iff.mp hf
    refine ⟨Φ, δ, F, as, hK, en, hd, fun vs H' F' st r => ?_⟩
    unfold rng1 at hf
    split at hf
    · rename_i j
      split at hf
      · rename_i hj
        cases hf
        simp only [Reps, Rep] at r
        obtain ⟨v, ws, rfl, rfl, rfl⟩ := r
        exact ⟨j, rfl, (rngOk_iff hj).1, (rngOk_iff hj).2, k _ _ H' F' st (plain_range.walk (reps_range _ _)) fun _ _ => trivial⟩
      · cases hf
    · cases hf
end
end L2

namespace L2
open PySem PySem.Spec PyProof.Rows
noncomputable def dC (src : List (Option Nat)) (δ : De) : De := src.map fun o => o.bind fun j => (δ[j]?).join
noncomputable def compL (bb : Dt → De → Option De) (ft : De → Option Bool) (fe : De → Option Dt) (δ : De) : List Dt → Option (List Dt)
  | [] => some []
  | d :: r => (bb d δ).bind fun δ1 => (ft δ1).bind fun b => if b then (fe δ1).bind fun y => (compL bb ft fe δ r).bind fun ys => some (y :: ys) else compL bb ft fe δ r
noncomputable def vComp (src : List (Option Nat)) (fi : De → Option (List Dt)) (bb : Dt → De → Option De) (ft : De → Option Bool) (fe : De → Option Dt) : De → Option T := fun δ =>
  (fi δ).bind fun ds => (compL bb ft fe (dC src δ) ds).bind fun ys => if ys.length ≤ sizeLine then some (.lst ys) else none
noncomputable def tYesD : De → Option Bool := fun _ => some true
noncomputable def DTs (X : Cx) (ifs : List Expr) (f : De → Option Bool) : Prop := PTs X ifs (tTr X.K f)
theorem dts_nil {X : Cx} : DTs X [] tYesD := fun pins s σ H Q I h => pts_nil pins s σ H Q I (by
  obtain ⟨Φ, δ, F, b, hK, en, hf, k⟩ := h
  cases hf
  exact k H F (Step.refl en.fh))
section
variable {X : Cx} {elt tg iter : Expr} {ifs : List Expr} {scope : Scope} {pos : Pos} {M : List Str} {src : List (Option Nat)} {fi : De → Option (List Dt)} {ft : De → Option Bool} {fe : De → Option Dt}
theorem src_inj (S : CmpScope X.N X.env.scope scope M src) {k l j : Nat} (hk : src[k]? = some (some j)) (hl : src[l]? = some (some j)) : k = l := by
  have nm : ∀ k, src[k]? = some (some j) → ∃ x, M[k]? = some x ∧ X.N[j]? = some x := fun k h => by
    have hlt : k < M.length := by rw [S.len]; exact (List.getElem?_eq_some_iff.mp h).1
    have hm : M[k]? = some M[k] := by simp [hlt]
    have hz : (M.zip src)[k]? = some (M[k], some j) := by rw [List.getElem?_zip_eq_some]; exact ⟨hm, h⟩
    exact ⟨_, hm, (S.src _ (List.mem_of_getElem? hz) j rfl).1⟩
  obtain ⟨x, h1, h2⟩ := nm k hk
  obtain ⟨y, h3, h4⟩ := nm l hl
  rw [h2] at h4
  cases h4
  exact (List.getElem?_inj (List.getElem?_eq_some_iff.mp h1).1 S.nd).mp (h1.trans h3.symm)
theorem dC_get {δ : De} {k : Nat} {t : T} (h : (dC src δ)[k]? = some (some t)) : ∃ j, src[k]? = some (some j) ∧ δ[j]? = some (some t) := by
  unfold dC at h
  rw [List.getElem?_map] at h
  cases e : src[k]? with
  | none => rw [e] at h; cases h
  | some o =>
    rw [e] at h
    cases o with
    | none => cases h
    | some j =>
      simp only [Option.map_some, Option.bind_some, Option.some.injEq] at h
      refine ⟨j, rfl, ?_⟩
      cases q : δ[j]? with
      | none => rw [q] at h; cases h
      | some u => rw [q] at h; simp only [Option.join_some] at h; rw [h]
theorem stC_get {σ : St} {k j : Nat} {v : V} (h1 : src[k]? = some (some j)) (h2 : σ[j]? = some (some v)) : (stC src σ)[k]? = some (some v) := by
  unfold stC
  rw [List.getElem?_map, h1]
  simp [h2]
theorem of_stC {σ : St} {k : Nat} {v : V} (h : (stC src σ)[k]? = some (some v)) : ∃ j, src[k]? = some (some j) ∧ σ[j]? = some (some v) := by
  unfold stC at h
  rw [List.getElem?_map] at h
  cases e : src[k]? with
  | none => rw [e] at h; cases h
  | some o =>
    rw [e] at h
    cases o with
    | none => cases h
    | some j =>
      simp only [Option.map_some, Option.bind_some, Option.some.injEq] at h
      refine ⟨j, rfl, ?_⟩
      cases q : σ[j]? with
      | none => rw [q] at h; cases h
      | some u => rw [q] at h; simp only [Option.join_some] at h; rw [h]
theorem En.comp {Φ : Fm} {δ : De} {σ : St} {F H : Hp} (S : CmpScope X.N X.env.scope scope M src) (en : En Φ δ σ F H) : En Φ (dC src δ) (stC src σ) F H := by
  refine ⟨en.fh, en.prot, en.old, en.nw, by simp [dC, stC], fun k t h => ?_, ?_⟩
  · obtain ⟨j, h1, h2⟩ := dC_get h
    obtain ⟨v, hv⟩ := en.has j t h2
    exact ⟨v, stC_get h1 hv⟩
  · obtain ⟨Z, s⟩ := en.sep
    refine ⟨fun k b => ∃ j, src[k]? = some (some j) ∧ Z j b, fun k t v h => ?_, fun k b ⟨j, _, z⟩ => s.out j b z, fun k l b ⟨j, h1, z⟩ ⟨j', h2, z'⟩ => ?_⟩
    · obtain ⟨h1, h2⟩ := of_liveS h
      obtain ⟨j, e1, e2⟩ := dC_get h1
      obtain ⟨j', e3, e4⟩ := of_stC h2
      rw [e1] at e3
      cases e3
      exact (s.own j t v (liveS_of e2 e4)).grow fun b z => ⟨j, e1, z⟩
    · have := s.dis _ _ b z z'
      subst this
      exact src_inj S h1 h2
theorem comp_walk {n : Nat} {g : TG} {tt : TT} {te : TE} {σ : St} {J : It} {H1 : Hp} {Q : VK} {D : Addr} (Pv : Nat → Hp → Prop) (h0 : Pv 0 (upd H1 D (.lst []))) (hgo : ∀ i H, Pv i H → (i < n → J.go i H) ∧ (i = n → J.stop i H))
    (hs : ∀ i x H H', i < n → Pv i H → J.yld i H x H' → g x (stC src σ) H' fun σ2 H2 => Wk (stC src σ) σ2 ∧ tt σ2 H2 fun b H3 => if b = true then te σ2 H3 fun v H4 => ∃ ys, H4 D = some (.lst ys) ∧ ys.length < sizeLine ∧ Pv (i + 1) (upd H4 D (.lst (ys ++ [v]))) else Pv (i + 1) H3)
    (hd : ∀ H, Pv n H → Q (.ref D) H) : CompW src g tt te σ J H1 Q D := by
  refine ⟨fun i m H => m = n - i ∧ i ≤ n ∧ Pv i H, ⟨n, by simp, Nat.zero_le _, h0⟩, ?_⟩
  rintro i m H ⟨rfl, hi, p⟩
  obtain ⟨p1, p2⟩ := hgo i H p
  by_cases hlt : i < n
  · exact .inr ⟨p1 hlt, Pv (i + 1), fun H' p' => ⟨n - (i + 1), by omega, rfl, hlt, p'⟩, fun x H' y => hs i x H H' hlt p y⟩
  · have e : i = n := by omega
    subst e
    exact .inl ⟨p2 rfl, hd H p⟩
theorem comp_of {ts : List Nat} {bb : Dt → De → Option De} (S : CmpScope X.N X.env.scope scope M src) (hts : (ts.all fun k => decide (src[k]? = some none)) = true) : ∀ (σ : St) (H : Hp) (Q : VK), tO X.K (vComp src fi bb ft fe) σ H Q → tComp src (tIB X.K fi) (gD X.K ts bb) (tTr X.K ft) (tL X.K fe) σ H Q := fun σ H Q ⟨Φ, δ, F, t, hK, en, hf, k⟩ => by
  unfold vComp at hf
  obtain ⟨ds, hd, hf⟩ := Option.bind_eq_some_iff.mp hf
  obtain ⟨all, ha, hf⟩ := Option.bind_eq_some_iff.mp hf
  split at hf
  case isFalse => cases hf
  rename_i hz
  cases hf
  rw [tComp_eq]
  refine ⟨Φ, δ, F, ds, hK, en, hd, fun J ok H1 F1 st1 wd ho D hD => ?_⟩
  have en1 := en.step st1
  have k1 := k.step st1
  have wk : ∀ {σ2 : St}, σ2.length = (stC src σ).length → (∀ j, j ∉ ts → σ2[j]? = (stC src σ)[j]?) → Wk (stC src σ) σ2 := fun {σ2} h1 h2 => by
    refine ⟨h1.symm, fun j v hj => ?_⟩
    by_cases hm : j ∈ ts
    · have := List.all_eq_true.mp hts j hm
      have hn : src[j]? = some none := of_decide_eq_true this
      obtain ⟨i, e, _⟩ := of_stC hj
      rw [hn] at e
      cases e
    · rw [h2 j hm]
      exact hj
  have ok' : ∀ {F H : Hp}, Step F1 H1 F H → ok H := fun st => ho _ st.hh
  refine comp_walk (n := ds.length) (fun i H => ∃ F ys done rest', Step F1 H1 F H ∧ H D = some (.lst ys) ∧ F D = none ∧ Reps X.K F done ys ∧ compL bb ft fe (dC src δ) (ds.drop i) = some rest' ∧ done ++ rest' = all) ?_ ?_ ?_ ?_
  · exact ⟨F1, [], [], all, Step.made st1.fh hD, upd_same, st1.fh.free hD, by simp [Reps], by simpa using ha, rfl⟩
  · rintro i H' ⟨F', ys, done, rest', st, _⟩
    obtain ⟨p1, p2, _⟩ := wd i H' F' (ok' st) st.fh st.ff
    exact ⟨p1, p2⟩
  · rintro i x H0' H' hi ⟨F0', ys, done, rest', st0, hD0, hFD0, rys0, hgo, hall⟩ hy0
    obtain ⟨_, _, p3⟩ := wd i H0' F0' (ok' st0) st0.fh st0.ff
    obtain ⟨d, F', hd', stw, rd⟩ := p3 x H' hi hy0
    have st := st0.trans stw
    have hD' : H' D = some (.lst ys) := stw.hh _ _ hD0
    have hFD : F' D = none := stw.keepN hFD0 hD0
    have rys := rys0.same stw.ff
    rw [drop_of hd'] at hgo
    unfold compL at hgo
    obtain ⟨δ1, h1, hgo⟩ := Option.bind_eq_some_iff.mp hgo
    obtain ⟨b, h2, hgo⟩ := Option.bind_eq_some_iff.mp hgo
    refine ⟨Φ, dC src δ, F', d, δ1, hK, (en1.step st).comp S, rd, h1, fun σ2 l2 k2 en2 => ⟨wk l2 k2, Φ, δ1, F', b, hK, en2, h2, fun H3 F3 st3 => ?_⟩⟩
    have hD3 : H3 D = some (.lst ys) := st3.hh _ _ hD'
    have hF3 : F3 D = none := st3.keepN hFD hD'
    dsimp only
    split at hgo
    · rename_i q
      rw [if_pos q]
      obtain ⟨y, hy, hgo⟩ := Option.bind_eq_some_iff.mp hgo
      obtain ⟨zs, hzs, hgo⟩ := Option.bind_eq_some_iff.mp hgo
      cases hgo
      refine ⟨Φ, δ1, F3, y, hK, en2.step st3, hy, fun v H4 F4 st4 rv => ?_⟩
      have hD4 : H4 D = some (.lst ys) := st4.hh _ _ hD3
      have hF4 : F4 D = none := st4.keepN hF3 hD3
      have s14 := (st.trans st3).trans st4
      refine ⟨ys, hD4, ?_, F4, ys ++ [v], done ++ [y], zs, ?_, upd_same, hF4, (rys.same (st3.ff.trans st4.ff)).append (Reps.one rv), hzs, by rw [← hall]; simp⟩
      · have e1 := rys.length
        have e2 : all.length = done.length + (zs.length + 1) := by rw [← hall]; simp
        omega
      · refine ⟨fun c o e => ?_, s14.ff, fun c o e => ?_, s14.nw⟩
        · rw [upd_ne (ne_of_none e hD)]
          exact s14.hh _ _ e
        · rw [upd_ne (ne_of_none e hF4)]
          exact s14.fh _ _ e
    · rename_i q
      rw [if_neg q]
      exact ⟨F3, ys, done, rest', st.trans st3, hD3, hF3, rys.same st3.ff, hgo, hall⟩
  · rintro H' ⟨F', ys, done, rest', st, hD', hFD, rys, hgo, hall⟩
    rw [List.drop_length] at hgo
    cases hgo
    rw [List.append_nil] at hall
    subst hall
    exact k1 (.ref D) H' F' (fun b => b = D) st ⟨D, ys, rfl, rfl, hD', rys⟩ fun b z => by
      subst z
      exact ⟨hFD, hD, _, hD', nofun⟩
theorem do_comp {ts : List Nat} {bb : Dt → De → Option De} (S : CmpScope X.N X.env.scope scope M src) (hc : X.calm = true) (hi : DIB X tg iter fi) (hg : M.Nodup → ∀ C s H ex, DG (cxC X M scope C s H ex) tg ts bb)
    (ht : ∀ C s H ex, DTs (cxC X M scope C s H ex) ifs ft) (he : ∀ C s H ex, DL (cxC X M scope C s H ex) elt fe) (hts : (ts.all fun k => decide (src[k]? = some none)) = true) (hs : ∀ x, foldedSetIterable iter X.env x = pure x := by intro _; rfl) :
    DO X (.ListComp elt [⟨tg, iter, ifs, 0⟩] scope pos) (vComp src fi bb ft fe) := PE.mono (pe_lcomp (g := gD X.K ts bb) (tt := tTr X.K ft) (te := tL X.K fe) S hc hi (fun nd C s H ex => hg nd C s H ex) (fun C s H ex => ht C s H ex) (fun C s H ex => he C s H ex) hs) (comp_of S hts)
end
noncomputable def runD (m : Nat) (g : De → Option Out) : List Dt → Option T := fun ds => match g (ds.map (fun d => some (T.leaf d)) ++ List.replicate (m - ds.length) none) with
  | some (.rt t) => some t
  | some (.nx _) => some (.leaf .non)
  | _ => none
theorem start_en {K : PySem.W.Frag} {F H : Hp} {ds : List Dt} {vs : List V} {N : List Str} (fh : Same F H) (r : Reps K F ds vs) :
    En ⟨K, F, H, fun _ => False⟩ (ds.map (fun d => some (T.leaf d)) ++ List.replicate (N.length - ds.length) none) (start N vs) F H := by
  have hl := r.length
  have key : ∀ (i : Nat) (t : T), (ds.map (fun d => some (T.leaf d)) ++ List.replicate (N.length - ds.length) none)[i]? = some (some t) → ∃ d v, t = T.leaf d ∧ vs[i]? = some v ∧ Rep K F d v ∧ (start N vs)[i]? = some (some v) := fun i t h => by
    by_cases hi : i < ds.length
    · rw [List.getElem?_append_left (by simpa using hi), List.getElem?_map] at h
      have hd : ds[i]? = some ds[i] := by simp [hi]
      rw [hd] at h
      cases h
      obtain ⟨v, hv, rv⟩ := r.get hd
      refine ⟨_, v, rfl, hv, rv, ?_⟩
      unfold start
      rw [List.getElem?_append_left (by simp; omega), List.getElem?_map, hv]
      rfl
    · rw [List.getElem?_append_right (by simpa using hi)] at h
      rw [List.getElem?_replicate] at h
      split at h <;> cases h
  refine ⟨fh, fun b o h _ => h, Same.refl _, fun b o h => .inl h, by simp [start, hl], fun i t h => ?_, fun _ _ => False, fun i t v h => ?_, fun _ _ z => z.elim, fun _ _ _ z => z.elim⟩
  · obtain ⟨d, v, _, _, _, e⟩ := key i t h
    exact ⟨v, e⟩
  · obtain ⟨h1, h2⟩ := of_liveS h
    obtain ⟨d, w, rfl, _, rv, e⟩ := key i t h1
    rw [h2] at e
    cases e
    exact rv
section
variable {P : Program} {w : World} {K : PySem.W.Frag} {mg : Str → Option Value} {base : Heap}
theorem Rt.step {F H : Hp} {t : T} {v : V} {F' H' : Hp} (h : Rt ⟨K, F, H, fun _ => False⟩ t v F' H') {Q : VK} (k : KO K F H t Q) : Q v H' := by
  obtain ⟨fh, prot, old, nw, S, o, hs⟩ := h
  refine k v H' F' S ⟨fun b u e => prot b u e id, old, fh, fun b u e => (nw b u e).elim .inl fun z => .inr (z.imp (fun y => y.elim id False.elim) id)⟩ o fun b z => ?_
  obtain ⟨h1, h2, h3⟩ := hs b z
  exact ⟨h1, h3.elim id False.elim, h2⟩
theorem mk_ok {x : Str} {st : Stmt} {N ps : List Str} {k n : Nat} {g : De → Option Out} (D : DefF K mg x st ps) (S : FnScope N ps (defScope st)) (hn : ps.length = n)
    (hbody : ∀ (f : Addr) (cdv : Value) (A : Around) (outer : List Env) (s : Shared) (H : Hp) (E : XK), Room k (A.deeper (envOfC x (defScope st) s.heap.objs.size f cdv)) → DS (cxOf CX0 P w K mg base N x (defScope st) f cdv A outer s H E).nox (defBody st) g) :
    OkF P w K mg base x (k + 1) ps (spD K n (runD N.length g)) := by
  refine D.ok S (fun vs H Q E h => ?_) (fun f cdv A outer s H vs Q E hr h => ?_)
  · obtain ⟨F, ds, t, _, hl, r, _⟩ := h
    rw [r.length, hl, hn]
  · obtain ⟨F, ds, t, fh, hl, r, hf, kq⟩ := h
    refine ⟨_, hbody f cdv A outer s H E hr, ?_⟩
    unfold runD at hf
    split at hf
    · rename_i t' q
      cases hf
      exact ⟨⟨K, F, H, fun _ => False⟩, _, F, _, rfl, start_en fh r, q, fun v F' H' z => z.step kq⟩
    · rename_i δ' q
      cases hf
      exact ⟨⟨K, F, H, fun _ => False⟩, _, F, _, rfl, start_en fh r, q, fun σ' F' H' z => (z.rt (Step.refl z.fh) (t := .leaf .non) (S := fun _ => False) (rep_non (K := K) (F := F')) fun _ y => y.elim).step kq⟩
    · cases hf
theorem fn_ok {x : Str} {st : Stmt} {N ps : List Str} {k n : Nat} {g : De → Option Out} {f : Addr} {fd : FuncData} (D : Fun K x x st f fd) (S : FnScope N ps (defScope st)) (hn : ps.length = n)
    (hbody : ∀ (cdv : Value) (A : Around) (outer : List Env) (s : Shared) (H : Hp) (E : XK), Room k (A.deeper (envOfC x (defScope st) s.heap.objs.size f cdv)) → DS (cxOf CX0 P w K mg base N x (defScope st) f cdv A outer s H E).nox (defBody st) g) :
    FnOk P w K mg base CX0 (k + 1) f fd ps (spD K n (runD N.length g)) := by
  refine D.ok S (fun vs H Q E h => ?_) (fun cdv A outer s H vs Q E hr h => ?_)
  · obtain ⟨F, ds, t, _, hl, r, _⟩ := h
    rw [r.length, hl, hn]
  · obtain ⟨F, ds, t, fh, hl, r, hf, kq⟩ := h
    refine ⟨_, hbody cdv A outer s H E hr, ?_⟩
    unfold runD at hf
    split at hf
    · rename_i t' q
      cases hf
      exact ⟨⟨K, F, H, fun _ => False⟩, _, F, _, rfl, start_en fh r, q, fun v F' H' z => z.step kq⟩
    · rename_i δ' q
      cases hf
      exact ⟨⟨K, F, H, fun _ => False⟩, _, F, _, rfl, start_en fh r, q, fun σ' F' H' z => (z.rt (Step.refl z.fh) (t := .leaf .non) (S := fun _ => False) (rep_non (K := K) (F := F')) fun _ y => y.elim).step kq⟩
    · cases hf
end
end L2

namespace L2
open PySem PySem.Spec PyProof.Rows
section
variable {K : PySem.W.Frag} {F H : Hp} {Q : VK}
theorem KO.int {i : Int} (k : KO K F H (.leaf (.int i)) Q) (fh : Same F H) : Q (.int i) H := k.leaf.here fh rep_int
theorem KO.bl {i : Bool} (k : KO K F H (.leaf (.bl i)) Q) (fh : Same F H) : Q (.bl i) H := k.leaf.here fh rep_bl
theorem KO.str {i : Str} (k : KO K F H (.leaf (.str i)) Q) (fh : Same F H) : Q (.str i) H := k.leaf.here fh rep_str
theorem KO.tup {l : List Dt} {vs : List V} {p : Addr} (k : KO K F H (.leaf (.tup l)) Q) (fh : Same F H) (r : Reps K F l vs) (hp : H p = none) : Q (.ref p) (upd H p (.tup vs)) := by
  refine k.leaf _ _ _ (Step.new fh hp) ?_
  simp only [Rep]
  exact ⟨p, vs, rfl, SqT.of upd_same, r.same (Same.upd (fh.free hp))⟩
end
noncomputable def mulOk (i j : Int) : Bool := (decide (-(2 ^ 64) < i) && decide (i < 2 ^ 64)) || (decide (-(2 ^ 64) < j) && decide (j < 2 ^ 64))
theorem mulOk_c {i j : Int} (h : mulOk i j = true) : CMul i j := by
  unfold mulOk at h
  simp only [Bool.or_eq_true, Bool.and_eq_true, decide_eq_true_eq] at h
  exact h
theorem mulOk_l {i j : Int} (h1 : -1000000000000000000 < i) (h2 : i < 1000000000000000000) : mulOk i j = true := by
  unfold mulOk
  simp only [Bool.or_eq_true, Bool.and_eq_true, decide_eq_true_eq]
  left
  omega
theorem mulOk_r {i j : Int} (h1 : -1000000000000000000 < j) (h2 : j < 1000000000000000000) : mulOk i j = true := by
  unfold mulOk
  simp only [Bool.or_eq_true, Bool.and_eq_true, decide_eq_true_eq]
  right
  omega
noncomputable def powOk (i j : Int) : Bool := decide (0 ≤ j) && decide (j ≤ 1000000) && decide (i.natAbs < 2 ^ 64)
theorem powOk_c {i j : Int} (h : powOk i j = true) : CPow i j := by
  unfold powOk at h
  simp only [Bool.and_eq_true, decide_eq_true_eq] at h
  exact ⟨h.1.1, h.1.2, h.2⟩
noncomputable def gAdd : Dt → Dt → Option T
  | .int i, .int j => some (.leaf (.int (i + j)))
  | .str a, .str b => if a.length + b.length ≤ sizeLine then some (.leaf (.str (a ++ b))) else none
  | .lst l, .lst m => if l.length + m.length ≤ sizeLine then some (.lst (l ++ m)) else none
  | .tup l, .tup m => if l.length + m.length ≤ sizeLine ∧ l ≠ [] ∧ m ≠ [] then some (.leaf (.tup (l ++ m))) else none
  | _, _ => none
noncomputable def gSubD : Dt → Dt → Option T
  | .int i, .int j => some (.leaf (.int (i - j)))
  | _, _ => none
noncomputable def gMul : Dt → Dt → Option T
  | .int i, .int j => if mulOk i j then some (.leaf (.int (i * j))) else none
  | _, _ => none
noncomputable def gMod : Dt → Dt → Option T
  | .int i, .int j => if 0 < j then some (.leaf (.int (i % j))) else none
  | _, _ => none
noncomputable def gPow : Dt → Dt → Option T
  | .int i, .int j => if powOk i j then some (.leaf (.int (i ^ j.toNat))) else none
  | _, _ => none
noncomputable def gCmp (f : Int → Int → Bool) : Dt → Dt → Option T
  | .int i, .int j => some (.leaf (.bl (f i j)))
  | _, _ => none
section
variable {X : Cx}
theorem op_catR : OpR X (binaryOp .Add) (fun x y H Q => ∃ l b xs zs, x = .ref l ∧ y = .ref b ∧ SqL X.K H l xs ∧ SqL X.K H b zs ∧ xs.length + zs.length ≤ sizeLine ∧ ∀ p, H p = none → Q (.ref p) (upd H p (.lst (xs ++ zs)))) := by
  intro pins s σ H x y v u Q I rx ry h
  obtain ⟨l, b, xs, zs, rfl, rfl, hH, hB, hz, q⟩ := h
  cases rx
  cases ry
  obtain ⟨its, r, pl, _⟩ := I.list hH
  obtain ⟨its2, r2, pl2, _⟩ := I.list hB
  obtain ⟨⟨cls, dd, data, sl⟩, n, ho, hc, hd0, hd⟩ := pl
  obtain ⟨⟨cls2, dd2, data2, sl2⟩, n2, ho2, hc2, hd02, hd2⟩ := pl2
  simp only at hc hd hc2 hd2
  subst hc hd hc2 hd2
  have e : its.toArray ++ its2.toArray = (its ++ its2).toArray := by simp
  refine concat_meets ⟨_, ho, rfl⟩ ⟨_, ho2, rfl⟩ noFill_list_add seq_list_add PySem.F.slot_list_add PySem.F.entry_list_add (PySem.F.args_list_add_2 _ _) (list_addW l b its.toArray its2.toArray n n2 dd dd2 sl sl2 (by rw [List.size_toArray, List.size_toArray, ← r.length, ← r2.length]; exact hz)) ⟨ho, ho2, ?_⟩
  rw [e]
  exact ⟨.ref _, _, I.lnew (t' := s.toks) (r.append r2) (by rw [List.length_append]; exact hz), rfl, q _ I.fresh⟩
noncomputable abbrev rAddD (K : PySem.W.Frag) : R2 := fun x y H Q => (rI0 (fun i j => .int (i + j)) x y H Q) ∨ (∃ i j, x = .str i ∧ y = .str j ∧ i.length + j.length ≤ sizeLine ∧ Q (.str (i ++ j)) H) ∨
  (∃ l b xs zs, x = .ref l ∧ y = .ref b ∧ SqL K H l xs ∧ SqL K H b zs ∧ xs.length + zs.length ≤ sizeLine ∧ ∀ p, H p = none → Q (.ref p) (upd H p (.lst (xs ++ zs)))) ∨ rCatT K x y H Q
theorem op_addD : OpR X (binaryOp .Add) (rAddD X.K) := OpR.or op_add (OpR.or op_add_str (OpR.or op_catR op_catT))
theorem r_add {K : PySem.W.Frag} : R2D K (rAddD K) gAdd := by
  intro F H x y vx vy Q t fh rx ry hg k
  unfold gAdd at hg
  split at hg <;> first | (cases hg; done) | skip
  · cases hg; cases rx; cases ry; exact .inl ⟨_, _, rfl, rfl, k.int fh⟩
  · split at hg
    · cases hg; cases rx; cases ry; exact .inr (.inl ⟨_, _, rfl, rfl, by assumption, k.str fh⟩)
    · cases hg
  · split at hg
    · rename_i hl
      cases hg
      obtain ⟨a, vs, rfl, h1, h2⟩ := rx
      obtain ⟨b, ws, rfl, h3, h4⟩ := ry
      exact .inr (.inr (.inl ⟨a, b, vs, ws, rfl, rfl, h1, h3, by rw [h2.length, h4.length]; exact hl, fun p hp => own_lst k fh (h2.append h4) hp⟩))
    · cases hg
  · split at hg
    · rename_i hl
      cases hg
      obtain ⟨a, vs, rfl, h1, h2⟩ := rx
      obtain ⟨b, ws, rfl, h3, h4⟩ := ry
      obtain ⟨hl, n1, n2⟩ := hl
      refine .inr (.inr (.inr ⟨a, b, vs, ws, rfl, rfl, fh.tup h1, fh.tup h3, fun z => ?_, by rw [h2.length, h4.length]; exact hl, fun z => ?_, fun _ p hp => k.tup fh (h2.append h4) hp⟩))
      · subst z
        have := h2.length
        exact n1 (List.eq_nil_of_length_eq_zero this.symm)
      · subst z
        have := h4.length
        exact absurd (List.eq_nil_of_length_eq_zero this.symm) n2
    · cases hg
theorem r_sub {K : PySem.W.Frag} : R2D K (rI0 fun i j => .int (i - j)) gSubD := by
  intro F H x y vx vy Q t fh rx ry hg k
  unfold gSubD at hg
  split at hg <;> first | (cases hg; done) | skip
  cases hg; cases rx; cases ry; exact ⟨_, _, rfl, rfl, k.int fh⟩
theorem r_mul {K : PySem.W.Frag} : R2D K (rI CMul fun i j => .int (i * j)) gMul := by
  intro F H x y vx vy Q t fh rx ry hg k
  unfold gMul at hg
  split at hg <;> first | (cases hg; done) | skip
  split at hg
  · cases hg; cases rx; cases ry; exact ⟨_, _, rfl, rfl, mulOk_c (by assumption), k.int fh⟩
  · cases hg
theorem r_mod {K : PySem.W.Frag} : R2D K (rI (fun _ j => 0 < j) fun i j => .int (i % j)) gMod := by
  intro F H x y vx vy Q t fh rx ry hg k
  unfold gMod at hg
  split at hg <;> first | (cases hg; done) | skip
  split at hg
  · cases hg; cases rx; cases ry; exact ⟨_, _, rfl, rfl, by assumption, k.int fh⟩
  · cases hg
theorem r_pow {K : PySem.W.Frag} : R2D K (rI CPow fun i j => .int (i ^ j.toNat)) gPow := by
  intro F H x y vx vy Q t fh rx ry hg k
  unfold gPow at hg
  split at hg <;> first | (cases hg; done) | skip
  split at hg
  · cases hg; cases rx; cases ry; exact ⟨_, _, rfl, rfl, powOk_c (by assumption), k.int fh⟩
  · cases hg
theorem r_cmp {K : PySem.W.Frag} {f : Int → Int → Bool} : R2D K (rI0 fun i j => .bl (f i j)) (gCmp f) := by
  intro F H x y vx vy Q t fh rx ry hg k
  unfold gCmp at hg
  split at hg <;> first | (cases hg; done) | skip
  cases hg; cases rx; cases ry; exact ⟨_, _, rfl, rfl, k.bl fh⟩
noncomputable def eqD : Dt → Dt → Option Bool
  | .non, .non => some true
  | .non, .int _ => some false
  | .non, .bl _ => some false
  | .non, .str _ => some false
  | .int _, .non => some false
  | .bl _, .non => some false
  | .str _, .non => some false
  | .int i, .int j => some (decide (i = j))
  | .bl i, .bl j => some (decide (i = j))
  | .str i, .str j => some (decide (i = j))
  | .int _, .str _ => some false
  | .str _, .int _ => some false
  | .bl _, .str _ => some false
  | .str _, .bl _ => some false
  | .tup l, .tup m => if cmpbs l m && decide (deeps l ≤ 59) then some (peqs l m) else none
  | .lst l, .lst m => if cmpbs l m && decide (deeps l ≤ 59) then some (peqs l m) else none
  | _, _ => none
noncomputable def gEq (neg : Bool) (x y : Dt) : Option T := (eqD x y).map fun b => .leaf (.bl (if neg then !b else b))
noncomputable abbrev rEqA (K : PySem.W.Frag) : R2 := fun x y H Q => rEq x y H Q ∨ rEqD K false x y H Q
noncomputable abbrev rNeA (K : PySem.W.Frag) : R2 := fun x y H Q => rNe x y H Q ∨ rEqD K true x y H Q
theorem op_eqA {k : Nat} (hr : Room k X.A) : OpR X (compareOp .Eq) (rEqA X.K) := OpR.or op_eq (op_eqD hr rfl)
theorem op_neA {k : Nat} (hr : Room k X.A) : OpR X (compareOp .NotEq) (rNeA X.K) := OpR.or op_ne (op_neD hr rfl)
theorem eqD_of {K : PySem.W.Frag} {F H : Hp} {x y : Dt} {vx vy : V} {b : Bool} (fh : Same F H) (rx : RepB K F H x vx) (ry : RepB K F H y vy) (h : eqD x y = some b) :
    (scal vx vy = true ∧ b = decide (vx = vy)) ∨ (((∃ l m, x = .tup l ∧ y = .tup m) ∨ ∃ l m, x = .lst l ∧ y = .lst m) ∧ cmpb x y = true ∧ deep x ≤ 60 ∧ b = peq x y) := by
  unfold eqD at h
  split at h <;> first
    | (cases h; done)
    | (cases h; cases rx; cases ry; left; refine ⟨rfl, ?_⟩; simp; done)
    | skip
  · right
    split at h
    · rename_i q
      simp only [Bool.and_eq_true, decide_eq_true_eq] at q
      cases h
      exact ⟨.inl ⟨_, _, rfl, rfl⟩, by simp only [cmpb]; exact q.1, by simp only [deep]; omega, by simp only [peq]⟩
    · cases h
  · right
    split at h
    · rename_i q
      simp only [Bool.and_eq_true, decide_eq_true_eq] at q
      cases h
      exact ⟨.inr ⟨_, _, rfl, rfl⟩, by simp only [cmpb]; exact q.1, by simp only [deep]; omega, by simp only [peq]⟩
    · cases h
theorem r_eq {K : PySem.W.Frag} : R2D K (rEqA K) (gEq false) := by
  intro F H x y vx vy Q t fh rx ry hg k
  unfold gEq at hg
  obtain ⟨b, hb, hg⟩ := Option.map_eq_some_iff.mp hg
  cases hg
  have kk : Q (.bl b) H := k.bl fh
  rcases eqD_of fh rx ry hb with ⟨h1, rfl⟩ | ⟨h1, h2, h3, rfl⟩
  · exact .inl ⟨h1, kk⟩
  · exact .inr ⟨x, y, h1, rx.rep fh, ry.rep fh, h2, h3, kk⟩
theorem r_ne {K : PySem.W.Frag} : R2D K (rNeA K) (gEq true) := by
  intro F H x y vx vy Q t fh rx ry hg k
  unfold gEq at hg
  obtain ⟨b, hb, hg⟩ := Option.map_eq_some_iff.mp hg
  cases hg
  have kk : Q (.bl (!b)) H := k.bl fh
  rcases eqD_of fh rx ry hb with ⟨h1, rfl⟩ | ⟨h1, h2, h3, rfl⟩
  · exact .inl ⟨h1, kk⟩
  · exact .inr ⟨x, y, h1, rx.rep fh, ry.rep fh, h2, h3, kk⟩
noncomputable def isNon : Dt → Bool
  | .non => true
  | _ => false
noncomputable def gIs (neg : Bool) (x y : Dt) : Option T := match y with
  | .non => some (.leaf (.bl (if neg then !isNon x else isNon x)))
  | _ => none
theorem isNon_of {K : PySem.W.Frag} {F H : Hp} {x : Dt} {v : V} (r : RepB K F H x v) : isNon x = decide (v = .non) := by
  cases x <;> first
    | (cases r; rfl)
    | (obtain ⟨a, vs, rfl, _⟩ := r; rfl)
    | (simp only [RepB, Rep] at r; obtain ⟨a, C, dx, fs, rfl, _⟩ := r; rfl)
theorem r_isnot {K : PySem.W.Frag} : R2D K (fun x y H Q => y = .non ∧ Q (.bl (!decide (x = .non))) H) (gIs true) := by
  intro F H x y vx vy Q t fh rx ry hg k
  cases y <;> first | cases hg; done | skip
  cases hg; cases ry
  refine ⟨rfl, ?_⟩
  rw [← isNon_of rx]
  exact k.bl fh
noncomputable def flatD : Dt → Bool
  | .non => true
  | .bl _ => true
  | .int _ => true
  | .str _ => true
  | _ => false
noncomputable def eqF : Dt → Dt → Bool
  | .non, .non => true
  | .bl a, .bl b => a == b
  | .bl a, .int b => (if a then 1 else 0) == b
  | .int a, .bl b => a == (if b then 1 else 0)
  | .int a, .int b => a == b
  | .str a, .str b => a == b
  | _, _ => false
noncomputable def inS (j i : Str) : Bool := !(Builtin.Str.occurrences j i 0 j.length 1).isEmpty
noncomputable def inD : Dt → Dt → Option Bool
  | .str i, .str j => some (inS j i)
  | x, .lst l => if flatD x && l.all flatD then some (l.any fun y => eqF y x) else none
  | x, .tup l => if flatD x && l.all flatD then some (l.any fun y => eqF y x) else none
  | _, _ => none
noncomputable def gIn (neg : Bool) (x y : Dt) : Option T := (inD x y).map fun b => .leaf (.bl (if neg then !b else b))
theorem flat_of {K : PySem.W.Frag} {F : Hp} {d : Dt} {v : V} (r : Rep K F d v) (h : flatD d = true) : flatV v = true := by
  cases d <;> simp only [Rep] at r <;> first
    | (subst r; rfl)
    | cases h
theorem eqF_of {K : PySem.W.Frag} {F F' : Hp} {d e : Dt} {v w : V} (r : Rep K F d v) (r' : Rep K F' e w) (h : flatD d = true) (h' : flatD e = true) : eqF d e = eqV v w := by
  cases d <;> first | cases h; done | skip
  all_goals cases e <;> first | cases h'; done | skip
  all_goals simp only [Rep] at r r'; subst r r'; rfl
theorem flats_of {K : PySem.W.Frag} {F : Hp} : ∀ {l : List Dt} {vs : List V}, Reps K F l vs → l.all flatD = true → vs.all flatV = true
  | [], vs, r, _ => by simp only [Reps] at r; subst r; rfl
  | d :: l, vs, r, h => by
    simp only [Reps] at r
    obtain ⟨v, ws, rfl, h1, h2⟩ := r
    rw [List.all_cons, Bool.and_eq_true] at h ⊢
    exact ⟨flat_of h1 h.1, flats_of h2 h.2⟩
theorem any_of {K : PySem.W.Frag} {F F' : Hp} {x : Dt} {w : V} (r' : Rep K F' x w) (hx : flatD x = true) : ∀ {l : List Dt} {vs : List V}, Reps K F l vs → l.all flatD = true → (l.any fun y => eqF y x) = inV w vs
  | [], vs, r, _ => by simp only [Reps] at r; subst r; rfl
  | d :: l, vs, r, h => by
    simp only [Reps] at r
    obtain ⟨v, ws, rfl, h1, h2⟩ := r
    rw [List.all_cons, Bool.and_eq_true] at h
    unfold inV
    rw [List.any_cons, List.any_cons, eqF_of h1 r' h.1 hx, any_of r' hx h2 h.2]
    rfl
noncomputable abbrev rInA (K : PySem.W.Frag) (neg : Bool) : R2 := fun x y H Q => (∃ i j, x = .str i ∧ y = .str j ∧ Q (.bl (if neg then !inS j i else inS j i)) H) ∨ rIn K neg x y H Q
theorem op_inA : OpR X (compareOp .In) (rInA X.K false) := OpR.or op_in_str op_in_seq
theorem op_notInA : OpR X (compareOp .NotIn) (rInA X.K true) := OpR.or op_notIn_str op_notIn_seq
theorem r_in {K : PySem.W.Frag} (neg : Bool) : R2D K (rInA K neg) (gIn neg) := by
  intro F H x y vx vy Q t fh rx ry hg k
  unfold gIn at hg
  obtain ⟨b, hb, hg⟩ := Option.map_eq_some_iff.mp hg
  cases hg
  have kk := k.bl fh
  unfold inD at hb
  split at hb <;> first | (cases hb; done) | skip
  · cases hb; cases rx; cases ry
    exact .inl ⟨_, _, rfl, rfl, kk⟩
  · split at hb
    · rename_i q
      rw [Bool.and_eq_true] at q
      cases hb
      obtain ⟨a, vs, rfl, h1, h2⟩ := ry
      have rx' := rx.rep fh
      rw [any_of rx' q.1 h2 q.2] at kk
      exact .inr ⟨a, vs, rfl, .inl h1, flat_of rx' q.1, flats_of h2 q.2, kk⟩
    · cases hb
  · split at hb
    · rename_i q
      rw [Bool.and_eq_true] at q
      cases hb
      obtain ⟨a, vs, rfl, h1, h2⟩ := ry
      have rx' := rx.rep fh
      rw [any_of rx' q.1 h2 q.2] at kk
      exact .inr ⟨a, vs, rfl, .inr (fh.tup h1), flat_of rx' q.1, flats_of h2 q.2, kk⟩
    · cases hb
theorem atI_reps {K : PySem.W.Frag} {F : Hp} {l : List Dt} {vs : List V} {i : Int} {d : Dt} (r : Reps K F l vs) (h : atI l i = some d) : ∃ v, atI vs i = some v ∧ Rep K F d v := by
  unfold atI at h ⊢
  rw [r.length]
  obtain ⟨j, hj, h⟩ := Option.bind_eq_some_iff.mp h
  obtain ⟨v, e, rv⟩ := r.get h
  exact ⟨v, by rw [hj]; exact e, rv⟩
noncomputable def gIx : Dt → Dt → Option T
  | .lst l, .int i => (atI l i).map .leaf
  | .tup l, .int i => (atI l i).map .leaf
  | .str x, .int i => if x.length ≤ sizeLine then (atI x.cps.toList i).map fun c => .leaf (.str ⟨#[c]⟩) else none
  | _, _ => none
theorem r_ix {K : PySem.W.Frag} : R2D K (rIx K) gIx := by
  intro F H x y vx vy Q t fh rx ry hg k
  unfold gIx at hg
  split at hg <;> first | (cases hg; done) | skip
  · obtain ⟨d, hd, hg⟩ := Option.map_eq_some_iff.mp hg
    cases hg; cases ry
    obtain ⟨a, vs, rfl, h1, h2⟩ := rx
    obtain ⟨v, e, rv⟩ := atI_reps h2 hd
    exact .inl ⟨a, vs, _, v, rfl, rfl, h1, e, k.leaf.here fh rv⟩
  · obtain ⟨d, hd, hg⟩ := Option.map_eq_some_iff.mp hg
    cases hg; cases ry
    obtain ⟨a, vs, rfl, h1, h2⟩ := rx
    obtain ⟨v, e, rv⟩ := atI_reps h2 hd
    exact .inr (.inl ⟨a, vs, _, v, rfl, rfl, fh.tup h1, e, k.leaf.here fh rv⟩)
  · split at hg
    · rename_i hl
      obtain ⟨c, hc, hg⟩ := Option.map_eq_some_iff.mp hg
      cases hg; cases rx; cases ry
      exact .inr (.inr ⟨_, _, c, rfl, rfl, hl, hc, k.str fh⟩)
    · cases hg
variable {a b c : Expr} {fa fb fc : De → Option Dt} {pos : Pos}
noncomputable def cutD (l : List Dt) (lo hi : Option Int) : List Dt := (l.drop (HT.sIx l.length 0 lo)).take (HT.sIx l.length l.length hi - HT.sIx l.length 0 lo)
noncomputable def gSl : Dt → Option Int → Option Int → Option T
  | .str x, lo, hi => if x.length ≤ sizeLine then some (.leaf (.str (Txt.slice x lo hi))) else none
  | .lst l, lo, hi => some (.lst (cutD l lo hi))
  | .tup l, lo, hi => if HT.sIx l.length 0 lo = 0 ∧ HT.sIx l.length l.length hi = l.length then none else some (.leaf (.tup (cutD l lo hi)))
  | _, _, _ => none
noncomputable abbrev rSlA (K : PySem.W.Frag) : V → Option Int → Option Int → Hp → VK → Prop := fun x lo hi H Q => rSlS x lo hi H Q ∨ rSlL K x lo hi H Q ∨ rSlT K x lo hi H Q
theorem sl_all : SlR X (rSlA X.K) := SlR.or sl_str (SlR.or sl_list sl_tup)
theorem cut_reps {K : PySem.W.Frag} {F : Hp} {l : List Dt} {vs : List V} (r : Reps K F l vs) (lo hi : Option Int) : Reps K F (cutD l lo hi) (cutV vs lo hi) := by
  unfold cutD cutV
  rw [r.length]
  exact (r.drop _).take _
theorem r_sl {K : PySem.W.Frag} {F H : Hp} {x : Dt} {v : V} {lo hi : Option Int} {Q : VK} {t : T} (fh : Same F H) (rx : RepB K F H x v) (hg : gSl x lo hi = some t) (k : KO K F H t Q) : rSlA K v lo hi H Q := by
  unfold gSl at hg
  split at hg <;> first | (cases hg; done) | skip
  · split at hg
    · cases hg; cases rx
      exact .inl ⟨_, rfl, by assumption, k.str fh⟩
    · cases hg
  · obtain ⟨a, vs, rfl, h1, h2⟩ := rx
    cases hg
    exact .inr (.inl ⟨a, vs, rfl, h1, fun p hp => own_lst k fh (cut_reps h2 _ _) hp⟩)
  · obtain ⟨a, vs, rfl, h1, h2⟩ := rx
    split at hg
    · cases hg
    · rename_i hn
      cases hg
      rw [← h2.length] at hn
      exact .inr (.inr ⟨a, vs, rfl, fh.tup h1, hn, fun p hp => k.tup fh (cut_reps h2 _ _) hp⟩)
noncomputable def tOD (K : PySem.W.Frag) (f : De → Option (Option Int)) : TO := fun σ H Q => ∃ Φ δ F d, Fm.K Φ = K ∧ En Φ δ σ F H ∧ f δ = some d ∧ ∀ H' F', Step F H F' H' → Q d H'
noncomputable def oNone : De → Option (Option Int) := fun _ => some none
noncomputable def asI : Dt → Option Int
  | .int i => some i
  | _ => none
noncomputable def oSome (f : De → Option Dt) : De → Option (Option Int) := fun δ => (f δ).bind fun d => (asI d).map some
theorem repB_int {K : PySem.W.Frag} {F H : Hp} {x : Dt} {v : V} {b : Int} (h : asI x = some b) (r : RepB K F H x v) : v = .int b := by
  cases x <;> first | cases h; done | skip
  cases h; exact r
noncomputable def DP (X : Cx) (e : Option Expr) (f : De → Option (Option Int)) : Prop := PO X e (tOD X.K f)
theorem dp_none : DP X none oNone := fun pins s σ H Q I h => po_none pins s σ H Q I (by
  obtain ⟨Φ, δ, F, d, hK, en, hf, k⟩ := h
  cases hf
  exact k H F (Step.refl en.fh))
theorem dp_some {e : Expr} {f : De → Option Dt} (h : DB X e f) : DP X (some e) (oSome f) := fun pins s σ H Q I q => po_some h pins s σ H Q I (by
  obtain ⟨Φ, δ, F, d, hK, en, hf, k⟩ := q
  unfold oSome at hf
  obtain ⟨x, hx, hf⟩ := Option.bind_eq_some_iff.mp hf
  obtain ⟨i, hi, hf⟩ := Option.map_eq_some_iff.mp hf
  cases hf
  exact ⟨Φ, δ, F, x, hK, en, hx, fun v H' F' st r => ⟨i, repB_int hi r, k H' F' st⟩⟩)
noncomputable def vSl (fa : De → Option Dt) (fl fh : De → Option (Option Int)) : De → Option T := fun δ => (fa δ).bind fun x => (fl δ).bind fun l => (fh δ).bind fun h => gSl x l h
theorem do_slice {e : Expr} {lo hi : Option Expr} {p2 : Pos} {f : De → Option Dt} {fl fh : De → Option (Option Int)} (he : DB X e f) (hl : DP X lo fl) (hh : DP X hi fh) : DO X (.Subscript e (.Slice lo hi none p2) pos) (vSl f fl fh) :=
  PE.mono (pe_slice sl_all he hl hh) fun σ H Q ⟨Φ, δ, F, t, hK, en, hf, k⟩ => by
    unfold vSl at hf
    obtain ⟨x, hx, hf⟩ := Option.bind_eq_some_iff.mp hf
    obtain ⟨l, hl, hf⟩ := Option.bind_eq_some_iff.mp hf
    obtain ⟨h, hh, hf⟩ := Option.bind_eq_some_iff.mp hf
    exact ⟨Φ, δ, F, x, hK, en, hx, fun v H1 F1 s1 r1 => ⟨Φ, δ, F1, l, hK, en.step s1, hl, fun H2 F2 s2 => ⟨Φ, δ, F2, h, hK, en.step (s1.trans s2), hh, fun H3 F3 s3 => r_sl s3.fh (r1.step (s2.ff.trans s3.ff) (s2.hh.trans s3.hh)) hf (k.step ((s1.trans s2).trans s3))⟩⟩⟩
noncomputable def vNeg (f : De → Option Dt) : De → Option T := fun δ => (f δ).bind fun d => (asI d).map fun i => .leaf (.int (-i))
theorem do_neg (h : DB X a fa) : DO X (.UnaryOp .USub a pos) (vNeg fa) := PE.mono (pe_un un_neg h) fun σ H Q ⟨Φ, δ, F, t, hK, en, hf, k⟩ => by
  unfold vNeg at hf
  obtain ⟨x, hx, hf⟩ := Option.bind_eq_some_iff.mp hf
  obtain ⟨i, hi, hf⟩ := Option.map_eq_some_iff.mp hf
  cases hf
  exact ⟨Φ, δ, F, x, hK, en, hx, fun v H' F' st r => ⟨i, repB_int hi r, (k.step st).int st.fh⟩⟩
noncomputable def gLen : List Dt → Option T
  | [.str x] => if x.length ≤ sizeLine then some (.leaf (.int x.length)) else none
  | [.tup l] => some (.leaf (.int l.length))
  | [.lst l] => some (.leaf (.int l.length))
  | _ => none
theorem repBs1 {K : PySem.W.Frag} {F H : Hp} {d : Dt} {vs : List V} (r : RepBs K F H [d] vs) : ∃ v, vs = [v] ∧ RepB K F H d v := by
  obtain ⟨v, ws, rfl, h1, h2⟩ := r
  cases h2
  exact ⟨v, rfl, h1⟩
theorem c_len {K : PySem.W.Frag} : CRD K (fun xs H Q => ∃ x n, xs = [x] ∧ LenV K x H n ∧ Q (.int n) H) gLen := by
  intro F H ds vs Q t fh r hg k
  unfold gLen at hg
  split at hg <;> first | (cases hg; done) | skip
  · split at hg
    · rename_i hl
      cases hg
      obtain ⟨v, rfl, rv⟩ := repBs1 r
      cases rv
      exact ⟨_, _, rfl, ⟨hl, rfl⟩, k.int fh⟩
    · cases hg
  · cases hg
    obtain ⟨v, rfl, rv⟩ := repBs1 r
    obtain ⟨a, vs, rfl, h1, h2⟩ := rv
    rw [← h2.length] at k
    exact ⟨_, _, rfl, .inr ⟨vs, fh.tup h1, rfl⟩, k.int fh⟩
  · cases hg
    obtain ⟨v, rfl, rv⟩ := repBs1 r
    obtain ⟨a, vs, rfl, h1, h2⟩ := rv
    rw [← h2.length] at k
    exact ⟨_, _, rfl, .inl ⟨vs, h1, rfl⟩, k.int fh⟩
noncomputable def asBls : List Dt → Option (List Bool)
  | [] => some []
  | .bl b :: r => (asBls r).map (b :: ·)
  | _ => none
theorem asBls_of {K : PySem.W.Frag} {F : Hp} : ∀ {l : List Dt} {vs : List V} {bs : List Bool}, Reps K F l vs → asBls l = some bs → vs = bs.map V.bl
  | [], vs, bs, r, h => by cases h; simp only [Reps] at r; exact r
  | d :: l, vs, bs, r, h => by
    cases d <;> first | cases h; done | skip
    simp only [asBls] at h
    obtain ⟨cs, hc, h⟩ := Option.map_eq_some_iff.mp h
    cases h
    simp only [Reps, Rep] at r
    obtain ⟨v, ws, rfl, rfl, r2⟩ := r
    rw [asBls_of r2 hc]
    rfl
noncomputable def gAll (f : List Bool → Bool) : List Dt → Option T
  | [.lst l] => (asBls l).map fun bs => .leaf (.bl (f bs))
  | _ => none
theorem c_all {K : PySem.W.Frag} {f : List Bool → Bool} : CRD K (fun xs H Q => ∃ (a : Addr) (bs : List Bool), xs = [.ref a] ∧ SqL K H a (bs.map V.bl) ∧ Q (.bl (f bs)) H) (gAll f) := by
  intro F H ds vs Q t fh r hg k
  unfold gAll at hg
  split at hg <;> first | (cases hg; done) | skip
  obtain ⟨bs, hb, hg⟩ := Option.map_eq_some_iff.mp hg
  cases hg
  obtain ⟨v, rfl, rv⟩ := repBs1 r
  obtain ⟨a, vs, rfl, h1, h2⟩ := rv
  have := asBls_of h2 hb
  subst this
  exact ⟨a, bs, rfl, h1, k.bl fh⟩
noncomputable def gInt : List Dt → Option T
  | [.int i] => some (.leaf (.int i))
  | [.bl b] => some (.leaf (.int (if b then 1 else 0)))
  | [.str x] => (PySem.intText? x).bind fun n => if x.length ≤ 640 then some (.leaf (.int n)) else none
  | _ => none
noncomputable abbrev rIntA : List V → Hp → VK → Prop := fun xs H Q => ((∃ i, xs = [.int i] ∧ Q (.int i) H) ∨ ∃ k, xs = [.bl k] ∧ Q (.int (if k then 1 else 0)) H) ∨ ∃ x n, xs = [.str x] ∧ PySem.intText? x = some n ∧ x.length ≤ 640 ∧ Q (.int n) H
theorem call_intA : CallR X (.type "int") rIntA := CallR.or call_int1 call_int_str
theorem c_int {K : PySem.W.Frag} : CRD K rIntA gInt := by
  intro F H ds vs Q t fh r hg k
  unfold gInt at hg
  split at hg <;> first | (cases hg; done) | skip
  · cases hg
    obtain ⟨v, rfl, rv⟩ := repBs1 r
    cases rv
    exact .inl (.inl ⟨_, rfl, k.int fh⟩)
  · cases hg
    obtain ⟨v, rfl, rv⟩ := repBs1 r
    cases rv
    exact .inl (.inr ⟨_, rfl, k.int fh⟩)
  · obtain ⟨n, hn, hg⟩ := Option.bind_eq_some_iff.mp hg
    split at hg
    · cases hg
      obtain ⟨v, rfl, rv⟩ := repBs1 r
      cases rv
      exact .inr ⟨_, n, rfl, hn, by assumption, k.int fh⟩
    · cases hg
noncomputable def gTuple : List Dt → Option T
  | [.lst l] => some (.leaf (.tup l))
  | [.tup l] => some (.leaf (.tup l))
  | _ => none
theorem c_tuple {K : PySem.W.Frag} : CRD K (fun xs H Q => ∃ p ys, xs = [.ref p] ∧ ((SqL K H p ys ∧ ∀ l, H l = none → Q (.ref l) (upd H l (.tup ys))) ∨ (SqT K H p ys ∧ Q (.ref p) H))) gTuple := by
  intro F H ds vs Q t fh r hg k
  unfold gTuple at hg
  split at hg <;> first | (cases hg; done) | skip
  · cases hg
    obtain ⟨v, rfl, rv⟩ := repBs1 r
    obtain ⟨a, vs, rfl, h1, h2⟩ := rv
    exact ⟨a, vs, rfl, .inl ⟨h1, fun p hp => k.tup fh h2 hp⟩⟩
  · cases hg
    obtain ⟨v, rfl, rv⟩ := repBs1 r
    rename_i l
    have rv' : Rep K F (.tup l) v := by simp only [Rep]; exact rv
    obtain ⟨a, vs, rfl, h1, h2⟩ := rv
    exact ⟨a, vs, rfl, .inr ⟨fh.tup h1, k.leaf.here fh rv'⟩⟩
end
end L2

namespace L2
open PySem PySem.Spec PyProof.Rows
section
variable {X : Cx} {o a b e c : Expr} {es : List Expr} {fa fb fo fe : De → Option Dt} {fs : De → Option (List Dt)} {pos apos cpos p : Pos} {x : Str} {sc : Scope} {i : Nat}
noncomputable def isIns : Dt → Bool
  | _ => false
noncomputable def tyD : Dt → String
  | .non => "NoneType"
  | .bl _ => "bool"
  | .int _ => "int"
  | .str _ => "str"
  | .tup _ => "tuple"
  | .lst _ => "list"
  | .dct _ _ => "dict"
  | .dcT _ _ => "dict"
noncomputable def instD (c : String) : Dt → Bool
  | .non => c == "NoneType"
  | .bl _ => c == "bool" || c == "int"
  | .int _ => c == "int"
  | .str _ => c == "str"
  | .tup _ => c == "tuple"
  | .lst _ => c == "list"
  | .dct _ _ => c == "dict"
  | .dcT _ _ => c == "dict"
theorem isinst_rep {pins : List (Addr × Obj)} {σ : St} {H : Hp} {s : Shared} {A : Around} {E : Value → Shared → Prop} {Q : Value → Shared → Prop} {c : Value} {b : Bool} {v : V} {u : Value} {d : Dt} (I : Inv X pins σ H s) (rx : RelV v u) (r : Rep X.K H d v) (hi : isIns d = false) (e : PySem.W.kitOne X.K (.type (tyD d)) c = some b) (h : ∀ tk, Q (.bool b) { s with toks := tk }) :
    wpAny (model X.prog X.w) A (call (.builtin "isinstance") [u, c]) Q E s := by
  cases d with
  | non => simp only [Rep] at r; subst r; exact isinst_ok I rx .non e h
  | bl y => simp only [Rep] at r; subst r; exact isinst_ok I rx (.bl y) e h
  | int y => simp only [Rep] at r; subst r; exact isinst_ok I rx (.int y) e h
  | str y => simp only [Rep] at r; subst r; exact isinst_ok I rx (.str y) e h
  | tup l =>
    simp only [Rep] at r
    obtain ⟨a, vs, rfl, h1, h2⟩ := r
    cases rx
    obtain ⟨its, _, pl, _⟩ := I.tuple h1
    obtain ⟨o, e1, e2, _⟩ := pl
    exact PySem.W.kia_one PySem.W.kitx_tuple I.kIn ⟨o, e1, e2⟩ e (fun z => nomatch z) h
  | lst l =>
    simp only [Rep] at r
    obtain ⟨a, vs, rfl, h1, h2⟩ := r
    cases rx
    obtain ⟨its, _, pl, _⟩ := I.list h1
    obtain ⟨o, n, e1, e2, _⟩ := pl
    exact PySem.W.kia_one PySem.W.kitx_list I.kIn ⟨o, e1, e2⟩ e (fun z => nomatch z) h
  | dct ks l =>
    simp only [Rep] at r
    obtain ⟨a, kvs, rfl, h1, _⟩ := r
    cases rx
    obtain ⟨_, _, vs, _, p⟩ := dk_rd I.hok h1
    obtain ⟨o, es, ep, e1, e2, _⟩ := p
    exact PySem.W.kia_one PySem.W.kitx_dict I.kIn ⟨o, e1, e2.1⟩ e (fun z => nomatch z) h
  | dcT ks l =>
    simp only [Rep] at r
    obtain ⟨a, kvs, rfl, h1, _⟩ := r
    cases rx
    obtain ⟨_, _, xs, _, o, es, ep, e1, e2, _⟩ := (show ObjOk X.prog X.w H s.heap a (.dT kvs) from h1.ok I.hok)
    exact PySem.W.kia_one PySem.W.kitx_dict I.kIn ⟨o, e1, e2.1⟩ e (fun z => nomatch z) h
noncomputable def KindsD (K : PySem.W.Frag) (c : String) : Prop := ∀ d : Dt, isIns d = false → PySem.W.kitOne K (.type (tyD d)) (.type c) = some (instD c d)
theorem call_instD : CallR X (.builtin "isinstance") (fun xs H Q => ∃ v c d b, xs = [v, .ty c] ∧ Rep X.K H d v ∧ isIns d = false ∧ PySem.W.kitOne X.K (.type (tyD d)) (.type c) = some b ∧ Q (.bl b) H) := by
  intro pins s σ H xs us Q I r h
  obtain ⟨v, c, d, b, rfl, rd, hi, e, q⟩ := h
  obtain ⟨u, w', rfl, ru, rw'⟩ := vals2 r
  cases rw'
  exact isinst_rep I ru rd hi e fun tk => ⟨.bl b, H, I.tok _, rfl, q⟩
noncomputable def vInst (c : String) (f : De → Option Dt) : De → Option T := fun δ => (f δ).bind fun d => if isIns d then none else some (.leaf (.bl (instD c d)))
theorem do_isinst {cn : Str} {cs : String} {p1 p2 : Pos} (h : glOk sc "isinstance" = true) (hcn : glOk sc cn = true) (hm : X.mg "isinstance" = none) (hmc : X.mg cn = none) (hv : bootBuiltins cn = some (.type cs)) (hk : KindsD X.K cs) (ha : DB X a fa) (e1 : ScIs X sc := by rfl)
    (he : starEach [a, .Name cn p2] X.env = (false, eval a X.env) :: starEach [.Name cn p2] X.env := by rfl) (he2 : starEach [.Name cn p2] X.env = (false, eval (.Name cn p2) X.env) :: starEach [] X.env := by rfl) (hpl : (backTo pos (starEach [.Name cn p2] X.env)).any (·.1) = false := by rfl) :
    DO X (.Call (.Name "isinstance" p1) [a, .Name cn p2] [] pos) (vInst cs fa) :=
  PE.mono (pe_callBD h call_instD hm bt_isinstance (pa_cons ha (pa_cons (pe_bltnD (v := .ty cs) hcn hmc hv rfl e1) pa_nil he2) he) e1 he hpl) fun σ H Q ⟨Φ, δ, F, t, hK, en, hf, k⟩ => by
    unfold vInst at hf
    obtain ⟨d, hd, hf⟩ := Option.bind_eq_some_iff.mp hf
    cases hi : isIns d with
    | true => rw [hi] at hf; cases hf
    | false =>
      rw [hi] at hf
      cases hf
      exact ⟨Φ, δ, F, d, hK, en, hd, fun v H' F' st r => ⟨v, cs, d, _, rfl, r.rep st.fh, hi, hk d hi, (k.step st).bl st.fh⟩⟩
noncomputable def MRD (K : PySem.W.Frag) (r : V → List V → Hp → VK → Prop) (g : Dt → List Dt → Option T) : Prop := ∀ F H d v ds vs (Q : VK) t, Same F H → RepB K F H d v → RepBs K F H ds vs → g d ds = some t → KO K F H t Q → r v vs H Q
noncomputable def vMeth (g : Dt → List Dt → Option T) (fo : De → Option Dt) (fs : De → Option (List Dt)) : De → Option T := fun δ => (fo δ).bind fun d => (fs δ).bind fun ds => g d ds
theorem do_bmS {name : Str} {id : String} {r : V → List V → Hp → VK → Prop} {g : Dt → List Dt → Option T} (slot : Slot "str" name id) (hty : typeOf (.builtin id) = pure (.type "method_descriptor")) (hm : MtR X id r) (hr : MRD X.K r g) (hg : ∀ d ds t, g d ds = some t → ∃ z, d = .str z)
    (ho : DB X o fo) (ha : DAB X (e :: es) fs)
    (hbase : attributeBase o name X.env (eval o X.env) = eval o X.env := by rfl)
    (hfew : ((backTo cpos (starEach (e :: es) X.env)).all (fun x => !x.1) && (backToKw cpos (keywordEach [] X.env)).all (fun x => x.1.isSome)
      && decide ((e :: es).length + ([] : List Keyword).length + (if ([] : List Keyword).isEmpty then 0 else 1) < 30)) = true := by rfl)
    (hline : (apos.endLine == cpos.line) = true := by rfl) (hs : starEach (e :: es) X.env = (false, eval e X.env) :: starEach es X.env := by rfl) (hplain : (backTo cpos (starEach es X.env)).any (·.1) = false := by rfl) :
    DO X (.Call (.Attribute o name apos) (e :: es) [] cpos) (vMeth g fo fs) := PE.mono (pe_bm PySem.F.plainAttrs_str slot hty hm ho ha.pa hbase hfew hline hs hplain) fun σ H Q ⟨Φ, δ, F, t, hK, en, hf, k⟩ => by
  unfold vMeth at hf
  obtain ⟨d, hd, hf⟩ := Option.bind_eq_some_iff.mp hf
  obtain ⟨ds, hds, hf⟩ := Option.bind_eq_some_iff.mp hf
  refine ⟨Φ, δ, F, d, hK, en, hd, fun v H1 F1 st rv => ⟨?_, Φ, δ, F1, ds, hK, en.step st, hds, fun vs H2 F2 st2 rvs => hr F2 H2 d v ds vs Q t st2.fh (rv.step st2.ff st2.hh) rvs hf (k.step (st.trans st2))⟩⟩
  obtain ⟨z, rfl⟩ := hg d ds t hf
  cases rv
  rfl
noncomputable def asStrs : List Dt → Option (List Str)
  | [] => some []
  | .str b :: r => (asStrs r).map (b :: ·)
  | _ => none
theorem asStrs_of {K : PySem.W.Frag} {F : Hp} : ∀ {l : List Dt} {vs : List V} {bs : List Str}, Reps K F l vs → asStrs l = some bs → vs = bs.map V.str
  | [], vs, bs, r, h => by cases h; simp only [Reps] at r; exact r
  | d :: l, vs, bs, r, h => by
    cases d <;> first | cases h; done | skip
    simp only [asStrs] at h
    obtain ⟨cs, hc, h⟩ := Option.map_eq_some_iff.mp h
    cases h
    simp only [Reps, Rep] at r
    obtain ⟨v, ws, rfl, rfl, r2⟩ := r
    rw [asStrs_of r2 hc]
    rfl
noncomputable def g_join : Dt → List Dt → Option T
  | .str a, [.lst l] => (asStrs l).bind fun ts => if JoinOk a ts then some (.leaf (.str (Txt.join a ts))) else none
  | _, _ => none
theorem m_joinD {K : PySem.W.Frag} : MRD K (fun x vs H Q => ∃ (a : Str) (l : Addr) (ts : List Str), x = .str a ∧ vs = [.ref l] ∧ SqL K H l (ts.map V.str) ∧ JoinOk a ts = true ∧ Q (.str (Txt.join a ts)) H) g_join := by
  intro F H d v ds vs Q t fh rd rs hg k
  unfold g_join at hg
  split at hg <;> first | cases hg; done | skip
  obtain ⟨ts, ht, hg⟩ := Option.bind_eq_some_iff.mp hg
  split at hg
  · rename_i hj
    cases hg
    cases rd
    obtain ⟨v, rfl, rv⟩ := repBs1 rs
    obtain ⟨a, vs, rfl, h1, h2⟩ := rv
    have := asStrs_of h2 ht
    subst this
    exact ⟨_, a, ts, rfl, rfl, h1, hj, k.str fh⟩
  · cases hg
theorem g_join_str : ∀ d ds t, g_join d ds = some t → ∃ z, d = .str z := fun d ds t h => by
  unfold g_join at h
  split at h
  · exact ⟨_, rfl⟩
  · cases h
theorem do_join (ho : DB X o fo) (ha : DAB X (e :: es) fs)
    (hbase : attributeBase o "join" X.env (eval o X.env) = eval o X.env := by rfl)
    (hfew : ((backTo cpos (starEach (e :: es) X.env)).all (fun x => !x.1) && (backToKw cpos (keywordEach [] X.env)).all (fun x => x.1.isSome)
      && decide ((e :: es).length + ([] : List Keyword).length + (if ([] : List Keyword).isEmpty then 0 else 1) < 30)) = true := by rfl)
    (hline : (apos.endLine == cpos.line) = true := by rfl) (hs : starEach (e :: es) X.env = (false, eval e X.env) :: starEach es X.env := by rfl) (hplain : (backTo cpos (starEach es X.env)).any (·.1) = false := by rfl) :
    DO X (.Call (.Attribute o "join" apos) (e :: es) [] cpos) (vMeth g_join fo fs) := do_bmS PySem.F.slot_str_join PySem.F.type_str_join mt_join m_joinD g_join_str ho ha hbase hfew hline hs hplain
noncomputable def s_append (i : Nat) (f : De → Option Dt) : De → Option Out := fun δ => match δ[i]? with
  | some (some (.lst l)) => (f δ).bind fun d => if l.length < sizeLine then some (.nx (δ.set i (some (.lst (l ++ [d]))))) else none
  | _ => none
theorem En.ownL {Φ : Fm} {δ : De} {σ : St} {F H : Hp} (en : En Φ δ σ F H) {l : List Dt} (h : δ[i]? = some (some (.lst l))) : ∃ a vs, σ[i]? = some (some (.ref a)) ∧ H a = some (.lst vs) ∧ Reps Φ.K F l vs := by
  obtain ⟨v, hv⟩ := en.has i _ h
  obtain ⟨S, s⟩ := en.sep
  obtain ⟨a, vs, rfl, _, h1, h2⟩ := s.own i _ v (liveS_of h hv)
  exact ⟨a, vs, hv, h1, h2⟩
theorem ds_append (hx : PE X o (tVar i)) (he : DL X e fe)
    (hbase : attributeBase o "append" X.env (eval o X.env) = eval o X.env := by rfl)
    (hfew : ((backTo cpos (starEach [e] X.env)).all (fun x => !x.1) && (backToKw cpos (keywordEach [] X.env)).all (fun x => x.1.isSome)
      && decide ([e].length + ([] : List Keyword).length + (if ([] : List Keyword).isEmpty then 0 else 1) < 30)) = true := by rfl)
    (hline : (apos.endLine == cpos.line) = true := by rfl) (hs : starEach [e] X.env = (false, eval e X.env) :: starEach [] X.env := by rfl) (hplain : (backTo cpos (starEach [] X.env)).any (·.1) = false := by rfl)
    (hsw : swapsWith (.Call (.Attribute o "append" apos) [e] [] cpos) none pos.line X.env = pure false := by rfl) :
    DS1 X (.Expr (.Call (.Attribute o "append" apos) [e] [] cpos) pos) (s_append i fe) :=
  PS.mono (ps_expr (pe_bm PySem.F.plainAttrs_list PySem.F.slot_list_append PySem.F.type_list_append mt_append hx (pa_cons he pa_nil hs) hbase hfew hline hs hplain) hsw) fun D σ H ⟨Φ, δ, F, ot, hK, en, hg, k⟩ => by
    unfold s_append at hg
    split at hg <;> first | cases hg; done | skip
    rename_i l hl
    obtain ⟨d, hd, hg⟩ := Option.bind_eq_some_iff.mp hg
    split at hg <;> first | cases hg; done | skip
    rename_i hz
    cases hg
    obtain ⟨a, vs, hv, h1, h2⟩ := en.ownL hl
    refine ⟨.ref a, hv, .inl ⟨rfl, vs, .inl (.inl h1)⟩, Φ, δ, F, d, hK, en, hd, fun v H1 F1 st rv => ?_⟩
    have en1 := en.step st
    have h1' := st.hh _ _ h1
    refine ⟨a, vs, v, rfl, rfl, h1', by rw [h2.length]; exact hz, ?_⟩
    refine k σ F1 _ (en1.poke hl hv rfl fun S sa => ⟨a, vs ++ [v], rfl, sa, upd_same, (h2.same st.ff).append (Reps.one (hK ▸ rv))⟩)
theorem Reps.set {K : PySem.W.Frag} {F : Hp} {d : Dt} {v : V} (h : Rep K F d v) : ∀ {l : List Dt} {vs : List V} (j : Nat), Reps K F l vs → Reps K F (l.set j d) (vs.set j v)
  | [], vs, j, r => by simp only [Reps] at r; subst r; simp [Reps]
  | e :: l, vs, 0, r => by
    simp only [Reps] at r
    obtain ⟨w, ws, rfl, _, r2⟩ := r
    simp only [List.set_cons_zero, Reps]
    exact ⟨v, ws, rfl, h, r2⟩
  | e :: l, vs, j + 1, r => by
    simp only [Reps] at r
    obtain ⟨w, ws, rfl, r1, r2⟩ := r
    simp only [List.set_cons_succ, Reps]
    exact ⟨w, _, rfl, r1, Reps.set h j r2⟩
end
end L2

namespace L2
open PySem PySem.Spec PyProof.Rows
noncomputable def KX (K : PySem.W.Frag) (F H : Hp) (c : Str) (l : List (Str × Dt)) (E : XK) : Prop := ∀ x H' F', Step F H F' H' → RepX K F' c l (.ref x) → ∀ dx, E (.ref x) dx H'
noncomputable def KOX (K : PySem.W.Frag) (F H : Hp) (Q : VK) (E : XK) : T → Prop
  | .rse c l => KX K F H c l E
  | t => KO K F H t Q
noncomputable def spX (K : PySem.W.Frag) (n : Nat) (f : List Dt → Option T) : Sp := fun vs H Q E => ∃ F ds t, Same F H ∧ ds.length = n ∧ Reps K F ds vs ∧ f ds = some t ∧ KOX K F H Q E t
structure OkFX (P : Program) (w : World) (K : PySem.W.Frag) (mg : Str → Option Value) (base : Heap) (x : Str) (k : Nat) (ps : List Str) (sp : Sp) : Prop where
  ex : ∃ f fd, mg x = some (.ref f) ∧ PySem.W.keepIn K (.ref f) = true ∧ Binds K fd ps [] ∧ FnOk P w K mg base (CXX P w) k f fd ps sp
structure OkX (P : Program) (w : World) (K : PySem.W.Frag) (mg : Str → Option Value) (base : Heap) (c : Str) (k : Nat) (ns : List Str) : Prop where
  ex : ∃ C D f fd ps, mg c = some (.ref C) ∧ clsOf K c = some C ∧ clsOf K "DimError" = some D ∧ XCl K C D f ∧ (∀ g ∈ ns, NoAttr K C g) ∧ ns.length ≤ sizeLine ∧ Binds K fd ps [] ∧ FnOk P w K mg base CX0 k f fd ps (spI K f ns)
structure RtX (Φ : Fm) (c : Str) (l : List (Str × Dt)) (x : Addr) (F H : Hp) : Prop where
  fh : Same F H
  prot : ∀ b o, Φ.H0 b = some o → ¬ Φ.S0 b → H b = some o
  old : Same Φ.F0 F
  nw : ∀ b o, F b = some o → Φ.F0 b = some o ∨ Φ.B b ∨ ∃ vs, Φ.H0 b = some (.tup vs)
  rep : RepX Φ.K F c l (.ref x)
noncomputable def PostT (Φ : Fm) (D : Ends) (E : XK) : T → Prop
  | .rse c l => ∀ x F H, RtX Φ c l x F H → ∀ dx, E (.ref x) dx H
  | t => Post Φ D (.rt t)
noncomputable def PostX (Φ : Fm) (D : Ends) (E : XK) : Out → Prop
  | .rt t => PostT Φ D E t
  | o => Post Φ D o
noncomputable def tSX (K : PySem.W.Frag) (E : XK) (g : De → Option Out) : TS := fun D σ H => ∃ Φ δ F o, Fm.K Φ = K ∧ En Φ δ σ F H ∧ g δ = some o ∧ PostX Φ D E o
noncomputable def DX1 (X : Cx) (E : XK) (st : Stmt) (g : De → Option Out) : Prop := PS X st (tSX X.K E g)
noncomputable def DX (X : Cx) (E : XK) (ss : List Stmt) (g : De → Option Out) : Prop := PSs X ss (tSX X.K E g)
theorem PostX.post {Φ : Fm} {D : Ends} {E : XK} {o : Out} (k : PostX Φ D E o) : Post Φ D o := by
  cases o with
  | rt t =>
    cases t with
    | rse c l => exact fun v F H ⟨_, _, _, _, S, z, _⟩ => (show False from z).elim
    | _ => exact k
  | _ => exact k
theorem PostX.rtE {Φ : Fm} {D D' : Ends} {E : XK} {t : T} (e : D.rt = D'.rt) (k : PostX Φ D E (.rt t)) : PostX Φ D' E (.rt t) := by
  cases t with
  | rse c l => exact k
  | _ => exact fun v F H z => e ▸ k v F H z
section
variable {X : Cx} {E : XK} {st : Stmt} {rest a b body : List Stmt} {g g1 g2 : De → Option Out} {e c tg iter : Expr} {pos : Pos} {tc : De → Option Bool} {fi : De → Option (List Dt)}
theorem dx1_of (h : DS1 X st g) : DX1 X E st g := PS.mono h fun D σ H ⟨Φ, δ, F, o, hK, en, hg, k⟩ => ⟨Φ, δ, F, o, hK, en, hg, k.post⟩
theorem dx_of (h : DS X a g) : DX X E a g := PSs.mono h fun D σ H ⟨Φ, δ, F, o, hK, en, hg, k⟩ => ⟨Φ, δ, F, o, hK, en, hg, k.post⟩
theorem dx_one (h : DX1 X E st g) : DX X E [st] g := pss_one h
theorem dx_cons (h1 : DX1 X E st g1) (h2 : DX X E rest g2) : DX X E (st :: rest) (sSeq g1 g2) := PSs.mono (pss_cons h1 h2) fun D σ H ⟨Φ, δ, F, o, hK, en, hg, k⟩ => by
  unfold sSeq at hg
  obtain ⟨o1, h1, hg⟩ := Option.bind_eq_some_iff.mp hg
  refine ⟨Φ, δ, F, o1, hK, en, h1, ?_⟩
  cases o1 with
  | nx δ' => exact fun σ' F' H' en' => ⟨Φ, δ', F', o, hK, en', hg, k⟩
  | rt t => cases hg; exact PostX.rtE rfl k
  | bk δ' => cases hg; exact k
  | ct δ' => cases hg; exact k
theorem dx_if (hc : DT X c tc) (h1 : DX X E a g1) (h2 : DX X E b g2) : DX1 X E (.If c a b pos) (sIf tc g1 g2) := PS.mono (ps_if hc h1 h2) fun D σ H ⟨Φ, δ, F, o, hK, en, hg, k⟩ => by
  unfold sIf at hg
  obtain ⟨x, hx, hg⟩ := Option.bind_eq_some_iff.mp hg
  refine ⟨Φ, δ, F, x, hK, en, hx, fun H' F' st => ?_⟩
  split at hg
  · rename_i q
    rw [if_pos q]
    exact ⟨Φ, δ, F', o, hK, en.step st, hg, k⟩
  · rename_i q
    rw [if_neg q]
    exact ⟨Φ, δ, F', o, hK, en.step st, hg, k⟩
theorem PostX.at {Φ : Fm} {D : Ends} {o : Out} {δ : De} {σ : St} {F1 H1 : Hp} (en : En Φ δ σ F1 H1) (k : PostX Φ D E o) : PostX (Φ.at F1) D E o := by
  cases o with
  | rt t =>
    cases t with
    | rse c l => exact fun x F H e => k x F H ⟨e.fh, e.prot, en.old.trans e.old, fun b o h => (e.nw b o h).elim (fun z => en.nw b o z) .inr, e.rep⟩
    | _ => exact fun v F H e => k v F H (Rt.back en e)
  | nx δ' => exact Post.at (o := .nx δ') en k
  | bk δ' => exact Post.at (o := .bk δ') en k
  | ct δ' => exact Post.at (o := .ct δ') en k
theorem dx_for {ts : List Nat} {bb : Dt → De → Option De} (hp : PassesOwn (model X.prog X.w) X.A X.env X.xe) (hc : X.calm = true) (hi : DIF X tg iter fi) (hg : DG X tg ts bb) (hb : DX X E body g)
    (hs : ∀ x, foldedSetIterable iter X.env x = pure x := by intro _; rfl) : DX1 X E (.For tg iter body [] pos) (sFor fi bb g) := PS.mono (ps_for hp hc hi hg hb hs) fun D σ H ⟨Φ, δ, F, o, hK, en, hg, k⟩ => by
  unfold sFor at hg
  obtain ⟨ds, hd, hg⟩ := Option.bind_eq_some_iff.mp hg
  rw [tFor_eq]
  refine ⟨Φ, δ, F, ds, hK, en, hd, fun J ok H1 F1 st1 wd ho => ?_⟩
  have en1 := en.step st1
  have k1 := PostX.at en1 k
  refine for_walk (n := ds.length) (fun i σ' H' => ∃ δ' F', En (Φ.at F1) δ' σ' F' H' ∧ forD bb g (ds.drop i) δ' = some o) ⟨δ, F1, en1.at, by simpa using hg⟩ (fun i σ' H' ⟨δ', F', en', _⟩ => ?_) ?_ ?_
  · obtain ⟨p1, p2, _⟩ := wd i H' F' (ho H' (en'.old.trans en'.fh)) en'.fh en'.old
    exact ⟨p1, p2⟩
  · rintro i x σ' H' H'' hi ⟨δ', F', en', hgo⟩ hy
    obtain ⟨_, _, p3⟩ := wd i H' F' (ho H' (en'.old.trans en'.fh)) en'.fh en'.old
    obtain ⟨d, F2, hd', st2, rd⟩ := p3 x H'' hi hy
    rw [drop_of hd'] at hgo
    unfold forD at hgo
    obtain ⟨δ1, h1, hgo⟩ := Option.bind_eq_some_iff.mp hgo
    obtain ⟨o1, h2, hgo⟩ := Option.bind_eq_some_iff.mp hgo
    refine ⟨Φ.at F1, δ', F2, d, δ1, hK, en'.step st2, rd, h1, fun σ1 _ _ en1 => ⟨Φ.at F1, δ1, F2, o1, hK, en1, h2, ?_⟩⟩
    cases o1 with
    | nx δ2 => exact fun σ2 F2 H2 en2 => ⟨δ2, F2, en2, hgo⟩
    | ct δ2 => exact fun σ2 F2 H2 en2 => ⟨δ2, F2, en2, hgo⟩
    | bk δ2 => cases hgo; exact fun σ2 F2 H2 en2 => k1 σ2 F2 H2 en2
    | rt t => cases hgo; exact PostX.rtE rfl k1
  · rintro σ' H' ⟨δ', F', en', hgo⟩
    rw [List.drop_length] at hgo
    cases hgo
    exact k1 σ' F' H' en'
end
section
variable {P : Program} {w : World} {K : PySem.W.Frag} {mg : Str → Option Value} {base : Heap}
theorem RtX.step {F H : Hp} {c : Str} {l : List (Str × Dt)} {x : Addr} {F' H' : Hp} {E : XK} (h : RtX ⟨K, F, H, fun _ => False⟩ c l x F' H') (k : KX K F H c l E) (dx : Option Addr) : E (.ref x) dx H' :=
  k x H' F' ⟨fun b u e => h.prot b u e id, h.old, h.fh, fun b u e => (h.nw b u e).elim .inl fun z => .inr (z.imp (fun y => y.elim id False.elim) id)⟩ h.rep dx
theorem mk_okX {x : Str} {st : Stmt} {N ps : List Str} {k n : Nat} {g : De → Option Out} (D : DefF K mg x st ps) (S : FnScope N ps (defScope st)) (hn : ps.length = n)
    (hbody : ∀ (f : Addr) (cdv : Value) (A : Around) (outer : List Env) (s : Shared) (H : Hp) (E : XK), Room k (A.deeper (envOfC x (defScope st) s.heap.objs.size f cdv)) → DX (cxOf (CXX P w) P w K mg base N x (defScope st) f cdv A outer s H E) E (defBody st) g) :
    OkFX P w K mg base x (k + 1) ps (spX K n (runD N.length g)) := by
  obtain ⟨f, fd, h1, h2, h3, h4⟩ := D.ex
  refine ⟨f, fd, h1, h2, h3, ?_⟩
  obtain ⟨oc, od, kV, doc, pm, an, cdv, ct, osl, rfl, lk, hcd⟩ := h4.ex
  refine fn_of lk hcd S (fun vs H Q E h => ?_) fun A outer s H vs Q E hr h => ?_
  · obtain ⟨F, ds, t, _, hl, r, _⟩ := h
    rw [r.length, hl, hn]
  · obtain ⟨F, ds, t, fh, hl, r, hf, kq⟩ := h
    refine ⟨_, hbody f cdv A outer s H E hr, ?_⟩
    unfold runD at hf
    split at hf
    · rename_i t' q
      cases hf
      refine ⟨⟨K, F, H, fun _ => False⟩, _, F, _, rfl, start_en fh r, q, ?_⟩
      cases t with
      | rse c l => exact fun x F' H' z dx => z.step kq dx
      | _ => exact fun v F' H' z => z.step kq
    · rename_i δ' q
      cases hf
      exact ⟨⟨K, F, H, fun _ => False⟩, _, F, _, rfl, start_en fh r, q, fun σ' F' H' z => (z.rt (Step.refl z.fh) (t := .leaf .non) (S := fun _ => False) (rep_non (K := K) (F := F')) fun _ y => y.elim).step kq⟩
    · cases hf
end
end L2

namespace L2
open PySem PySem.Spec PyProof.Rows
noncomputable def lookZ {κ : Type} [DecidableEq κ] : List κ → List Dt → κ → Option Dt
  | k' :: ks, d :: l, k => if k' = k then some d else lookZ ks l k
  | _, _, _ => none
theorem look_some {κ : Type} [DecidableEq κ] {K : PySem.W.Frag} {F : Hp} {k : κ} : ∀ {kvs : List (κ × V)} {l : List Dt} {d : Dt}, Reps K F l (kvs.map (·.2)) → lookZ (kvs.map (·.1)) l k = some d → ∃ v, valV kvs k = some v ∧ Rep K F d v
  | [], l, d, r, h => by cases l <;> cases h
  | p :: kvs, [], d, r, h => by cases h
  | p :: kvs, e :: l, d, r, h => by
    simp only [List.map_cons, Reps] at r
    obtain ⟨v, ws, hv, r1, r2⟩ := r
    cases hv
    simp only [List.map_cons, lookZ] at h
    by_cases hk : p.1 = k
    · rw [if_pos hk] at h
      cases h
      exact ⟨p.2, valV_pos hk, r1⟩
    · rw [if_neg hk] at h
      rw [valV_neg hk]
      exact look_some r2 h
theorem look_none {κ : Type} [DecidableEq κ] {K : PySem.W.Frag} {F : Hp} {k : κ} : ∀ {kvs : List (κ × V)} {l : List Dt}, Reps K F l (kvs.map (·.2)) → lookZ (kvs.map (·.1)) l k = none → valV kvs k = none
  | [], l, r, h => rfl
  | p :: kvs, [], r, h => by
    simp only [List.map_cons, Reps] at r
    cases r
  | p :: kvs, e :: l, r, h => by
    simp only [List.map_cons, Reps] at r
    obtain ⟨v, ws, hv, r1, r2⟩ := r
    cases hv
    simp only [List.map_cons, lookZ] at h
    by_cases hk : p.1 = k
    · rw [if_pos hk] at h
      cases h
    · rw [if_neg hk] at h
      rw [valV_neg hk]
      exact look_none r2 h
noncomputable def keyD : Dt → Option Key
  | .int i => some (.inl i)
  | .str x => some (.inr x)
  | _ => none
theorem keyD_of {K : PySem.W.Frag} {F H : Hp} {d : Dt} {v : V} {k : Key} (r : RepB K F H d v) (h : keyD d = some k) : v = kV k := by
  unfold keyD at h
  split at h <;> first | (cases h; done) | skip
  · cases h; exact r
  · cases h; exact r
noncomputable def gIxA : Dt → Dt → Option T
  | .dct ks l, k => (keyD k).bind fun k => (lookZ ks l k).map .leaf
  | x, y => gIx x y
section
variable {X : Cx} {o a b e c : Expr} {es : List Expr} {fa fb fo fe fk : De → Option Dt} {fs : De → Option (List Dt)} {pos apos cpos p : Pos} {x : Str} {sc : Scope} {i : Nat}
theorem do_ixA {k : Nat} (hr : Room k X.A) (ha : DB X a fa) (hb : DB X b fb) (hs : PlainIx b := by exact fun _ _ => rfl) (hn : NoSl b := by exact fun _ _ => rfl) : DO X (.Subscript a b pos) (d2 gIxA fa fb) :=
  PE.mono (PE.or (pe_ix ix_seq ha hb hs) (pe_dget (hu_of hr) ha hb hn)) fun σ H Q ⟨Φ, δ, F, t, hK, en, hf, k⟩ => by
    unfold d2 at hf
    obtain ⟨x, hx, hf⟩ := Option.bind_eq_some_iff.mp hf
    obtain ⟨y, hy, hf⟩ := Option.bind_eq_some_iff.mp hf
    unfold gIxA at hf
    split at hf
    · rename_i ks l _
      obtain ⟨kk, hk, hf⟩ := Option.bind_eq_some_iff.mp hf
      obtain ⟨d, hd, hf⟩ := Option.map_eq_some_iff.mp hf
      cases hf
      refine .inr ⟨Φ, δ, F, _, hK, en, hx, fun v H1 F1 st rv => ⟨Φ, δ, F1, y, hK, en.step st, hy, fun v2 H2 F2 st2 rv2 => ?_⟩⟩
      obtain ⟨ad, kvs, rfl, h1, h2, h3⟩ := rv
      subst h2
      obtain ⟨w, hw, rw'⟩ := look_some h3 hd
      have := keyD_of rv2 hk
      subst this
      exact ⟨ad, w, rfl, .inl ⟨kvs, kk, st2.hh.rd h1, rfl, hw.symm⟩, (k.step (st.trans st2)).leaf.here st2.fh (rw'.same st2.ff)⟩
    · exact .inl (d2_of r_ix ⟨Φ, δ, F, t, hK, en, by unfold d2; rw [hx, hy]; exact hf, k⟩)
noncomputable def gInA (neg : Bool) : Dt → Dt → Option T
  | k, .dct ks l => (keyD k).map fun k => .leaf (.bl (if neg then !(lookZ ks l k).isSome else (lookZ ks l k).isSome))
  | x, y => gIn neg x y
theorem look_is {κ : Type} [DecidableEq κ] {K : PySem.W.Frag} {F : Hp} {k : κ} {kvs : List (κ × V)} {l : List Dt} (r : Reps K F l (kvs.map (·.2))) : (lookZ (kvs.map (·.1)) l k).isSome = (valV kvs k).isSome := by
  cases h : lookZ (kvs.map (·.1)) l k with
  | none => rw [look_none r h]; rfl
  | some d =>
    obtain ⟨v, e, _⟩ := look_some r h
    rw [e]
    rfl
theorem in_of {K : PySem.W.Frag} {σ : St} {H : Hp} {Q : VK} (h : tO K (d2 (gInA false) fa fb) σ H Q) : tOp (rInA K false) (tBd K fa) (tBd K fb) σ H Q ∨ tDIn (tBd K fa) (tBd K fb) σ H Q := by
  obtain ⟨Φ, δ, F, t, hK, en, hf, k⟩ := h
  unfold d2 at hf
  obtain ⟨x, hx, hf⟩ := Option.bind_eq_some_iff.mp hf
  obtain ⟨y, hy, hf⟩ := Option.bind_eq_some_iff.mp hf
  unfold gInA at hf
  split at hf
  · rename_i ks l
    obtain ⟨kk, hk, hf⟩ := Option.map_eq_some_iff.mp hf
    cases hf
    refine .inr ⟨Φ, δ, F, x, hK, en, hx, fun v H1 F1 st rv => ⟨Φ, δ, F1, _, hK, en.step st, hy, fun v2 H2 F2 st2 rv2 => ?_⟩⟩
    obtain ⟨ad, kvs, rfl, h1, h2, h3⟩ := rv2
    subst h2
    have := keyD_of rv hk
    subst this
    refine ⟨ad, _, rfl, .inl ⟨kvs, kk, h1, rfl, rfl⟩, ?_⟩
    rw [← look_is h3]
    exact (k.step (st.trans st2)).bl st2.fh
  · exact .inl (d2_of (r_in false) ⟨Φ, δ, F, t, hK, en, by unfold d2; rw [hx, hy]; exact hf, k⟩)
theorem notin_of {K : PySem.W.Frag} {σ : St} {H : Hp} {Q : VK} (h : tO K (d2 (gInA true) fa fb) σ H Q) : tOp (rInA K true) (tBd K fa) (tBd K fb) σ H Q ∨ tDNotIn (tBd K fa) (tBd K fb) σ H Q := by
  obtain ⟨Φ, δ, F, t, hK, en, hf, k⟩ := h
  unfold d2 at hf
  obtain ⟨x, hx, hf⟩ := Option.bind_eq_some_iff.mp hf
  obtain ⟨y, hy, hf⟩ := Option.bind_eq_some_iff.mp hf
  unfold gInA at hf
  split at hf
  · rename_i ks l
    obtain ⟨kk, hk, hf⟩ := Option.map_eq_some_iff.mp hf
    cases hf
    refine .inr ⟨Φ, δ, F, x, hK, en, hx, fun v H1 F1 st rv => ⟨Φ, δ, F1, _, hK, en.step st, hy, fun v2 H2 F2 st2 rv2 => ?_⟩⟩
    obtain ⟨ad, kvs, rfl, h1, h2, h3⟩ := rv2
    subst h2
    have := keyD_of rv hk
    subst this
    refine ⟨ad, _, rfl, .inl ⟨kvs, kk, h1, rfl, rfl⟩, ?_⟩
    rw [← look_is h3]
    exact (k.step (st.trans st2)).bl st2.fh
  · exact .inl (d2_of (r_in true) ⟨Φ, δ, F, t, hK, en, by unfold d2; rw [hx, hy]; exact hf, k⟩)
theorem PT.or {X : Cx} {e : Expr} {t t' : TT} (h : PT X e t) (h' : PT X e t') : PT X e (fun σ H Q => t σ H Q ∨ t' σ H Q) := fun pins s σ H Q I q => q.elim (h pins s σ H Q I) (h' pins s σ H Q I)
theorem tTr_o {K : PySem.W.Frag} {g : Dt → Dt → Option T} {σ : St} {H : Hp} {Q : Bool → Hp → Prop} (h : tTr K (tB2 g fa fb) σ H Q) : tO K (d2 g fa fb) σ H (fun v H' => ∃ c, v = .bl c ∧ Q c H') := by
  obtain ⟨Φ, δ, F, t, hK, en, hf, k⟩ := h
  unfold tB2 at hf
  obtain ⟨z, hz, hf⟩ := Option.bind_eq_some_iff.mp hf
  exact ⟨Φ, δ, F, z, hK, en, hz, fun v H' F' S st o hs => ⟨t, asB_own hf o, k H' F' st⟩⟩
theorem dt_in {k : Nat} (hr : Room k X.A) (ha : DB X a fa) (hb : DB X b fb) (hm : behindInMarks .In b = false := by with_unfolding_all rfl) : DT X (.Compare a [.In] [b] pos) (tB2 (gInA false) fa fb) :=
  PT.mono (PT.or (pt_cmpR op_inA ha hb hm) (pt_cmp (pc_din (hu_of hr) ha hb) hm)) fun σ H Q h => in_of (tTr_o h)
theorem dt_notin {k : Nat} (hr : Room k X.A) (ha : DB X a fa) (hb : DB X b fb) (hm : behindInMarks .NotIn b = false := by with_unfolding_all rfl) : DT X (.Compare a [.NotIn] [b] pos) (tB2 (gInA true) fa fb) :=
  PT.mono (PT.or (pt_cmpR op_notInA ha hb hm) (pt_cmp (pc_dnotin (hu_of hr) ha hb) hm)) fun σ H Q h => notin_of (tTr_o h)
noncomputable def putD {κ : Type} [DecidableEq κ] : List (κ × Dt) → κ → Dt → List (κ × Dt)
  | [], k, d => [(k, d)]
  | p :: l, k, d => if p.1 = k then (p.1, d) :: l else p :: putD l k d
noncomputable def sPut (i : Nat) (fk fe : De → Option Dt) : De → Option Out := fun δ => (fe δ).bind fun d => (fk δ).bind fun k => match δ[i]? with
  | some (some (.lst l)) => (asI k).bind fun n => (ixN l.length n).map fun j => .nx (δ.set i (some (.lst (l.set j d))))
  | some (some (.dct l)) => (keyD k).bind fun k => if l.length < sizeLine ∧ (l.map (·.1)).Nodup then some (.nx (δ.set i (some (.dct (putD l k d))))) else none
  | _ => none
theorem putK_eq {κ : Type} [DecidableEq κ] (k : κ) (v : V) : ∀ (kvs : List (κ × V)) (l : List (κ × Dt)) (d : Dt), (kvs.map (·.1)).Nodup → kvs.map (·.1) = l.map (·.1) → (putK kvs k v).map (·.1) = (putD l k d).map (·.1) ∧
    ∀ (K : PySem.W.Frag) (F : Hp), Rep K F d v → Reps K F (l.map (·.2)) (kvs.map (·.2)) → Reps K F ((putD l k d).map (·.2)) ((putK kvs k v).map (·.2)) := by
  have key : ∀ (kvs : List (κ × V)), (kvs.map (·.1)).Nodup → putK kvs k v = match kvs with | [] => [(k, v)] | p :: r => if p.1 = k then (p.1, v) :: r else p :: putK r k v := fun kvs hn => by
    cases kvs with
    | nil => rfl
    | cons p r =>
      dsimp only
      by_cases hp : p.1 = k
      · rw [if_pos hp]
        unfold putK
        rw [if_pos (by simp [hp])]
        simp only [List.map_cons, if_pos hp]
        congr 1
        have hk : ∀ q ∈ r, ¬ q.1 = k := fun q hq z => by
          have := (List.nodup_cons.mp hn).1
          exact this (show p.1 ∈ r.map (·.1) by rw [hp, ← z]; exact List.mem_map_of_mem hq)
        exact (List.map_congr_left fun q hq => if_neg (hk q hq)).trans (List.map_id' r)
      · rw [if_neg hp]
        unfold putK
        have e : (p :: r).any (fun kv => decide (kv.1 = k)) = r.any fun kv => decide (kv.1 = k) := by simp [hp]
        rw [e]
        split
        · simp only [List.map_cons, if_neg hp]
        · rfl
  intro kvs
  induction kvs with
  | nil =>
    intro l d hn he
    cases l with
    | nil => exact ⟨rfl, fun K F r _ => by simpa [putD, putK] using Reps.one r⟩
    | cons q l => cases he
  | cons p r ih =>
    intro l d hn he
    cases l with
    | nil => cases he
    | cons q l =>
      simp only [List.map_cons, List.cons.injEq] at he
      have hn' := (List.nodup_cons.mp hn).2
      rw [key _ hn]
      simp only [putD]
      rw [← he.1]
      by_cases hp : p.1 = k
      · rw [if_pos hp, if_pos hp]
        refine ⟨by simp [he.2], fun K F rd rs => ?_⟩
        simp only [List.map_cons, Reps] at rs ⊢
        obtain ⟨w, ws, hw, r1, r2⟩ := rs
        cases hw
        exact ⟨_, _, rfl, rd, r2⟩
      · rw [if_neg hp, if_neg hp]
        obtain ⟨i1, i2⟩ := ih l d hn' he.2
        refine ⟨by simp [he.1, i1], fun K F rd rs => ?_⟩
        simp only [List.map_cons, Reps] at rs ⊢
        obtain ⟨w, ws, hw, r1, r2⟩ := rs
        cases hw
        exact ⟨_, _, rfl, r1, i2 K F rd r2⟩
theorem PS.or {X : Cx} {e : Stmt} {t t' : TS} (h : PS X e t) (h' : PS X e t') : PS X e (fun σ H Q => t σ H Q ∨ t' σ H Q) := fun pins s σ H Q I q => q.elim (h pins s σ H Q I) (h' pins s σ H Q I)
theorem En.ownD {Φ : Fm} {δ : De} {σ : St} {F H : Hp} (en : En Φ δ σ F H) {l : List (Key × Dt)} (h : δ[i]? = some (some (.dct l))) : ∃ a kvs, σ[i]? = some (some (.ref a)) ∧ H a = some (.dK kvs) ∧ kvs.map (·.1) = l.map (·.1) ∧ Reps Φ.K F (l.map (·.2)) (kvs.map (·.2)) := by
  obtain ⟨v, hv⟩ := en.has i _ h
  obtain ⟨S, s⟩ := en.sep
  obtain ⟨a, vs, rfl, _, h1, h2, h3⟩ := s.own i _ v (liveS_of h hv)
  exact ⟨a, vs, hv, h1, h2, h3⟩
theorem ds_put {k : Nat} {ox ik : Expr} (hr : Room k X.A) (hx : PE X ox (tVar i)) (hk : DB X ik fk) (he : DL X e fe)
    (hs : swapsWith e (some (.Subscript ox ik apos)) pos.line X.env = pure false := by rfl)
    (hs1 : swapsWithSole [.Subscript ox ik apos] e pos.line X.env = pure false := by rfl) (hw : swappedStores [.Subscript ox ik apos] e X.env = pure none := by rfl)
    (h1 : (assignEach [.Subscript ox ik apos] X.env).map (·.2) = [assign (.Subscript ox ik apos) X.env] := by rfl)
    (ha : ∀ v, assign (.Subscript ox ik apos) X.env v = (do
      let ov ← holding [v] (eval ox X.env)
      let iv ← holding [v, ov] (eval ik X.env)
      standAt apos
      holding [v, ov, iv] (setItem ov iv v)
      release [v, ov, iv] []) := by intro _; rfl) : DS1 X (.Assign [.Subscript ox ik apos] e pos) (sPut i fk fe) :=
  PS.mono (PS.or (ps_asg he (pg_sub hx hk set_list ha) hs1 hw h1) (ps_dput (hu_of hr) hx hk he hs)) fun D σ H ⟨Φ, δ, F, ot, hK, en, hg, k⟩ => by
    unfold sPut at hg
    obtain ⟨d, hd, hg⟩ := Option.bind_eq_some_iff.mp hg
    obtain ⟨kd, hkd, hg⟩ := Option.bind_eq_some_iff.mp hg
    split at hg <;> first | (cases hg; done) | skip
    · rename_i l hl
      obtain ⟨n, hn, hg⟩ := Option.bind_eq_some_iff.mp hg
      obtain ⟨j, hj, hg⟩ := Option.map_eq_some_iff.mp hg
      cases hg
      refine .inl ⟨Φ, δ, F, d, hK, en, hd, fun v H1 F1 st rv => ?_⟩
      have en1 := en.step st
      obtain ⟨a, vs, hv, h1, h2⟩ := en1.ownL hl
      refine ⟨.ref a, hv, Φ, δ, F1, kd, hK, en1, hkd, fun w H2 F2 st2 rw' => ?_⟩
      have en2 := en1.step st2
      refine ⟨a, vs, n, j, rfl, repB_int hn rw', st2.hh _ _ h1, by rw [h2.length]; exact hj, ?_⟩
      exact k σ F2 _ (en2.poke hl hv rfl fun S sa => ⟨a, _, rfl, sa, upd_same, Reps.set (hK ▸ rv.same st2.ff) j (h2.same st2.ff)⟩)
    · rename_i l hl
      obtain ⟨kk, hkk, hg⟩ := Option.bind_eq_some_iff.mp hg
      split at hg <;> first | (cases hg; done) | skip
      rename_i hc
      cases hg
      refine .inr ⟨Φ, δ, F, d, hK, en, hd, fun v H1 F1 st rv => ?_⟩
      have en1 := en.step st
      obtain ⟨a, kvs, hv, h1, h2, h3⟩ := en1.ownD hl
      refine ⟨.ref a, hv, Φ, δ, F1, kd, hK, en1, hkd, fun w H2 F2 st2 rw' => ?_⟩
      have en2 := en1.step st2
      have := keyD_of rw' hkk
      subst this
      have hlen : kvs.length = l.length := by simpa using congrArg List.length h2
      refine ⟨a, _, rfl, .inl ⟨kvs, kk, st2.hh _ _ h1, rfl, by rw [hlen]; exact hc.1, rfl⟩, ?_⟩
      obtain ⟨p1, p2⟩ := putK_eq kk v kvs l d (by rw [h2]; exact hc.2) h2
      exact k σ F2 _ (en2.poke hl hv rfl fun S sa => ⟨a, _, rfl, sa, upd_same, p1, p2 _ _ (hK ▸ rv.same st2.ff) (h3.same st2.ff)⟩)
end
end L2

namespace L2
open PySem PySem.Spec PyProof.Rows
section
variable {prog : Program} {w : World} {A : Around} {E : Value → Shared → Prop} {s : Shared} {I t : Addr} {j : Nat} {vs : Array Value}
theorem nextT_item {y : Value} {Q : Value → Shared → Prop} (hI : s.heap.IsTupleIter I t j) (hv : s.heap.IsTuple t vs) (hy : vs[j]? = some y)
    (q : ∀ h', h'.IsTupleIter I t (j + 1) → Heap.SameBut I s.heap h' → Q y { s with heap := h' }) : wpAny (model prog w) A (Builtin.SmallTypes.nextOf (.ref I)) Q E s := by
  obtain ⟨oi, hoi, hci, hdi⟩ := id hI
  obtain ⟨ot, hot, _, nt, hdt⟩ := hv
  unfold Builtin.SmallTypes.nextOf
  refine wpAny_bind (wpAny_callSpecial?_slot (name := Str.ofString "__next__") hI.typeIs F.slot_tuple_iterator_next (wpAny_call_entry F.slot_tuple_iterator_next hI.typeIs F.entry_tuple_iterator_next ?_ (F.args_tuple_iterator_next_1 _)))
  show wpAny _ _ (field (.ref I) 0 >>= _) _ _ s
  refine wpAny_bind (wpAny_field hoi hdi (x := .ref t) rfl ?_)
  show wpAny _ _ (if (Value.ref t == Value.none) = true then _ else _) _ _ s
  rw [if_neg (show ¬ (Value.ref t == Value.none) = true by exact Bool.false_ne_true)]
  show wpAny _ _ (field (.ref I) 1 >>= _) _ _ s
  refine wpAny_bind (wpAny_field hoi hdi (x := .int j 0) rfl ?_)
  show wpAny _ _ (seqItems? (.ref t) >>= _) _ _ s
  refine wpAny_bind (wpAny_seqItems hot hdt ?_)
  simp only [Int.toNat_natCast, hy]
  refine wpAny_bind (wpAny_setField hoi hdi (by simp) (wpAny_pure ⟨y, rfl, wpAny_pure (q _ ?_ (Heap.SameBut.update ..))⟩))
  exact ⟨_, Heap.get?_update_self _ hoi (Obj.isFreed_of_fields (Obj.data_mapFields hdi _)), (Obj.cls_mapFields ..).trans hci, by rw [Obj.data_mapFields hdi]; simp [rawInt]⟩
theorem nextT_end {Q : Value → Shared → Prop} (hh : A.handled = none) (hI : s.heap.IsTupleIter I t j) (hv : s.heap.IsTuple t vs) (hy : vs[j]? = none)
    (q : ∀ h' e, Heap.ExtBut I s.heap h' → (∃ o, h'.get? e = some o ∧ o.cls = .type "StopIteration") → E (.ref e) { s with heap := h' }) : wpAny (model prog w) A (Builtin.SmallTypes.nextOf (.ref I)) Q E s := by
  obtain ⟨oi, hoi, hci, hdi⟩ := id hI
  obtain ⟨ot, hot, _, nt, hdt⟩ := hv
  unfold Builtin.SmallTypes.nextOf
  refine wpAny_bind (wpAny_callSpecial?_slot (name := Str.ofString "__next__") hI.typeIs F.slot_tuple_iterator_next (wpAny_call_entry F.slot_tuple_iterator_next hI.typeIs F.entry_tuple_iterator_next ?_ (F.args_tuple_iterator_next_1 _)))
  show wpAny _ _ (field (.ref I) 0 >>= _) _ _ s
  refine wpAny_bind (wpAny_field hoi hdi (x := .ref t) rfl ?_)
  show wpAny _ _ (if (Value.ref t == Value.none) = true then _ else _) _ _ s
  rw [if_neg (show ¬ (Value.ref t == Value.none) = true by exact Bool.false_ne_true)]
  show wpAny _ _ (field (.ref I) 1 >>= _) _ _ s
  refine wpAny_bind (wpAny_field hoi hdi (x := .int j 0) rfl ?_)
  show wpAny _ _ (seqItems? (.ref t) >>= _) _ _ s
  refine wpAny_bind (wpAny_seqItems hot hdt ?_)
  simp only [Int.toNat_natCast, hy]
  refine wpAny_bind (wpAny_rule (wpAny_bind (wpAny_setField hoi hdi (by simp) ?_)))
  show wpAny _ _ (newExc (.type "StopIteration") [] >>= _) _ _ _
  refine wpAny_bind ?_
  simp only [newExc, newTuple]
  refine wpAny_bind (wpAny_newObj_type ?_ (by first | size_fits | decide))
  refine wpAny_bind (m := firstArgMember _ _) (wpAny_of_eq (a := Value.none) (by first | rfl | (simp only [firstArgMember] <;> rfl)) ?_)
  refine wpAny_newObj_type ?_ (by first | size_fits | decide)
  simp only [raiseNew]
  refine wpAny_bind (wpAny_handled ?_)
  first | rw [hh] | rw [show A.in1.handled = none by exact hh]
  refine wpAny_bind (wpAny_pure (wpAny_throw ?_))
  exact q _ _ (((Heap.SameBut.update ..).extBut.push _).push _) ⟨_, Heap.get?_push_size _ rfl, rfl⟩
end
theorem draws_tuple {prog : Program} {w : World} {A : Around} (hh : A.handled = none) (I t : Addr) (hne : t ≠ I) (vs : Array Value) : Draws prog w A I [I, t] vs.size (fun i v => vs[i]? = some v) (fun i h => h.IsTupleIter I t i ∧ h.IsTuple t vs) where
  live := fun _ _ st => let ⟨o, ho, _⟩ := st.1; ⟨o, ho⟩
  frame := fun _ _ _ st hk => ⟨let ⟨o, ho, r⟩ := st.1; ⟨o, hk I (by simp) o ho, r⟩, let ⟨o, ho, r⟩ := st.2; ⟨o, hk t (by simp) o ho, r⟩⟩
  item := fun i s Q E hi st hQ => nextT_item st.1 st.2 (y := vs[i]) (by simp [hi]) fun h' a b => hQ _ h' s.toks (by simp [hi]) ⟨a, let ⟨o, ho, r⟩ := st.2; ⟨o, b.extBut _ _ hne ho, r⟩⟩ b
  done := fun s Q E st hE => nextT_end hh st.1 st.2 (by simp) hE
noncomputable def SqB (b : Bool) (K : PySem.W.Frag) (H : Hp) (a : Addr) (xs : List V) : Prop := match b with
  | true => SqL K H a xs
  | false => SqT K H a xs
noncomputable def ItB (b : Bool) (h : Heap) (I a : Addr) (i : Nat) : Prop := match b with
  | true => h.IsListIter I a i
  | false => h.IsTupleIter I a i
noncomputable def CoB (b : Bool) (h : Heap) (a : Addr) (vs : Array Value) : Prop := match b with
  | true => h.IsList a vs
  | false => h.IsTuple a vs
theorem ItB.obj {b : Bool} {h : Heap} {I a : Addr} {i : Nat} (x : ItB b h I a i) : ∃ o, h.get? I = some o ∧ (o.cls = .type "list_iterator" ∨ o.cls = .type "tuple_iterator") ∧ ∀ v, o.data ≠ .cell v := by
  cases b with
  | true => obtain ⟨o, e, c, d⟩ := x; exact ⟨o, e, .inl c, fun v z => by rw [d] at z; cases z⟩
  | false => obtain ⟨o, e, c, d⟩ := x; exact ⟨o, e, .inr c, fun v z => by rw [d] at z; cases z⟩
theorem ItB.at {b : Bool} {h h' : Heap} {I a : Addr} {i : Nat} (x : ItB b h I a i) (k : ∀ o, h.get? I = some o → h'.get? I = some o) : ItB b h' I a i := by
  cases b with
  | true => obtain ⟨o, e, r⟩ := x; exact ⟨o, k o e, r⟩
  | false => obtain ⟨o, e, r⟩ := x; exact ⟨o, k o e, r⟩
theorem CoB.obj {b : Bool} {h : Heap} {a : Addr} {vs : Array Value} (x : CoB b h a vs) : ∃ o, h.get? a = some o ∧ (o.cls = .type "list" ∨ o.cls = .type "tuple") := by
  cases b with
  | true => obtain ⟨o, e, c, _⟩ := x; exact ⟨o, e, .inl c⟩
  | false => obtain ⟨o, e, c, _⟩ := x; exact ⟨o, e, .inr c⟩
theorem ty_ne {x y : String} (h : x ≠ y) : Value.type x ≠ Value.type y := fun z => h (by cases z; rfl)
theorem apartB {b c : Bool} {h : Heap} {I a l : Addr} {i : Nat} {vs : Array Value} (x : ItB b h I a i) (y : CoB c h l vs) : l ≠ I := by
  obtain ⟨o, e1, c1, _⟩ := x.obj
  obtain ⟨o', e2, c2⟩ := y.obj
  rintro rfl
  rw [e1] at e2
  cases e2
  rcases c1 with c1 | c1 <;> rcases c2 with c2 | c2 <;> rw [c1] at c2 <;> exact absurd c2 (ty_ne (by decide))
section
variable {X : Cx} {pins : List (Addr × Obj)} {σ : St} {H : Hp} {s : Shared} {a I : Addr} {xs : List V} {b : Bool}
theorem Inv.seqB (J : Inv X pins σ H s) (h : SqB b X.K H a xs) : ∃ its : List Value, Vals xs its ∧ CoB b s.heap a its.toArray := by
  cases b with
  | true => obtain ⟨its, r, p, _⟩ := J.list h; exact ⟨its, r, p.isList⟩
  | false => obtain ⟨its, r, p, _⟩ := J.tuple h; exact ⟨its, r, p⟩
theorem Inv.seqB_inj {ys : List V} (J : Inv X pins σ H s) (h : SqB b X.K H a xs) (h' : SqB b X.K H a ys) : xs = ys := by
  cases b with
  | true => exact J.list_inj h h'
  | false => exact J.tuple_inj h h'
theorem drawsB {prog : Program} {w : World} {A : Around} (hh : A.handled = none) (hne : a ≠ I) (vs : Array Value) : Draws prog w A I [I, a] vs.size (fun i v => vs[i]? = some v) (fun i h => ItB b h I a i ∧ CoB b h a vs) := by
  cases b with
  | true => exact Draws.list hh I a hne vs
  | false => exact draws_tuple hh I a hne vs
theorem Inv.turnedL {h' : Heap} {t' : Nat} {fp : List Addr} (J : Inv X pins σ H s) (k : ∀ b o, b ∉ fp → s.heap.get? b = some o → h'.get? b = some o) (hf : ∀ b ∈ fp, FpOk X pins H b) : Inv X pins σ H { s with heap := h', toks := t' } := by
  have nit : ∀ b u, H b = some u → b ∉ fp := fun b u e z => by rw [(hf b z).1] at e; cases e
  refine J.step (g' := s.gens) (d' := s.drawn) (ch := fp) (fun b hb => ?_) (fun b o _ _ hc e _ => k b o hc e) (fun b o _ _ hc e _ => ⟨o.slots, k b o hc e⟩) (fun _ _ _ _ n => n)
    (fun b o hc e => ⟨o, k b o hc e⟩) (fun _ _ e => e) (fun _ _ _ e => e) (fun b ps e => ⟨#[], by rw [e]; simp⟩) (fun _ _ e => e) (fun m hm => ?_) (fun b u e => ?_) J.bare
  · exact ⟨(hf b hb).2.2.2.1, (hf b hb).2.1, (hf b hb).2.2.2.2.1, (hf b hb).2.2.2.2.2⟩
  · obtain ⟨o, es, ep, ho, r⟩ := hm
    exact ⟨o, es, ep, k _ o (fun z => (hf _ z).2.1 rfl) ho, r⟩
  · refine (J.hok b u e).stay (fun c v hc q => k c v ?_ q) (fun _ q => q) (fun _ _ q => q) fun _ _ _ q => q
    rcases hc with z | z
    · rw [z]; exact nit b u e
    · exact nit c _ z
end
section
variable {X : Cx} {pins : List (Addr × Obj)} {σ : St} {H : Hp} {s : Shared}
theorem Inv.turnedT {h' : Heap} {t' : Nat} {fp : List Addr} {t : Addr} {u : HO} (J : Inv X pins σ H s) (k : ∀ b o, b ∉ fp → s.heap.get? b = some o → h'.get? b = some o) (hf : ∀ b ∈ fp, FpOk X pins H b) (ht : s.heap.objs.size ≤ t) (new : ObjOk X.prog X.w (upd H t u) h' t u) :
    Inv X pins σ (upd H t u) { s with heap := h', toks := t' } := by
  have nit : ∀ b u, H b = some u → b ∉ fp := fun b u e z => by rw [(hf b z).1] at e; cases e
  have hn : H t = none := J.hok.fresh ht
  have net : ∀ b v, H b = some v → b ≠ t := fun b v e => ne_of_none e hn
  have nlt : ∀ b o, s.heap.get? b = some o → b ≠ t := fun b o e z => by subst z; exact absurd (Heap.lt_size e) (Nat.not_lt.mpr ht)
  refine J.step (g' := s.gens) (d' := s.drawn) (ch := fp) (fun b hb => ?_) (fun b o _ _ hc e _ => k b o hc e) (fun b o _ _ hc e _ => ⟨o.slots, k b o hc e⟩) (fun b o _ e n => by rw [upd_ne (nlt b o e)]; exact n)
    (fun b o hc e => ⟨o, k b o hc e⟩) (fun b xs e => by rw [upd_ne (net b _ e)]; exact e) (fun b o v e => by rw [upd_ne (net b _ e)]; exact e) (fun b ps e => ⟨#[], by rw [upd_ne (net b _ e), e]; simp⟩) (fun b xs e => by rw [upd_ne (net b _ e)]; exact e) (fun m hm => ?_) (fun b v e => ?_) J.bare
  · exact ⟨(hf b hb).2.2.2.1, (hf b hb).2.1, (hf b hb).2.2.2.2.1, (hf b hb).2.2.2.2.2⟩
  · obtain ⟨o, es, ep, ho, r⟩ := hm
    exact ⟨o, es, ep, k _ o (fun z => (hf _ z).2.1 rfl) ho, r⟩
  · by_cases hb : b = t
    · subst hb
      rw [upd_same] at e
      cases e
      exact new
    · rw [upd_ne hb] at e
      refine (J.hok b v e).stay (fun c ob hc q => k c ob ?_ q) (fun c q => by rw [upd_ne (net c _ q)]; exact q) (fun c ys q => by rw [upd_ne (net c _ q)]; exact q) fun c ob ys q => by rw [upd_ne (net c _ q)]; exact q
      rcases hc with z | z
      · rw [z]; exact nit b v e
      · exact nit c _ z
end
noncomputable def Ite (b : Bool) (K : PySem.W.Frag) (a : Addr) : It :=
  ⟨fun i H => ∃ xs x, SqB b K H a xs ∧ xs[i]? = some x, fun i H x H' => ∃ t v, H t = none ∧ x = .ref t ∧ H' = upd H t (.tup [.int i, v]) ∧ ∀ xs, SqB b K H a xs → xs[i]? = some v, fun i H => ∃ xs, SqB b K H a xs ∧ xs.length = i⟩
theorem turn_enum {P : Program} {w : World} {K : PySem.W.Frag} {elts : List Expr} {n : Nat} {pos : Pos} (b : Bool) (a e I : Addr) (hne : e ≠ I) :
    Turn P w K (.Tuple elts n pos) (Ite b K a) [e, I] e (fun i h => (∃ old, IsEnum h e I i old) ∧ ItB b h I a i) where
  mem := by simp
  obj := fun i h st c hc => by
    obtain ⟨⟨old, st1⟩, st2⟩ := st
    simp only [List.mem_cons, List.not_mem_nil, or_false] at hc
    rcases hc with rfl | rfl
    · exact ⟨_, st1, fun v z => nomatch z⟩
    · obtain ⟨o, q, _, d⟩ := st2.obj
      exact ⟨o, q, d⟩
  keep := fun i h h' st k => by
    obtain ⟨⟨old, st1⟩, st2⟩ := st
    exact ⟨⟨old, k e (by simp) _ st1⟩, st2.at fun o q => k I (by simp) o q⟩
  item := by
    intro X hP hw hK hc i pins s σ H E J hf st hg
    subst hP hw hK
    obtain ⟨⟨old, st1⟩, st2⟩ := st
    obtain ⟨xs, x, hq, hx⟩ := hg
    obtain ⟨its, rv, co⟩ := J.seqB hq
    obtain ⟨u, hu, ru⟩ := rv.get hx
    have hi : i < its.toArray.size := by simpa using (List.getElem?_eq_some_iff.mp hu).1
    have hae : e ∉ [I, a] := by
      simp only [List.mem_cons, List.not_mem_nil, or_false, not_or]
      refine ⟨hne, fun z => ?_⟩
      obtain ⟨o, q, c⟩ := co.obj
      rw [← z, st1] at q
      cases q
      rcases c with c | c <;> exact absurd c (ty_ne (by decide))
    refine wpAny_pyNext_enum_itemD (drawsB (A := X.A.in1) (b := b) (I := I) (a := a) (show X.A.in1.handled = none from J.ok.hd hc) (apartB st2 co) its.toArray) st1 ⟨st2, co⟩ hi hne hae fun y h1 tk hy ho hs1 hT hsz hk => ⟨_, rfl, ?_⟩
    have ey : y = u := by
      rw [show its.toArray[i]? = its[i]? by simp, hu] at hy
      exact (Option.some.inj hy).symm
    subst ey
    refine wpAny_letOwnedTupleGo_enum ho fun h2 he2 sb2 => ?_
    have kk : ∀ c o, c ∉ [e, I] → s.heap.get? c = some o → h2.get? c = some o := fun c o hc' q => by
      simp only [List.mem_cons, List.not_mem_nil, or_false, not_or] at hc'
      exact (sb2.2 c hc'.1).trans (hk c o hc'.1 hc'.2 q)
    have lt : ∀ c ∈ [e, I], c < s.heap.objs.size := fun c hc' => by
      simp only [List.mem_cons, List.not_mem_nil, or_false] at hc'
      rcases hc' with rfl | rfl
      · exact Heap.lt_size st1
      · obtain ⟨o, q, _⟩ := st2.obj
        exact Heap.lt_size q
    -- first the records, then the pair
    have hT2 : h2.get? s.heap.objs.size = some { cls := .type "tuple", data := .seq #[.int i tk, y] } := (sb2.2 _ (fun z => Nat.lt_irrefl _ (z ▸ lt e (by simp)))).trans hT
    have J2 : Inv X pins σ (upd H s.heap.objs.size (.tup [.int i, x])) { s with heap := h2, toks := tk + 1 } := by
      refine J.turnedT kk hf (Nat.le_refl _) ⟨by show 2 ≤ sizeLine; decide, [.int i tk, y], .cons ⟨_, rfl⟩ (.cons ru .nil), ?_⟩
      exact ⟨_, hT2, rfl, _, rfl⟩
    refine ⟨.ref s.heap.objs.size, _, J2, rfl, ⟨_, x, J.hok.fresh (Nat.le_refl _), rfl, rfl, fun ys hy => by rw [J.seqB_inj hy hq]; exact hx⟩, ⟨⟨_, by simpa using he2⟩, hs1.1.at fun o q => (sb2.2 I (Ne.symm hne)).trans q⟩, fun c hc' => ?_⟩
    rw [upd_ne (Nat.ne_of_lt (lt c hc'))]
    exact (hf c hc').1
  done := by
    intro X hP hw hK hc i pins s σ H E J hf st hg
    subst hP hw hK
    obtain ⟨⟨old, st1⟩, st2⟩ := st
    obtain ⟨xs, hq, hx⟩ := hg
    obtain ⟨its, rv, co⟩ := J.seqB hq
    have hi : i = its.toArray.size := by rw [← hx]; simpa using rv.length
    refine wpAny_pyNext_enum_endD (drawsB (A := X.A.in1) (b := b) (I := I) (a := a) (show X.A.in1.handled = none from J.ok.hd hc) (apartB st2 co) its.toArray) st1 (show ItB b s.heap I a its.toArray.size ∧ CoB b s.heap a its.toArray from ⟨hi ▸ st2, co⟩) fun h' eb => ⟨rfl, ?_⟩
    exact J.turnedL (t' := s.toks) (fun c o hc' q => eb c o (fun z => hc' (by simp [z])) q) hf
  self := fun A i s Q E st h => by
    obtain ⟨⟨old, st1⟩, st2⟩ := st
    exact wpAny_pyIter_enum st1 h
theorem meets_enumT (t : Addr) (vs : Array Value) (n : Nat) (dd : Option Addr) (sl : Array (Option Value)) :
    Meets (Builtin.«enumerate.__new__» ⟨[.type "enumerate", .ref t], []⟩) (fun _ R s => s.heap.get? t = some { cls := .type "tuple", dict := dd, data := .seq vs n, slots := sl } ∧
      R (.ok (.ret (.ref (s.heap.push { cls := .type "tuple_iterator", data := .fields #[.ref t, .int 0 0] }).objs.size)))
        { s with heap := (s.heap.push { cls := .type "tuple_iterator", data := .fields #[.ref t, .int 0 0] }).push { cls := .type "enumerate", data := .fields #[.none, .bool false, .ref s.heap.objs.size, rawInt 0, .none, .none] } }) :=
  .of_wp fun prog w A R s h => by
    obtain ⟨hp, g, d, tk, os⟩ := s
    obtain ⟨ht, h⟩ := h
    have hsub := sub_enumerate
    have hT : Heap.IsTuple (Shared.heap ⟨hp, g, d, tk, os⟩) t vs := ⟨_, ht, rfl, n, rfl⟩
    wp_walk using AutoSeq1.wpAny_loadPart' ht
    refine wpAny_stack_any fun st => wpAny_pure ?_
    split
    · rename_i c _ _ _ _ _
      cases (c == Value.type "enumerate") <;> (wp_walk using AutoSeq1.wpAny_loadPart' ht, wpAny_pyIter_tuple hT) <;> exact ⟨_, rfl, h⟩
    · (wp_walk using AutoSeq1.wpAny_loadPart' ht, wpAny_pyIter_tuple hT) <;> exact ⟨_, rfl, h⟩
section
variable {prog : Program} {w : World} {A : Around} {E : Value → Shared → Prop} {s : Shared}
theorem call_enumT {t : Addr} {vs : Array Value} {Q : Value → Shared → Prop} (hT : s.heap.IsTuple t vs)
    (h : ∀ h', IsEnum h' (s.heap.objs.size + 1) s.heap.objs.size 0 .none → h'.IsTupleIter s.heap.objs.size t 0 → h'.objs.size = s.heap.objs.size + 2 →
      (∀ c u, s.heap.get? c = some u → h'.get? c = some u) → Q (.ref (s.heap.objs.size + 1)) { s with heap := h' }) :
    wpAny (model prog w) A (call (.type "enumerate") [.ref t]) Q E s := by
  obtain ⟨⟨c, dct, dt, sl⟩, hl, hc, n, hd⟩ := hT
  have hc : c = .type "tuple" := hc
  have hd : dt = .seq vs n := hd
  subst hc hd
  refine callType_new F.called_enumerate (by decide) (F.typeCall_enumerate_1 _) (F.newCall_enumerate_1 _) (fun obj => F.args_object_init_2 obj _) F.entry_enumerate_new (meets_enumT t vs n dct sl) ⟨hl, ?_⟩
  have hz : (s.heap.push { cls := .type "tuple_iterator", data := .fields #[.ref t, .int 0 0] }).objs.size = s.heap.objs.size + 1 := Heap.size_push ..
  have hz2 : ((s.heap.push { cls := .type "tuple_iterator", data := .fields #[.ref t, .int 0 0] }).push { cls := .type "enumerate", data := .fields #[.none, .bool false, .ref s.heap.objs.size, rawInt 0, .none, .none] }).objs.size = s.heap.objs.size + 2 := by rw [Heap.size_push, hz]
  rw [hz]
  have hen := Heap.get?_push_size (s.heap.push { cls := .type "tuple_iterator", data := .fields #[.ref t, .int 0 0] }) (o := { cls := .type "enumerate", data := .fields #[.none, .bool false, .ref s.heap.objs.size, rawInt 0, .none, .none] }) rfl
  rw [hz] at hen
  exact ⟨⟨_, hen, rfl⟩, h _ hen ⟨_, Heap.get?_push_of_some _ (Heap.get?_push_size _ rfl), rfl, rfl⟩ hz2 fun c u z => Heap.get?_push_of_some _ (Heap.get?_push_of_some _ z)⟩
theorem call_enumB {b : Bool} {t : Addr} {vs : Array Value} {Q : Value → Shared → Prop} (hT : CoB b s.heap t vs)
    (h : ∀ h', IsEnum h' (s.heap.objs.size + 1) s.heap.objs.size 0 .none → ItB b h' s.heap.objs.size t 0 → h'.objs.size = s.heap.objs.size + 2 →
      (∀ c u, s.heap.get? c = some u → h'.get? c = some u) → Q (.ref (s.heap.objs.size + 1)) { s with heap := h' }) :
    wpAny (model prog w) A (call (.type "enumerate") [.ref t]) Q E s := by
  cases b with
  | true => exact call_enumerate_list hT h
  | false => exact call_enumT hT h
end
section
variable {X : Cx} {x : Expr} {p pos tpos : Pos} {sc : Scope} {fs : De → Option (List Dt)} {elts : List Expr} {n : Nat}
noncomputable def iEnum (K : PySem.W.Frag) (ta : TA) : TI := fun σ H R => ta σ H fun vs H1 => ∃ b a xs, vs = [.ref a] ∧ SqB b K H1 a xs ∧ R (Ite b K a) H1
theorem pi_enum {ta : TA} (h : glOk sc "enumerate" = true) (hm : X.mg "enumerate" = none) (ha : PA X [x] ta) (e1 : ScIs X sc := by rfl) (hs : starEach [x] X.env = [(false, eval x X.env)] := by rfl) :
    PI X (.Tuple elts n tpos) (.Call (.Name "enumerate" p) [x] [] pos) (iEnum X.K ta) := by
  intro pins s σ H R I h'
  refine Call_ (ld_blt I (glD h e1) hm bt_enumerate (PyProof.Rows.callWith_type1 (thn (ha pos pins s σ H _ I h') fun us s1 ⟨vs, H1, I1, r1, q1⟩ => ?_) hs rfl))
  obtain ⟨b, a, xs, rfl, hq, q⟩ := q1
  obtain ⟨u, rfl, ru⟩ := vals1 r1
  cases ru
  obtain ⟨its, rv, co⟩ := I1.seqB hq
  refine call_enumB co fun h2 he hi hz hk => wpAny_pyIter_enum he ?_
  have I2 : Inv X pins σ H1 { s1 with heap := h2 } := I1.kept (t' := s1.toks) hk
  refine ⟨s1.heap.objs.size + 1, [s1.heap.objs.size + 1, s1.heap.objs.size], _, _, H1, rfl, I2, turn_enum b a _ _ (Nat.ne_of_gt (Nat.lt_succ_self _)), ⟨⟨_, he⟩, hi⟩, fun c hc => ?_, q⟩
  have hge : s1.heap.objs.size ≤ c := by
    simp only [List.mem_cons, List.not_mem_nil, or_false] at hc
    rcases hc with rfl | rfl
    · exact Nat.le_succ _
    · exact Nat.le_refl _
  exact I1.fpOk hge (I1.hok.fresh hge)
noncomputable def enumL (i : Nat) : List Dt → List Dt
  | [] => []
  | d :: r => .tup [.int i, d] :: enumL (i + 1) r
theorem enumL_len : ∀ (l : List Dt) (i : Nat), (enumL i l).length = l.length
  | [], _ => rfl
  | _ :: r, i => by simp [enumL, enumL_len r]
theorem enumL_get : ∀ (l : List Dt) (i k : Nat), (enumL i l)[k]? = l[k]?.map fun d => .tup [.int ((i + k : Nat) : Int), d]
  | [], i, k => by simp [enumL]
  | d :: r, i, 0 => by simp [enumL]
  | d :: r, i, k + 1 => by simp [enumL, enumL_get r, Nat.add_assoc, Nat.add_comm 1]
noncomputable def enumD : List Dt → Option (List Dt)
  | [.lst l] => some (enumL 0 l)
  | [.tup l] => some (enumL 0 l)
  | _ => none
theorem rep_pair {K : PySem.W.Frag} {F : Hp} {d e : Dt} {v w : V} {t : Addr} (h : F t = some (.tup [v, w])) (r : Rep K F d v) (r' : Rep K F e w) : Rep K F (.tup [d, e]) (.ref t) := by
  simp only [Rep, Reps]
  exact ⟨t, _, rfl, SqT.of h, v, [w], rfl, r, w, [], rfl, r', rfl⟩
theorem walk_enum {K : PySem.W.Frag} {F : Hp} {b : Bool} {a : Addr} {xs : List V} {l : List Dt} (r : Reps K F l xs) : WalkD K F (Ite b K a) (enumL 0 l) (fun H => SqB b K H a xs) := fun i H F2 hok fh ff => by
  have hl := r.length
  rw [enumL_len]
  refine ⟨fun h => ⟨xs, xs[i], hok, by simp [show i < xs.length by omega]⟩, fun h => ⟨xs, hok, by omega⟩, fun x H' hi hy => ?_⟩
  obtain ⟨t, v, ht, rfl, rfl, hv⟩ := hy
  have hx := hv xs hok
  obtain ⟨d, hd, rd⟩ := r.same_get hx
  refine ⟨_, upd F2 t (.tup [.int i, v]), ?_, Step.new fh ht, rep_pair upd_same rep_int ((rd.same ff).same (Same.upd (fh.free ht)))⟩
  rw [enumL_get, hd]
  simp
theorem di_enumerate (h : glOk sc "enumerate" = true) (hm : X.mg "enumerate" = none) (ha : DA X [x] fs) (e1 : ScIs X sc := by rfl) (hs : starEach [x] X.env = [(false, eval x X.env)] := by rfl) :
    DIF X (.Tuple elts n tpos) (.Call (.Name "enumerate" p) [x] [] pos) (fRng enumD fs) := PI.mono (pi_enum h hm ha.pa e1 hs) fun σ H R ⟨Φ, δ, F, ds, hK, en, hf, k⟩ => by
  unfold fRng at hf
  obtain ⟨as, hd, hf⟩ := Option.bind_eq_some_iff.mp hf
  refine ⟨Φ, δ, F, as, hK, en, hd, fun vs H' F' st r => ?_⟩
  unfold enumD at hf
  split at hf <;> first | (cases hf; done) | skip
  · cases hf
    simp only [Reps, Rep] at r
    obtain ⟨v, ws, rfl, ⟨a, xs, rfl, h1, h2⟩, rfl⟩ := r
    exact ⟨true, a, xs, rfl, st.fh.seq h1, k _ _ H' F' st (walk_enum (b := true) h2) fun H2 s => s.seq h1⟩
  · cases hf
    simp only [Reps, Rep] at r
    obtain ⟨v, ws, rfl, ⟨a, xs, rfl, h1, h2⟩, rfl⟩ := r
    exact ⟨false, a, xs, rfl, st.fh.tup h1, k _ _ H' F' st (walk_enum (b := false) h2) fun H2 s => s.tup h1⟩
end
end L2




namespace L2
open PySem PySem.Spec PyProof.Rows
section
variable {X : Cx} {E : XK} {k n : Nat} {ps ns : List Str} {ff : List Dt → Option T} {x c : Str} {sc : Scope} {p pos pos' : Pos} {e : Expr} {es : List Expr} {fs : De → Option (List Dt)} {i : Nat}
theorem DA.nox (ha : DA X.nox es fs) : PA X.nox es (tAL X.K fs) := ha.pa
noncomputable def vXmk (c : Str) (ns : List Str) (fs : De → Option (List Dt)) : De → Option T := fun δ => (fs δ).bind fun ds => if ds.length = ns.length then some (.exc c (ns.zip ds)) else none
theorem repX_new {K : PySem.W.Frag} {F : Hp} {C D f : Addr} {ds : List Dt} {vs : List V} {x dx : Addr} (h1 : clsOf K c = some C) (h2 : clsOf K "DimError" = some D) (h3 : XCl K C D f) (h4 : ∀ g ∈ ns, NoAttr K C g) (hl : ds.length = ns.length) (r : Reps K F ds vs) (hd : F dx = none) (hx : F x = none) (ne : dx ≠ x) :
    RepX K (upd (upd F dx (XD dx (ns.zip vs))) x (XC x C dx)) c (ns.zip ds) (.ref x) := by
  have e1 : (ns.zip ds).map (·.1) = ns := List.map_fst_zip (by omega)
  have e2 : (ns.zip ds).map (·.2) = ds := List.map_snd_zip (by omega)
  refine ⟨x, C, D, f, dx, vs, rfl, h1, h2, h3, by rw [e1]; exact h4, upd_same, by rw [upd_ne ne, upd_same, e1], ?_⟩
  rw [e2]
  refine r.same fun b o q => ?_
  rw [upd_ne (ne_of_none q hx), upd_ne (ne_of_none q hd)]
  exact q
theorem do_xmk (h : glOk sc c = true) (F : OkX X.prog X.w X.K X.mg X.base c k ns) (hr : Room (k + 1) X.A) (ha : DA X.nox (e :: es) fs) (e1 : ScIs X sc := by rfl)
    (he : starEach (e :: es) X.env = (false, eval e X.env) :: starEach es X.env := by rfl) (hpl : (backTo pos (starEach es X.env)).any (·.1) = false := by rfl) : DO X (.Call (.Name c p) (e :: es) [] pos) (vXmk c ns fs) := by
  obtain ⟨C, D, f, fd, ps, h1, h2, h3, h4, h5, h6, h7, h8⟩ := F.ex
  refine PE.mono (pe_xmk h4 h5 h8 hr h7 h6 (glD h e1) h1 ha.nox (gl_dbg h) he hpl) fun σ H Q ⟨Φ, δ, Fz, t, hK, en, hf, k⟩ => ?_
  unfold vXmk at hf
  obtain ⟨ds, hd, hf⟩ := Option.bind_eq_some_iff.mp hf
  split at hf
  · rename_i hl
    cases hf
    refine ⟨Φ, δ, Fz, ds, hK, en, hd, fun vs H1 F1 st r => ⟨by rw [r.length]; exact hl, fun x dx hx hdx ne => ?_⟩⟩
    have s1 := Step.new (o := XD dx (ns.zip vs)) st.fh hdx
    have s2 := Step.new (o := XC x C dx) s1.fh (p := x) (by rw [upd_ne (Ne.symm ne)]; exact hx)
    exact k (.ref x) _ _ (fun _ => False) (st.trans (s1.trans s2)) (repX_new h2 h3 h4 h5 hl r (st.fh.free hdx) (st.fh.free hx) ne) fun _ z => z.elim
  · cases hf
noncomputable def sRs (c : Str) (ns : List Str) (fs : De → Option (List Dt)) : De → Option Out := fun δ => (fs δ).bind fun ds => if ds.length = ns.length then some (.rt (.rse c (ns.zip ds))) else none
theorem dx_raise {P : Program} {w : World} {K : PySem.W.Frag} {mg : Str → Option Value} {base : Heap} {N : List Str} {qual : Str} {scope : Scope} {fa : Addr} {cd : Value} {A : Around} {outer : List Env} {s0 : Shared} {H0 : Hp} (h : glOk sc c = true) (F : OkX X.prog X.w X.K X.mg X.base c k ns) (hr : Room (k + 1) X.A) (ha : DA X.nox (e :: es) fs)
    (hX : X = cxOf (CXX P w) P w K mg base N qual scope fa cd A outer s0 H0 E := by rfl) (e1 : ScIs X sc := by rfl)
    (he : starEach (e :: es) X.env = (false, eval e X.env) :: starEach es X.env := by rfl) (hpl : (backTo pos (starEach es X.env)).any (·.1) = false := by rfl) : DX1 X E (.Raise (some (.Call (.Name c p) (e :: es) [] pos)) none pos') (sRs c ns fs) := by
  obtain ⟨C, D, f, fd, ps, h1, h2, h3, h4, h5, h6, h7, h8⟩ := F.ex
  refine PS.mono (ps_raise hX h4 h5 h8 hr h7 h6 (glD h e1) h1 ha.nox (gl_dbg h) he hpl) fun Dd σ H ⟨Φ, δ, Fz, o, hK, en, hf, k⟩ => ?_
  unfold sRs at hf
  obtain ⟨ds, hd, hf⟩ := Option.bind_eq_some_iff.mp hf
  split at hf
  · rename_i hl
    cases hf
    refine ⟨Φ, δ, Fz, ds, hK, en, hd, fun vs H1 F1 st r => ⟨by rw [r.length]; exact hl, fun x dx hx hdx ne => ?_⟩⟩
    have s1 := Step.new (o := XD dx (ns.zip vs)) st.fh hdx
    have s2 := Step.new (o := XC x C dx) s1.fh (p := x) (by rw [upd_ne (Ne.symm ne)]; exact hx)
    have en2 := en.step (st.trans (s1.trans s2))
    exact k x _ _ ⟨en2.fh, en2.prot, en2.old, en2.nw, hK ▸ repX_new h2 h3 h4 h5 hl r (st.fh.free hdx) (st.fh.free hx) ne⟩ (some dx)
  · cases hf
noncomputable def sCX (ff : List Dt → Option T) (fs : De → Option (List Dt)) : De → Option Out := fun δ => ((fs δ).bind ff).map fun t => match t with
  | .rse c l => .rt (.rse c l)
  | _ => .nx δ
theorem pe_callX {P : Program} {w : World} {K : PySem.W.Frag} {mg : Str → Option Value} {base : Heap} {N : List Str} {qual : Str} {scope : Scope} {fa : Addr} {cd : Value} {A : Around} {outer : List Env} {s0 : Shared} {H0 : Hp} {sp : Sp} {t : TA} (h : glOk sc x = true) (F : OkFX X.prog X.w X.K X.mg X.base x k ps sp) (hr : Room k X.A) (ha : PA X (e :: es) t)
    (hX : X = cxOf (CXX P w) P w K mg base N qual scope fa cd A outer s0 H0 E) (e1 : ScIs X sc)
    (he : starEach (e :: es) X.env = (false, eval e X.env) :: starEach es X.env) (hpl : (backTo pos (starEach es X.env)).any (·.1) = false) : PE X (.Call (.Name x p) (e :: es) [] pos) (tCall sp [] E t) := by
  obtain ⟨f, fd, h1, h2, h3, h4⟩ := F.ex
  exact pe_call h4 hr (glD h e1) h1 h2 h3 .nil (by rw [hX]; exact pass_x) ha (gl_dbg h) he hpl
theorem En.rtX {Φ : Fm} {δ : De} {σ : St} {F H : Hp} {D : Ends} {c : Str} {l : List (Str × Dt)} (en : En Φ δ σ F H) (k : PostX Φ D E (.rt (.rse c l))) : KX Φ.K F H c l E := fun x H' F' st r dx => by
  have e2 := en.step st
  exact k x F' H' ⟨e2.fh, e2.prot, e2.old, e2.nw, r⟩ dx
theorem dx_call {P : Program} {w : World} {K : PySem.W.Frag} {mg : Str → Option Value} {base : Heap} {N : List Str} {qual : Str} {scope : Scope} {fa : Addr} {cd : Value} {A : Around} {outer : List Env} {s0 : Shared} {H0 : Hp} (h : glOk sc x = true) (F : OkFX X.prog X.w X.K X.mg X.base x k ps (spX X.K n ff)) (hr : Room k X.A) (ha : DA X (e :: es) fs) (hn : (e :: es).length = n := by rfl)
    (hX : X = cxOf (CXX P w) P w K mg base N qual scope fa cd A outer s0 H0 E := by rfl) (e1 : ScIs X sc := by rfl)
    (he : starEach (e :: es) X.env = (false, eval e X.env) :: starEach es X.env := by rfl) (hpl : (backTo pos (starEach es X.env)).any (·.1) = false := by rfl) (hs : swapsWith (.Call (.Name x p) (e :: es) [] pos) none pos'.line X.env = pure false := by rfl) :
    DX1 X E (.Expr (.Call (.Name x p) (e :: es) [] pos) pos') (sCX ff fs) := PS.mono (ps_expr (pe_callX h F hr ha.pa hX e1 he hpl) hs) fun D σ H ⟨Φ, δ, Fz, o, hK, en, hf, k⟩ => by
  unfold sCX at hf
  obtain ⟨t, ht, hf⟩ := Option.map_eq_some_iff.mp hf
  obtain ⟨ds, hd, ht⟩ := Option.bind_eq_some_iff.mp ht
  refine ⟨Φ, δ, Fz, ds, hK, en, hd, fun vs H1 F1 st r => ?_⟩
  show spX X.K n ff (vs ++ []) H1 _ E
  rw [List.append_nil]
  refine ⟨F1, ds, t, st.fh, (ha.len δ ds hd).trans hn, r, ht, ?_⟩
  have en1 := en.step st
  cases t with
  | rse c l => cases hf; exact hK ▸ en1.rtX k
  | _ => cases hf; exact fun v H' F' S st' _ _ => k σ F' H' (en1.step st')
noncomputable def notX : T → Option T
  | .rse _ _ => none
  | t => some t
noncomputable def vCX (ff : List Dt → Option T) (fs : De → Option (List Dt)) : De → Option T := fun δ => ((fs δ).bind ff).bind notX
theorem pass_no {P : Program} {w : World} : Passes (CXX P w) X E0 := fun pins σ H s e s' _ ⟨_, _, _, _, _, _, _, _, _, _, _, _, _, _, _, _, z⟩ => z.elim
theorem do_callX (h : glOk sc x = true) (F : OkFX X.prog X.w X.K X.mg X.base x k ps (spX X.K n ff)) (hr : Room k X.A) (ha : DA X (e :: es) fs) (hn : (e :: es).length = n := by rfl) (e1 : ScIs X sc := by rfl)
    (he : starEach (e :: es) X.env = (false, eval e X.env) :: starEach es X.env := by rfl) (hpl : (backTo pos (starEach es X.env)).any (·.1) = false := by rfl) : DO X (.Call (.Name x p) (e :: es) [] pos) (vCX ff fs) := by
  obtain ⟨f, fd, h1, h2, h3, h4⟩ := F.ex
  refine PE.mono (pe_call h4 hr (glD h e1) h1 h2 h3 .nil pass_no ha.pa (gl_dbg h) he hpl) fun σ H Q ⟨Φ, δ, Fz, t, hK, en, hf, k⟩ => ?_
  unfold vCX at hf
  obtain ⟨u, hu, hf⟩ := Option.bind_eq_some_iff.mp hf
  obtain ⟨ds, hd, hu⟩ := Option.bind_eq_some_iff.mp hu
  refine ⟨Φ, δ, Fz, ds, hK, en, hd, fun vs H1 F1 st r => ?_⟩
  show spX X.K n ff (vs ++ []) H1 _ E0
  rw [List.append_nil]
  refine ⟨F1, ds, u, st.fh, (ha.len δ ds hd).trans hn, r, hu, ?_⟩
  cases u with
  | rse c l => cases hf
  | _ => cases hf; exact KO.step k st
noncomputable def sTry (ff : List Dt → Option T) (fs : De → Option (List Dt)) (ir jn ic : Nat) : De → Option Out := fun δ => ((fs δ).bind ff).map fun t => match t with
  | .rse c l => .nx ((δ.set jn none).set ic (some (.exc c l)))
  | t => .nx (δ.set ir (some t))
theorem En.clearN {Φ : Fm} {δ : De} {σ : St} {F H : Hp} (e : En Φ δ σ F H) (i : Nat) : En Φ (δ.set i none) (σ.set i none) F H := by
  obtain ⟨S, s⟩ := e.sep
  have key : ∀ (j : Nat) (t : T), (δ.set i none)[j]? = some (some t) → j ≠ i ∧ δ[j]? = some (some t) := fun j t h => by
    by_cases hj : j = i
    · subst hj
      rw [List.getElem?_set] at h
      simp only [if_true] at h
      split at h <;> cases h
    · rw [List.getElem?_set_ne (Ne.symm hj)] at h
      exact ⟨hj, h⟩
  refine ⟨e.fh, e.prot, e.old, e.nw, by simp [e.len], fun j t h => ?_, S, fun j t v h => ?_, s.out, s.dis⟩
  · obtain ⟨hj, h⟩ := key j t h
    obtain ⟨v, hv⟩ := e.has j t h
    exact ⟨v, by rw [List.getElem?_set_ne (Ne.symm hj)]; exact hv⟩
  · obtain ⟨h1, h2⟩ := of_liveS h
    obtain ⟨hj, h1⟩ := key j t h1
    rw [List.getElem?_set_ne (Ne.symm hj)] at h2
    exact s.own j t v (liveS_of h1 h2)
theorem ds_try {N : List Str} {y m z dn : Str} {ir jn ic : Nat} {D : Addr} {py pa pd pz pm pas ph pt : Pos} (h : glOk sc x = true) (F : OkFX X.prog X.w X.K X.mg X.base x k ps (spX X.K n ff)) (hr : Room k X.A) (ha : DA X.nox (e :: es) fs)
    (T : XTop X.K D) (hD : clsOf X.K "DimError" = some D) (hmD : X.mg dn = some (.ref D)) (hgD : glOk sc dn = true) (nd : N.Nodup) (hy : nmOk sc N ir y = true) (ly : lcOk sc y = true) (hm : nmOk sc N jn m = true) (lm : sc.names.lookup m = some .local) (hz : nmOk sc N ic z = true) (lz : lcOk sc z = true) (hij : jn ≠ ic)
    (hn : (e :: es).length = n := by rfl) (e1 : ScIs X sc := by rfl) (e2 : X.N = N := by rfl) (hst : X.stack = X.env :: X.outer := by rfl) (hfr : X.env.frame = some X.env.locals := by rfl)
    (fy : X.fn y = true ∨ X.env.scope.names.lookup y = some .local := by exact .inl rfl) (fz : X.fn z = true ∨ X.env.scope.names.lookup z = some .local := by exact .inl rfl)
    (hs : swapsWith (.Call (.Name x p) (e :: es) [] pos) (some (.Name y py)) pa.line X.env = pure false := by rfl) (hs2 : swapsWith (.Name m pm) (some (.Name z pz)) pas.line X.env = pure false := by rfl)
    (he : starEach (e :: es) X.env = (false, eval e X.env) :: starEach es X.env := by rfl) (hpl : (backTo pos (starEach es X.env)).any (·.1) = false := by rfl) :
    DS1 X (.Try [.Assign [.Name y py] (.Call (.Name x p) (e :: es) [] pos) pa] [.ExceptHandler (some (.Name dn pd)) (some m) [.Assign [.Name z pz] (.Name m pm) pas] ph] [] [] pt) (sTry ff fs ir jn ic) := by
  obtain ⟨f, fd, h1, h2, h3, h4⟩ := F.ex
  have e1' : X.env.scope = sc := e1
  subst e1' e2
  refine PS.mono (ps_try h4 hr (glD h e1) h1 h2 h3 ha.nox T (glD hgD e1) hmD hst hfr nd (nm_nth hy) (lc_loc ly) fy (nm_nth hm) lm (nm_nth hz) (lc_loc lz) fz hij (fun u E => pvD jn hm rfl rfl) hs hs2 (gl_dbg h) (gl_dbg hgD) he hpl) fun Dd σ H ⟨Φ, δ, Fz, o, hK, en, hf, k⟩ => ?_
  unfold sTry at hf
  obtain ⟨t, ht, hf⟩ := Option.map_eq_some_iff.mp hf
  obtain ⟨ds, hd, ht⟩ := Option.bind_eq_some_iff.mp ht
  refine ⟨Φ, δ, Fz, ds, hK, en, hd, fun vs H1 F1 st r => ⟨F1, ds, t, st.fh, (ha.len δ ds hd).trans hn, r, ht, ?_⟩⟩
  have en1 := en.step st
  cases t with
  | rse c l =>
    cases hf
    intro x H' F' st' rx dx
    obtain ⟨x', C, D', f', dx', vs', ee, g1, g2, g3, g4, g5, g6, g7⟩ := id rx
    cases ee
    rw [hD] at g2
    cases g2
    refine ⟨x, C, dx', f', rfl, st'.fh _ _ g5, g3, k _ F' H' ?_⟩
    exact (en1.clearN jn).put (t := .exc c l) (S' := fun _ => False) st' (hK ▸ rx) (fun _ z => z.elim) ic
  | _ => cases hf; exact fun v H' F' S st' o hs => k _ F' H' (en1.put st' (hK ▸ o) hs ir)
end
end L2

namespace L2
open PySem PySem.Spec PyProof.Rows
section
variable {X : Cx} {i : Nat} {sc : Scope} {x : Str} {p pos : Pos} {e : Expr} {f : Str} {fe : De → Option T}
noncomputable def tXat (K : PySem.W.Frag) (ta : TE) (f : Str) : TE := fun σ H Q => ta σ H fun v H1 => ∃ x C D fI dx fs y, v = .ref x ∧ H1 x = some (XC x C dx) ∧ H1 dx = some (XD dx fs) ∧ XCl K C D fI ∧ NoAttr K C f ∧ fs.lookup f = some y ∧ Q y H1
theorem pe_xat {ta : TE} (ha : PE X e ta) (hb : attributeBase e f X.env (eval e X.env) = eval e X.env := by rfl) : PE X (.Attribute e f pos) (tXat X.K ta f) := by
  intro pins s σ H Q I h
  refine attr_of hb (thn (ha pins s σ H _ I h) fun o s1 ⟨v, H1, I1, r, x, C, D, fI, dx, fs, y, ev, h1, h2, h3, h4, h5, q⟩ => ?_)
  subst ev
  obtain rfl : o = Value.ref x := r
  obtain ⟨ob, vs, g1, g2, g3, g4⟩ := I1.hok.xc h1
  obtain ⟨mA, n1, r1, _⟩ := I1.hok.xd h2
  obtain ⟨u, hu, ru⟩ := RelO.some_of (v := y) (o := mA f) (by rw [← h5]; exact r1 f)
  exact x_get I1.kIn h3 g1 g2 g3 g4 h4 n1 hu (handed_of ru) ⟨y, H1, I1.tok _, ru, q⟩
noncomputable def lookX (f : Str) : T → Option Dt
  | .exc _ l => l.lookup f
  | _ => none
noncomputable def vXat (f : Str) (fe : De → Option T) : De → Option Dt := fun δ => (fe δ).bind (lookX f)
theorem zip_look {K : PySem.W.Frag} {F : Hp} {f : Str} {d : Dt} : ∀ {l : List (Str × Dt)} {vs : List V}, Reps K F (l.map (·.2)) vs → l.lookup f = some d → ∃ y, ((l.map (·.1)).zip vs).lookup f = some y ∧ Rep K F d y
  | [], _, _, h => by cases h
  | (g, d0) :: l, vs, r, h => by
    simp only [List.map_cons, Reps] at r
    obtain ⟨v, ws, rfl, r1, r2⟩ := r
    simp only [List.map_cons, List.zip_cons_cons, List.lookup] at h ⊢
    cases q : f == g with
    | true => rw [q] at h; cases h; exact ⟨v, rfl, r1⟩
    | false => rw [q] at h; exact zip_look r2 h
theorem look_keys {f : Str} {d : Dt} : ∀ {l : List (Str × Dt)}, l.lookup f = some d → f ∈ l.map (·.1)
  | [], h => by cases h
  | (g, d0) :: l, h => by
    simp only [List.lookup] at h
    cases q : f == g with
    | true => rw [beq_iff_eq.mp q]; simp
    | false => rw [q] at h; exact List.mem_cons_of_mem _ (look_keys h)
theorem dl_xat (he : DO X e fe) (hb : attributeBase e f X.env (eval e X.env) = eval e X.env := by rfl) : DL X (.Attribute e f pos) (vXat f fe) := PE.mono (pe_xat he hb) fun σ H Q ⟨Φ, δ, F, d, hK, en, hf, k⟩ => by
  unfold vXat at hf
  obtain ⟨t, ht, hf⟩ := Option.bind_eq_some_iff.mp hf
  cases t with
  | exc c l =>
    refine ⟨Φ, δ, F, _, hK, en, ht, fun v H' F' S st o hs => ?_⟩
    obtain ⟨x, C, D, fI, dx, vs, rfl, h1, h2, h3, h4, h5, h6, h7⟩ := (show RepX X.K F' c l v from o)
    obtain ⟨y, hy, ry⟩ := zip_look h7 hf
    exact ⟨x, C, D, fI, dx, _, y, rfl, st.fh _ _ h5, st.fh _ _ h6, h3, h4 f (look_keys hf), hy, k y H' F' st ry⟩
  | _ => cases hf
noncomputable def vX (i : Nat) : De → Option T := fun δ => match δ[i]? with
  | some (some (.exc c l)) => some (.exc c l)
  | _ => none
theorem do_xvar (h : PE X e (tVar i)) : DO X e (vX i) := PE.mono h fun σ H Q ⟨Φ, δ, F, t, hK, en, hf, k⟩ => by
  unfold vX at hf
  split at hf
  · rename_i c l q
    cases hf
    obtain ⟨v, hv⟩ := en.has i _ q
    obtain ⟨S, s⟩ := en.sep
    exact ⟨v, hv, k v H F (fun _ => False) (Step.refl en.fh) (hK ▸ (show RepX Φ.K F c l v from s.own i _ v (liveS_of q hv))) fun _ z => z.elim⟩
  · cases hf
noncomputable def tXn (i : Nat) : De → Option Bool := fun δ => match δ[i]? with
  | some (some (.exc _ _)) => some false
  | some (some (.leaf d)) => some (match d with | .non => true | _ => false)
  | _ => none
theorem dt_xnone {j : Nat} {pn : Pos} (h : PE X e (tVar i)) : DT X (.Compare e [.Is] [.Constant .none j pn] pos) (tXn i) := PT.mono (pt_cmpR op_isN h pe_non rfl) fun σ H Q ⟨Φ, δ, F, b, hK, en, hf, k⟩ => by
  unfold tXn at hf
  split at hf
  · rename_i c l q
    cases hf
    obtain ⟨v, hv⟩ := en.has i _ q
    obtain ⟨S, s⟩ := en.sep
    obtain ⟨x, _, _, _, _, _, rfl, _⟩ := (show RepX Φ.K F c l v from s.own i _ v (liveS_of q hv))
    exact ⟨_, hv, rfl, ⟨false, rfl, k H F (Step.refl en.fh)⟩⟩
  · rename_i d q
    cases hf
    obtain ⟨v, hv, r⟩ := en.leaf q
    refine ⟨v, hv, rfl, ⟨_, ?_, k H F (Step.refl en.fh)⟩⟩
    cases d with
    | non => simp only [Rep] at r; subst r; rfl
    | bl b => simp only [Rep] at r; subst r; rfl
    | int b => simp only [Rep] at r; subst r; rfl
    | str b => simp only [Rep] at r; subst r; rfl
    | tup l => simp only [Rep] at r; obtain ⟨a, vs, rfl, _⟩ := r; rfl
    | lst l => simp only [Rep] at r; obtain ⟨a, vs, rfl, _⟩ := r; rfl
    | dct ks l => simp only [Rep] at r; obtain ⟨a, vs, rfl, _⟩ := r; rfl
    | dcT ks l => simp only [Rep] at r; obtain ⟨a, vs, rfl, _⟩ := r; rfl
  · cases hf
theorem call_instX : CallR X (.builtin "isinstance") (fun xs H Q => ∃ x C D fI dx fs v b, xs = [.ref x, v] ∧ H x = some (XC x C dx) ∧ H dx = some (XD dx fs) ∧ XCl X.K C D fI ∧ XIs X.K C ∧ (∀ u, RelV v u → PySem.W.kitOne X.K (.ref C) u = some b) ∧ Q (.bl b) H) := by
  intro pins s σ H xs us Q I r h
  obtain ⟨x, C, D, fI, dx, fs, v, b, rfl, h1, h2, h3, h4, h5, q⟩ := h
  obtain ⟨u, w', rfl, ru, rw'⟩ := vals2 r
  cases ru
  exact PySem.W.kia_one (x_kit (vs := #[]) h3 h4) I.kIn ⟨I.hok.xc h1, I.hok.xd h2⟩ (h5 w' rw') (fun z => nomatch z) fun tk => ⟨.bl b, H, I.tok _, rfl, q⟩
theorem call_instXs : CallR X (.builtin "isinstance") (fun xs H Q => ∃ x C D fI dx fs a vs b, xs = [.ref x, .ref a] ∧ H x = some (XC x C dx) ∧ H dx = some (XD dx fs) ∧ XCl X.K C D fI ∧ XIs X.K C ∧ H a = some (.tup vs) ∧ (∀ us, Vals vs us → PySem.W.kitAny X.K (.ref C) us = some b) ∧ Q (.bl b) H) := by
  intro pins s σ H xs us Q I r h
  obtain ⟨x, C, D, fI, dx, fs, a, vs, b, rfl, h1, h2, h3, h4, h5, h6, q⟩ := h
  obtain ⟨u, w', rfl, ru, rw'⟩ := vals2 r
  cases ru
  cases rw'
  obtain ⟨_, its, r2, o, e1, e2, n, e3⟩ := (show ObjOk X.prog X.w H s.heap a (.tup vs) from I.hok a _ h5)
  obtain ⟨oc, od, oda, osl⟩ := o
  dsimp only at e2 e3
  subst e2 e3
  exact PySem.W.kia_tup (x_kit (vs := #[]) h3 h4) I.kIn ⟨I.hok.xc h1, I.hok.xd h2⟩ e1 (h6 its r2) (fun z => nomatch z) fun tk => ⟨.bl b, H, I.tok _, rfl, q⟩
end
end L2

namespace L2
open PySem PySem.Spec PyProof.Rows
noncomputable def kcl (K : PySem.W.Frag) (C : Addr) : Bool := (PySem.W.clsIn K C).isSome && PySem.W.typeIn K (.ref C) == some (.type "type")
structure XW (K : PySem.W.Frag) (mg : Str → Option Value) (cs : List Str) : Prop where
  ex : ∃ D, clsOf K "DimError" = some D ∧ mg "DimError" = some (.ref D) ∧ XTop K D ∧ ∀ c ∈ cs, ∃ C, clsOf K c = some C ∧ mg c = some (.ref C) ∧ XIs K C ∧ kcl K C = true ∧ C ≠ D
  inj : ∀ c ∈ cs, ∀ c' ∈ cs, clsOf K c = clsOf K c' → c = c'
section
variable {K : PySem.W.Frag} {mg : Str → Option Value} {cs : List Str} {C D f Y : Addr} {c y : Str}
theorem XCl.mro (x : XCl K C D f) (T : Value) : PySem.W.mroIn K C T = some ((.ref C :: .ref D :: vtl : List Value).contains T) := by
  obtain ⟨cd, h1, h2, _⟩ := x.cls
  unfold PySem.W.mroIn
  rw [h1, Option.bind_some, h2]
  rfl
theorem XW.own (W : XW K mg cs) (x : XCl K C D f) (hD : clsOf K "DimError" = some D) (hc : c ∈ cs) (hC : clsOf K c = some C) (hy : y ∈ cs) (hY : clsOf K y = some Y) : PySem.W.kitOne K (.ref C) (.ref Y) = some (c == y) := by
  obtain ⟨D', e1, _, _, all⟩ := W.ex
  rw [hD] at e1
  cases e1
  obtain ⟨Y', e2, _, _, ky, nd⟩ := all y hy
  rw [hY] at e2
  cases e2
  unfold PySem.W.kitOne
  by_cases hcy : c = y
  · subst hcy
    rw [hC] at hY
    cases hY
    rw [if_pos (beq_self_eq_true _), beq_self_eq_true]
  · have ne : C ≠ Y := fun z => hcy (W.inj c hc y hy (by rw [hC, hY, z]))
    rw [if_neg (by simpa using ne), beq_eq_false_iff_ne.mpr hcy]
    unfold PySem.W.kitCls
    dsimp only
    rw [if_pos (show ((PySem.W.clsIn K Y).isSome && PySem.W.typeIn K (.ref Y) == some (.type "type")) = true from ky)]
    show PySem.W.mroIn K C (.ref Y) = _
    rw [x.mro]
    simp [vtl, Ne.symm ne, nd]
theorem XW.dim (W : XW K mg cs) (x : XCl K C D f) (hD : clsOf K "DimError" = some D) (hc : c ∈ cs) (hC : clsOf K c = some C) : PySem.W.kitOne K (.ref C) (.ref D) = some true := by
  obtain ⟨D', e1, _, T, all⟩ := W.ex
  rw [hD] at e1
  cases e1
  obtain ⟨C', e2, _, _, _, nd⟩ := all c hc
  rw [hC] at e2
  cases e2
  unfold PySem.W.kitOne
  rw [if_neg (by simpa using nd)]
  unfold PySem.W.kitCls
  dsimp only
  rw [if_pos T.cls]
  show PySem.W.mroIn K C (.ref D) = _
  rw [x.mro]
  simp
theorem XW.val (x : XCl K C D f) : PySem.W.kitOne K (.ref C) (.type "ValueError") = some true := by
  unfold PySem.W.kitOne
  rw [if_neg (by simp)]
  unfold PySem.W.kitCls
  dsimp only
  rw [if_pos (show PySem.W.kitMeta "ValueError" = true by decide +kernel)]
  show PySem.W.mroIn K C (.type "ValueError") = _
  rw [x.mro]
  simp [vtl]
end
section
variable {X : Cx} {cs : List Str} {sc : Scope} {p1 p2 pos : Pos} {a : Expr} {fa : De → Option T} {y : Str}
noncomputable def isX (cs : List Str) (b : Str → Bool) : T → Option T
  | .exc c _ => if c ∈ cs then some (.leaf (.bl (b c))) else none
  | _ => none
noncomputable def vXis (cs : List Str) (b : Str → Bool) (fa : De → Option T) : De → Option T := fun δ => (fa δ).bind (isX cs b)
theorem do_xis {e : Expr} {v : V} {b : Str → Bool} (W : XW X.K X.mg cs) (h : glOk sc "isinstance" = true) (hm : X.mg "isinstance" = none) (ha : DO X a fa) (hv : PE X e (tC v))
    (hk : ∀ c C D f u, c ∈ cs → clsOf X.K c = some C → clsOf X.K "DimError" = some D → XCl X.K C D f → RelV v u → PySem.W.kitOne X.K (.ref C) u = some (b c)) (e1 : ScIs X sc := by rfl)
    (he : starEach [a, e] X.env = (false, eval a X.env) :: starEach [e] X.env := by rfl) (he2 : starEach [e] X.env = (false, eval e X.env) :: starEach [] X.env := by rfl) (hpl : (backTo pos (starEach [e] X.env)).any (·.1) = false := by rfl) :
    DO X (.Call (.Name "isinstance" p1) [a, e] [] pos) (vXis cs b fa) :=
  PE.mono (pe_callBD h call_instX hm bt_isinstance (pa_cons ha (pa_cons hv pa_nil he2) he) e1 he hpl) fun σ H Q ⟨Φ, δ, F, t, hK, en, hf, k⟩ => by
    unfold vXis at hf
    obtain ⟨u, hu, hf⟩ := Option.bind_eq_some_iff.mp hf
    cases u with
    | exc c l =>
      simp only [isX] at hf
      split at hf
      · rename_i hc
        cases hf
        refine ⟨Φ, δ, F, _, hK, en, hu, fun w H' F' S st o hs => ?_⟩
        obtain ⟨x, C, D, fI, dx, vs, rfl, h1, h2, h3, h4, h5, h6, h7⟩ := (show RepX X.K F' c l w from o)
        obtain ⟨D', g1, _, _, all⟩ := W.ex
        obtain ⟨C', g2, _, xi, _⟩ := all c hc
        rw [h1] at g2
        cases g2
        exact ⟨x, C, D, fI, dx, _, v, b c, rfl, st.fh _ _ h5, st.fh _ _ h6, h3, xi, fun u ru => hk c C D fI u hc h1 h2 h3 ru, (k.step st).bl st.fh⟩
      · cases hf
    | _ => cases hf
theorem do_xisO (W : XW X.K X.mg cs) (h : glOk sc "isinstance" = true) (hm : X.mg "isinstance" = none) (hy : glOk sc y = true) (hc : y ∈ cs) (ha : DO X a fa) (e1 : ScIs X sc := by rfl)
    (he : starEach [a, .Name y p2] X.env = (false, eval a X.env) :: starEach [.Name y p2] X.env := by rfl) (he2 : starEach [.Name y p2] X.env = (false, eval (.Name y p2) X.env) :: starEach [] X.env := by rfl) (hpl : (backTo pos (starEach [.Name y p2] X.env)).any (·.1) = false := by rfl) :
    DO X (.Call (.Name "isinstance" p1) [a, .Name y p2] [] pos) (vXis cs (· == y) fa) := by
  obtain ⟨D, g1, _, _, all⟩ := W.ex
  obtain ⟨Y, g2, g3, _⟩ := all y hc
  exact do_xis (v := .ref Y) W h hm ha (pe_globD hy ⟨_, g3, rfl⟩ e1) (fun c C D f u hc' h1 h2 h3 ru => by cases ru; exact W.own h3 h2 hc' h1 hc g2) e1 he he2 hpl
theorem do_xisD (W : XW X.K X.mg cs) (h : glOk sc "isinstance" = true) (hm : X.mg "isinstance" = none) (hy : glOk sc "DimError" = true) (ha : DO X a fa) (e1 : ScIs X sc := by rfl)
    (he : starEach [a, .Name "DimError" p2] X.env = (false, eval a X.env) :: starEach [.Name "DimError" p2] X.env := by rfl) (he2 : starEach [.Name "DimError" p2] X.env = (false, eval (.Name "DimError" p2) X.env) :: starEach [] X.env := by rfl) (hpl : (backTo pos (starEach [.Name "DimError" p2] X.env)).any (·.1) = false := by rfl) :
    DO X (.Call (.Name "isinstance" p1) [a, .Name "DimError" p2] [] pos) (vXis cs (fun _ => true) fa) := by
  obtain ⟨D, g1, g2, _, all⟩ := W.ex
  exact do_xis (v := .ref D) W h hm ha (pe_globD hy ⟨_, g2, rfl⟩ e1) (fun c C D' f u hc' h1 h2 h3 ru => by cases ru; rw [g1] at h2; cases h2; exact W.dim h3 g1 hc' h1) e1 he he2 hpl
theorem do_xisV (W : XW X.K X.mg cs) (h : glOk sc "isinstance" = true) (hm : X.mg "isinstance" = none) (hy : glOk sc "ValueError" = true) (hmv : X.mg "ValueError" = none) (hv : bootBuiltins "ValueError" = some (.type "ValueError")) (ha : DO X a fa) (e1 : ScIs X sc := by rfl)
    (he : starEach [a, .Name "ValueError" p2] X.env = (false, eval a X.env) :: starEach [.Name "ValueError" p2] X.env := by rfl) (he2 : starEach [.Name "ValueError" p2] X.env = (false, eval (.Name "ValueError" p2) X.env) :: starEach [] X.env := by rfl) (hpl : (backTo pos (starEach [.Name "ValueError" p2] X.env)).any (·.1) = false := by rfl) :
    DO X (.Call (.Name "isinstance" p1) [a, .Name "ValueError" p2] [] pos) (vXis cs (fun _ => true) fa) :=
  do_xis (v := .ty "ValueError") W h hm ha (pe_bltnD hy hmv hv rfl e1) (fun c C D' f u hc' h1 h2 h3 ru => by cases ru; exact XW.val h3) e1 he he2 hpl
theorem kitAny_own {K : PySem.W.Frag} {mg : Str → Option Value} {C D f : Addr} {c : Str} (W : XW K mg cs) (x : XCl K C D f) (hD : clsOf K "DimError" = some D) (hc : c ∈ cs) (hC : clsOf K c = some C) : ∀ (ys : List Str) (Ys : List Value), (∀ y ∈ ys, y ∈ cs) → Paired (fun y u => ∃ Y, clsOf K y = some Y ∧ u = Value.ref Y) ys Ys → PySem.W.kitAny K (.ref C) Ys = some (ys.contains c)
  | _, _, _, .nil => rfl
  | y :: ys, u :: us, h, .cons ⟨Y, h1, h2⟩ r => by
    subst h2
    simp only [PySem.W.kitAny, W.own x hD hc hC (h y (.head _)) h1, List.contains_cons]
    cases q : c == y with
    | true => simp
    | false => simpa using kitAny_own W x hD hc hC ys us (fun y hy => h y (.tail _ hy)) r
theorem do_xisT {es : List Expr} {ys : List Str} {x1 : Nat} {t : TA} {pt : Pos} (W : XW X.K X.mg cs) (h : glOk sc "isinstance" = true) (hm : X.mg "isinstance" = none) (hys : ∀ y ∈ ys, y ∈ cs) (hz : ys.length ≤ sizeLine) (ha : DO X a fa) (hp : PA X es t)
    (ht : ∀ σ H Q, (∀ vs, (∀ us, Vals vs us → Paired (fun y u => ∃ Y, clsOf X.K y = some Y ∧ u = Value.ref Y) ys us) → vs.length = ys.length → Q vs H) → t σ H Q) (e1 : ScIs X sc := by rfl)
    (he : starEach [a, .Tuple es x1 pt] X.env = (false, eval a X.env) :: starEach [.Tuple es x1 pt] X.env := by rfl) (he2 : starEach [.Tuple es x1 pt] X.env = (false, eval (.Tuple es x1 pt) X.env) :: starEach [] X.env := by rfl) (hpl : (backTo pos (starEach [.Tuple es x1 pt] X.env)).any (·.1) = false := by rfl) :
    DO X (.Call (.Name "isinstance" p1) [a, .Tuple es x1 pt] [] pos) (vXis cs (fun c => ys.contains c) fa) :=
  PE.mono (pe_callBD h call_instXs hm bt_isinstance (pa_cons ha (pa_cons (pe_tup hp) pa_nil he2) he) e1 he hpl) fun σ H Q ⟨Φ, δ, F, t, hK, en, hf, k⟩ => by
    unfold vXis at hf
    obtain ⟨u, hu, hf⟩ := Option.bind_eq_some_iff.mp hf
    cases u with
    | exc c l =>
      simp only [isX] at hf
      split at hf
      · rename_i hc
        cases hf
        refine ⟨Φ, δ, F, _, hK, en, hu, fun w H' F' S st o hs => ht _ _ _ fun vs hvs hl => ⟨by rw [hl]; exact hz, fun b hb => ?_⟩⟩
        obtain ⟨x, C, D, fI, dx, vs', rfl, h1, h2, h3, h4, h5, h6, h7⟩ := (show RepX X.K F' c l w from o)
        obtain ⟨D', g1, _, _, all⟩ := W.ex
        obtain ⟨C', g2, _, xi, _⟩ := all c hc
        rw [h1] at g2
        cases g2
        have s2 := Step.made (o := .tup vs) st.fh hb
        have k2 := (k.step (st.trans s2)).bl s2.fh
        exact ⟨x, C, D, fI, dx, _, b, vs, _, rfl, s2.hh _ _ (st.fh _ _ h5), s2.hh _ _ (st.fh _ _ h6), h3, xi, upd_same, fun us ru => kitAny_own W h3 h2 hc h1 ys us hys (hvs us ru), k2⟩
      · cases hf
    | _ => cases hf
theorem do_xis3 {y1 y2 y3 : Str} {q1 q2 q3 pt : Pos} {x1 : Nat} (W : XW X.K X.mg cs) (h : glOk sc "isinstance" = true) (hm : X.mg "isinstance" = none) (h1 : glOk sc y1 = true) (h2 : glOk sc y2 = true) (h3 : glOk sc y3 = true) (hys : ∀ y ∈ [y1, y2, y3], y ∈ cs) (ha : DO X a fa) (e1 : ScIs X sc := by rfl)
    (s1 : starEach [.Name y1 q1, .Name y2 q2, .Name y3 q3] X.env = (false, eval (.Name y1 q1) X.env) :: starEach [.Name y2 q2, .Name y3 q3] X.env := by rfl) (s2 : starEach [.Name y2 q2, .Name y3 q3] X.env = (false, eval (.Name y2 q2) X.env) :: starEach [.Name y3 q3] X.env := by rfl) (s3 : starEach [.Name y3 q3] X.env = (false, eval (.Name y3 q3) X.env) :: starEach [] X.env := by rfl)
    (he : starEach [a, .Tuple [.Name y1 q1, .Name y2 q2, .Name y3 q3] x1 pt] X.env = (false, eval a X.env) :: starEach [.Tuple [.Name y1 q1, .Name y2 q2, .Name y3 q3] x1 pt] X.env := by rfl) (he2 : starEach [.Tuple [.Name y1 q1, .Name y2 q2, .Name y3 q3] x1 pt] X.env = (false, eval (.Tuple [.Name y1 q1, .Name y2 q2, .Name y3 q3] x1 pt) X.env) :: starEach [] X.env := by rfl) (hpl : (backTo pos (starEach [.Tuple [.Name y1 q1, .Name y2 q2, .Name y3 q3] x1 pt] X.env)).any (·.1) = false := by rfl) :
    DO X (.Call (.Name "isinstance" p1) [a, .Tuple [.Name y1 q1, .Name y2 q2, .Name y3 q3] x1 pt] [] pos) (vXis cs (fun c => [y1, y2, y3].contains c) fa) := by
  obtain ⟨D, _, _, _, all⟩ := W.ex
  obtain ⟨Y1, a1, b1, _⟩ := all y1 (hys _ (.head _))
  obtain ⟨Y2, a2, b2, _⟩ := all y2 (hys _ (.tail _ (.head _)))
  obtain ⟨Y3, a3, b3, _⟩ := all y3 (hys _ (.tail _ (.tail _ (.head _))))
  refine do_xisT W h hm hys (show 3 ≤ sizeLine by decide) ha (pa_cons (pe_globD (v := .ref Y1) h1 ⟨_, b1, rfl⟩ e1) (pa_cons (pe_globD (v := .ref Y2) h2 ⟨_, b2, rfl⟩ e1) (pa_cons (pe_globD (v := .ref Y3) h3 ⟨_, b3, rfl⟩ e1) pa_nil s3) s2) s1) (fun σ H Q k => ?_) e1 he he2 hpl
  refine k [.ref Y1, .ref Y2, .ref Y3] (fun us r => ?_) rfl
  cases r with
  | cons r1 r => cases r with
    | cons r2 r => cases r with
      | cons r3 r =>
        cases r
        exact .cons ⟨Y1, a1, r1⟩ (.cons ⟨Y2, a2, r2⟩ (.cons ⟨Y3, a3, r3⟩ .nil))
end
structure DefX (K : PySem.W.Frag) (mg : Str → Option Value) (c : Str) (st : Stmt) (ps ns : List Str) : Prop where
  ex : ∃ C D f fd, mg c = some (.ref C) ∧ clsOf K c = some C ∧ clsOf K "DimError" = some D ∧ XCl K C D f ∧ (∀ g ∈ ns, NoAttr K C g) ∧ Binds K fd ps [] ∧ Fun K "__init__" (c ++ ".__init__") st f fd
section
variable {P : Program} {w : World} {K : PySem.W.Frag} {mg : Str → Option Value} {base : Heap} {c : Str} {st : Stmt} {ps N : List Str} {k : Nat}
theorem mk_x1 {g : Str} (D : DefX K mg c st ps [g]) (S : FnScope N ps (defScope st)) (hp : ps.length = 2)
    (hb : ∀ (f : Addr) (cdv : Value) (A : Around) (outer : List Env) (s : Shared) (H : Hp) (E : XK), PSs (cxOf CX0 P w K mg base N (c ++ ".__init__") (defScope st) f cdv A outer s H E).nox (defBody st) (sX0 K (tVar 0) (tVar 1) g)) : OkX P w K mg base c (k + 1) [g] := by
  obtain ⟨C, Dd, f, fd, h1, h2, h3, h4, h5, h6, h7⟩ := D.ex
  refine ⟨C, Dd, f, fd, ps, h1, h2, h3, h4, h5, show 1 ≤ sizeLine by decide, h6, h7.ok S (fun vs H Q E h => ?_) fun cdv A outer s H vs Q E hr h => ⟨_, hb f cdv A outer s H E, ?_⟩⟩
  · obtain ⟨x, C, Dd, us, rfl, hl, _⟩ := h
    rw [hp, List.length_cons, hl]; rfl
  · obtain ⟨x, C', Dd', us, rfl, hl, c1, c2, hx, q⟩ := h
    match us, hl with
    | [u], _ =>
      exact ⟨u, rfl, .ref x, rfl, x, C', Dd', f, rfl, hx, c1, c2 g (.head _), fun dx hd ne => q dx hd ne⟩
theorem mk_x2 {g g' : Str} (hg : g ≠ g') (D : DefX K mg c st ps [g, g']) (S : FnScope N ps (defScope st)) (hp : ps.length = 3)
    (hb : ∀ (f : Addr) (cdv : Value) (A : Around) (outer : List Env) (s : Shared) (H : Hp) (E : XK), PSs (cxOf CX0 P w K mg base N (c ++ ".__init__") (defScope st) f cdv A outer s H E).nox (defBody st) (tSeq (sX0 K (tVar 0) (tVar 1) g) (sX1 K (tVar 0) (tVar 2) g'))) : OkX P w K mg base c (k + 1) [g, g'] := by
  obtain ⟨C, Dd, f, fd, h1, h2, h3, h4, h5, h6, h7⟩ := D.ex
  refine ⟨C, Dd, f, fd, ps, h1, h2, h3, h4, h5, show 2 ≤ sizeLine by decide, h6, h7.ok S (fun vs H Q E h => ?_) fun cdv A outer s H vs Q E hr h => ⟨_, hb f cdv A outer s H E, ?_⟩⟩
  · obtain ⟨x, C, Dd, us, rfl, hl, _⟩ := h
    rw [hp, List.length_cons, hl]; rfl
  · obtain ⟨x, C', Dd', us, rfl, hl, c1, c2, hx, q⟩ := h
    match us, hl with
    | [u, u'], _ =>
      refine ⟨u, rfl, .ref x, rfl, x, C', Dd', f, rfl, hx, c1, c2 g (.head _), fun dx hd ne => ⟨u', rfl, .ref x, rfl, x, C', Dd', f, dx, [(g, u)], rfl, upd_same, by rw [upd_ne ne, upd_same], ne, show 1 < 900 by decide, c1, c2 g' (.tail _ (.head _)), ?_⟩⟩
      have := q dx hd ne
      have e : upd (upd (upd H dx (XD dx [(g, u)])) x (XO x C' (some dx))) dx (XD dx (putF g' u' [(g, u)])) = upd (upd H dx (XD dx ([g, g'].zip [u, u']))) x (XO x C' (some dx)) := by
        funext b
        have : putF g' u' [(g, u)] = [(g, u), (g', u')] := by unfold putF; rw [if_neg hg]; rfl
        rw [this]
        by_cases hb1 : b = dx
        · subst hb1
          rw [upd_same, upd_ne ne, upd_same]
          rfl
        · rw [upd_ne hb1]
          by_cases hb2 : b = x
          · subst hb2; rw [upd_same, upd_same]
          · rw [upd_ne hb2, upd_ne hb2, upd_ne hb1, upd_ne hb1]
      show Q .non _
      rw [e]
      exact this
end
end L2






namespace L2
open PySem PySem.Spec PyProof.Rows
noncomputable def SDic (P : Program) (w : World) (K : PySem.W.Frag) (mg : Str → Option Value) (x : Str) (ks : List Key) (l : List Dt) : Prop :=
  ∃ (a : Addr) (kvs : List (Key × V)) (vs : List (Key × Value)), mg x = some (.ref a) ∧ (a == sysModules) = false ∧ kvs.map (·.1) = ks ∧ (∀ F, Reps K F l (kvs.map (·.2))) ∧ KV kvs vs ∧ ∀ h : Heap, K.In h → h.DictOf (mixKind P w) a vs
noncomputable def gSg (ks : List Key) (l : List Dt) : Dt → Option T := fun k => (keyD k).bind fun k => (lookZ ks l k).map .leaf
noncomputable def vSg (ks : List Key) (l : List Dt) (f : De → Option Dt) : De → Option T := fun δ => (f δ).bind (gSg ks l)
noncomputable def gSi (neg : Bool) (ks : List Key) (l : List Dt) : Dt → Option Bool := fun k => (keyD k).map fun k => if neg then !(lookZ ks l k).isSome else (lookZ ks l k).isSome
noncomputable def fSi (neg : Bool) (ks : List Key) (l : List Dt) (f : De → Option Dt) : De → Option Bool := fun δ => (f δ).bind (gSi neg ks l)
section
variable {X : Cx} {b : Expr} {fb : De → Option Dt} {pos p : Pos} {x : Str} {sc : Scope} {ks : List Key} {l : List Dt}
noncomputable def tSg (kvs : List (Key × V)) (ty : TE) : TE := fun σ H Q => ty σ H fun y H1 => ∃ k v, y = kV k ∧ valV kvs k = some v ∧ Q v H1
noncomputable def tSi (neg : Bool) (kvs : List (Key × V)) (ty : TE) : TE := fun σ H Q => ty σ H fun y H1 => ∃ k, y = kV k ∧ Q (.bl (if neg then !(valV kvs k).isSome else (valV kvs k).isSome)) H1
theorem pe_sg {a : Addr} {kvs : List (Key × V)} {vs : List (Key × Value)} {ty : TE} (h : glOk sc x = true) (hg : X.mg x = some (.ref a)) (rel : KV kvs vs) (hD : ∀ h : Heap, X.K.In h → h.DictOf (mixKind X.prog X.w) a vs) (hb : PE X b ty) (hn : NoSl b) (e1 : ScIs X sc := by rfl) :
    PE X (.Subscript (.Name x p) b pos) (tSg kvs ty) := by
  intro pins s σ H Q I q
  have hx : PE X (.Name x p) (tC (.ref a)) := pe_globD h ⟨_, hg, rfl⟩ e1
  refine subD_of PySem.F.slot_dict_getitem.lookup hn (thn (hx pins s σ H (fun y H1 => y = .ref a ∧ tSg kvs ty σ H1 Q) I ⟨rfl, q⟩) fun u s1 ⟨y0, H1, I1, rx, e0, q1⟩ => thn (hb pins s1 σ H1 _ I1 q1) fun iv s2 ⟨y, H2, I2, ry, k, v, ey, hv, q2⟩ => ?_)
  subst e0 ey
  obtain rfl : u = Value.ref a := rx
  have dd := hD _ I2.kIn
  obtain ⟨w', hw, rw'⟩ := RelO.some_of (v := v) (o := valueAt vs k) (by rw [← hv]; exact rel.val k)
  exact ⟨dd.typeIs, wpAny_getItem_of (kV_is ry) dd.mapOf hw ⟨v, H2, I2.tok _, rw', q2⟩⟩
theorem pc_si {a : Addr} {kvs : List (Key × V)} {vs : List (Key × Value)} {ty : TE} (h : glOk sc x = true) (hg : X.mg x = some (.ref a)) (hs : (a == sysModules) = false) (rel : KV kvs vs) (hD : ∀ h : Heap, X.K.In h → h.DictOf (mixKind X.prog X.w) a vs) (hb : PE X b ty) (e1 : ScIs X sc := by rfl) :
    PC X .In b (.Name x p) (tSi false kvs ty) := by
  intro pins s σ H Q I q
  have hx : PE X (.Name x p) (tC (.ref a)) := pe_globD h ⟨_, hg, rfl⟩ e1
  refine thn (hb pins s σ H _ I q) fun iv s1 ⟨y, H1, I1, ry, k, ey, q1⟩ => thn (hx pins s1 σ H1 (fun y H2 => y = .ref a ∧ Q (.bl (valV kvs k).isSome) H2) I1 ⟨rfl, q1⟩) fun u s2 ⟨y0, H2, I2, rx, e0, q2⟩ => ?_
  subst e0 ey
  obtain rfl : u = Value.ref a := rx
  have dd := hD _ I2.kIn
  refine wpAny_in_of (kV_is ry) hs dd.mapOf ?_
  rw [← (rel.val k).isSome_eq]
  exact ⟨.bl (valV kvs k).isSome, H2, I2.tok _, rfl, q2⟩
theorem do_sg (h : glOk sc x = true) (hm : SDic X.prog X.w X.K X.mg x ks l) (hb : DB X b fb) (e1 : ScIs X sc := by rfl) (hn : NoSl b := by exact fun _ _ => rfl) : DO X (.Subscript (.Name x p) b pos) (vSg ks l fb) := by
  obtain ⟨a, kvs, vs, hg, hs, rfl, hR, rel, hD⟩ := hm
  refine PE.mono (pe_sg h hg rel hD hb hn e1) fun σ H Q ⟨Φ, δ, F, t, hK, en, hf, k⟩ => ?_
  unfold vSg at hf
  obtain ⟨y, hy, hf⟩ := Option.bind_eq_some_iff.mp hf
  obtain ⟨kk, hk, hf⟩ := Option.bind_eq_some_iff.mp hf
  obtain ⟨d, hd, hf⟩ := Option.map_eq_some_iff.mp hf
  cases hf
  refine ⟨Φ, δ, F, y, hK, en, hy, fun v H1 F1 st rv => ?_⟩
  obtain ⟨w, hw, rw'⟩ := look_some (hR F1) hd
  exact ⟨kk, w, keyD_of rv hk, hw, (k.step st).leaf.here st.fh rw'⟩
theorem si_of {neg : Bool} {K : PySem.W.Frag} {kvs : List (Key × V)} (hR : ∀ F, Reps K F l (kvs.map (·.2))) {σ : St} {H : Hp} {Q : Bool → Hp → Prop} (h : tTr K (fSi neg (kvs.map (·.1)) l fb) σ H Q) : tSi neg kvs (tBd K fb) σ H (fun v H' => ∃ c, v = .bl c ∧ Q c H') := by
  obtain ⟨Φ, δ, F, t, hK, en, hf, k⟩ := h
  unfold fSi at hf
  obtain ⟨y, hy, hf⟩ := Option.bind_eq_some_iff.mp hf
  obtain ⟨kk, hk, hf⟩ := Option.map_eq_some_iff.mp hf
  subst hf
  refine ⟨Φ, δ, F, y, hK, en, hy, fun v H1 F1 st rv => ⟨kk, keyD_of rv hk, _, rfl, ?_⟩⟩
  rw [← look_is (hR F1)]
  exact k H1 F1 st
theorem dt_si (h : glOk sc x = true) (hm : SDic X.prog X.w X.K X.mg x ks l) (hb : DB X b fb) (e1 : ScIs X sc := by rfl) (hk : behindInMarks .In (.Name x p) = false := by with_unfolding_all rfl) : DT X (.Compare b [.In] [.Name x p] pos) (fSi false ks l fb) := by
  obtain ⟨a, kvs, vs, hg, hs, rfl, hR, rel, hD⟩ := hm
  exact PT.mono (pt_cmp (pc_si h hg hs rel hD hb e1) hk) fun σ H Q q => si_of hR q
end
end L2
namespace L2
open PySem PySem.Spec PyProof.Rows
noncomputable def sEnt (p : Params) (q : Str × Tok × V × Value) : DictEntry := ⟨PyData.keyHash p q.1, .str q.1 q.2.1, q.2.2.2⟩
theorem sdic_mk {P : Program} {w : World} {K : PySem.W.Frag} {mg : Str → Option Value} {x : Str} {a : Addr} {o : Obj} {ep : Nat} {l : List Dt} (rs : List (Str × Tok × V × Value)) (hm : mg x = some (.ref a)) (hl : K.lookup a = some o) (hc : o.ExactDict) (hd : o.data = .dict (rs.map (sEnt w.params)).toArray ep)
    (hs : (a == sysModules) = false) (hn : (rs.map (·.1)).Nodup) (hv : ∀ r ∈ rs, RelV r.2.2.1 r.2.2.2) (hR : ∀ F, Reps K F l (rs.map (·.2.2.1))) : SDic P w K mg x (rs.map fun r => .inr r.1) l := by
  refine ⟨a, rs.map fun r => (.inr r.1, r.2.2.1), rs.map fun r => (.inr r.1, r.2.2.2), hm, hs, by rw [List.map_map]; rfl, fun F => by rw [List.map_map]; exact hR F, ?_, fun h X => ⟨o, _, ep, X a o hl, hc, hd, ?_, ?_, ?_⟩⟩
  · clear hd hn hR
    induction rs with
    | nil => exact .nil
    | cons r rs ih => exact .cons ⟨rfl, hv r List.mem_cons_self⟩ (ih fun r hr => hv r (List.mem_cons_of_mem _ hr))
  · intro e he
    obtain ⟨r, _, rfl⟩ := List.mem_map.mp (List.mem_toArray.mp he)
    exact ⟨.inr r.1, mixKind_str P w r.1 r.2.1, rfl⟩
  · show Pairs (mixKind P w) (rs.map (sEnt w.params)) _
    clear hd hn hR hv
    induction rs with
    | nil => exact .nil
    | cons r rs ih => exact .cons (mixKind_str P w r.1 r.2.1) rfl ih
  · rw [List.map_map]
    have : (rs.map ((fun x : Key × Value => x.1) ∘ fun r => ((Sum.inr r.1 : Key), r.2.2.2))) = (rs.map (·.1)).map Sum.inr := by rw [List.map_map]; rfl
    rw [this]
    exact List.Pairwise.map _ (fun a b h q => h (Sum.inr.inj q)) hn
inductive RepsI (K : PySem.W.Frag) (F : Hp) : List Dt → List V → Prop
  | nil : RepsI K F [] []
  | cons {d : Dt} {v : V} {l : List Dt} {vs : List V} : Rep K F d v → RepsI K F l vs → RepsI K F (d :: l) (v :: vs)
theorem reps_of {K : PySem.W.Frag} {F : Hp} {l : List Dt} {vs : List V} (h : RepsI K F l vs) : Reps K F l vs := by
  induction h with
  | nil => simp [Reps]
  | cons h _ ih => simp only [Reps]; exact ⟨_, _, rfl, h, ih⟩
end L2

namespace L2
open PySem PySem.Spec PyProof.Rows
section
variable {X : Cx} {elt tg iter : Expr} {ifs : List Expr} {scope : Scope} {pos : Pos} {M : List Str} {src : List (Option Nat)} {wi : TI} {g : TG} {tt : TT} {te : TE}
theorem lcomp_run {pins : List (Addr × Obj)} {s : Shared} {σ : St} {H : Hp} {Q : VK} {cpos : Pos} {use : Option (Value → Sem Unit)} {QQ : Value → Shared → Prop} (S : CmpScope X.N X.env.scope scope M src) (hc : X.calm = true) (hi : PI X tg iter wi) (hg : M.Nodup → ∀ C s H ex, PG (cxC X M scope C s H ex) tg g) (ht : ∀ C s H ex, PTs (cxC X M scope C s H ex) ifs tt)
    (he : ∀ C s H ex, PE (cxC X M scope C s H ex) elt te) (hs : ∀ x, foldedSetIterable iter X.env x = pure x) (I : Inv X pins σ H s) (h : tComp src wi g tt te σ H Q)
    (hfin : ∀ (D C : Addr) (H' : Hp) (s' : Shared) (m : Str → Option Value), Inv X pins σ H' s' → FpOk X pins H' C → s'.heap.Ns C m → Q (.ref D) H' → compPost (model X.prog X.w) X.A X.xe use QQ (.ref D) C (.ok .next) s') :
    wpAny (model X.prog X.w) X.A (comprehension (.ListComp elt [⟨tg, iter, ifs, 0⟩] scope pos) scope X.env cpos (newList []) false (eval iter X.env) use) QQ X.xe s := by
  have hcells : ∀ x ∈ scope.names, x.2 = .free → ∃ c, X.env.cells.lookup x.1 = some c := fun x hx hfr => I.ok.has x.1 (S.free x hx hfr)
  refine wpAny_comprehension_free (use := use) rfl hs (closure_eq hcells) S.kind S.names (thn (hi pins s σ H _ I h) fun v s1 h1 => thn h1 fun itv s2 h2 => ?_)
  obtain ⟨it, fp, tn, J, H2, rfl, I2, T, st2, f2, hq⟩ := h2
  refine wpAny_newObj_type ?_
  have I3 : Inv X pins σ (upd H2 s2.heap.objs.size (.lst [])) { s2 with heap := s2.heap.push { cls := .type "list", dict := none, data := .seq ([] : List Value).toArray }, toks := s2.toks } := I2.lnew (its := []) (ys := []) (t' := s2.toks) .nil (by simp)
  have hD : H2 s2.heap.objs.size = none := I2.fresh
  obtain ⟨W, ⟨m0, w0⟩, turn⟩ := hq _ hD
  generalize hDn : s2.heap.objs.size = D at *
  generalize hs3 : ({ s2 with heap := s2.heap.push { cls := .type "list", dict := none, data := .seq ([] : List Value).toArray }, toks := s2.toks } : Shared) = s3 at *
  have f3 : ∀ b ∈ fp, FpOk X pins (upd H2 D (.lst [])) b := fun b hb => ⟨by
    obtain ⟨o, e, _⟩ := T.obj _ _ st2 b hb
    rw [upd_ne (by rw [← hDn]; exact Nat.ne_of_lt (Heap.lt_size e))]
    exact (f2 b hb).1, (f2 b hb).2⟩
  have k23 : ∀ b o, s2.heap.get? b = some o → s3.heap.get? b = some o := fun b o e => by rw [← hs3]; exact Heap.get?_push_of_some _ e
  have st3 : tn 0 s3.heap := T.keep _ _ _ st2 fun b _ o e => k23 b o e
  have fl3 : ∀ b ∈ fp, b < s3.heap.objs.size := fun b hb => by
    obtain ⟨o, e, _⟩ := T.obj _ _ st3 b hb
    exact Heap.lt_size e
  refine wpAny_newFunctionEnv S.nocell (by intro y hy; simp at hy) (fun h₁ hns₁ hsb₁ => ?_) S.kind
  have k34 : ∀ b o, s3.heap.get? b = some o → h₁.get? b = some o := fun b o e => hsb₁.extBut b o (Nat.ne_of_lt (Heap.lt_size e)) (Heap.get?_push_of_some _ e)
  generalize hs4 : ({ s3 with heap := h₁, toks := s3.toks + ([] : List (Str × Value)).length } : Shared) = s4
  have I4 : Inv (cxC X M scope s3.heap.objs.size s3 (upd H2 D (.lst [])) fp) [] (stC src σ) (upd H2 D (.lst [])) s4 := by
    rw [← hs4]
    exact inv_comp S I3 f3 fl3 hns₁ k34 rfl rfl
  have st4 : tn 0 s4.heap := T.keep _ _ _ st3 fun b _ o e => by rw [← hs4]; exact k34 b o e
  generalize hX' : cxC X M scope s3.heap.objs.size s3 (upd H2 D (.lst [])) fp = X' at *
  have hg' : PG X' tg g := by rw [← hX']; exact hg S.nd _ _ _ _
  have ht' : PTs X' ifs tt := by rw [← hX']; exact ht _ _ _ _
  have he' : PE X' elt te := by rw [← hX']; exact he _ _ _ _
  have eP : X'.prog = X.prog := by rw [← hX']; rfl
  have eW : X'.w = X.w := by rw [← hX']; rfl
  have eK : X'.K = X.K := by rw [← hX']; rfl
  have eA : X'.A = X.A := by rw [← hX']; rfl
  have ex' : X'.xe = fun _ _ => False := by rw [← hX']; rfl
  have ec : X'.calm = true := by rw [← hX']; exact hc
  have eE : X'.env = compEnvC scope (clOf scope.names X.env.cells) s3.heap.objs.size X.env := by rw [← hX']; rfl
  have stat : ∀ {H' : Hp}, (∀ b ∈ fp, H' b = none) → ∀ b ∈ fp, FpOk X' [] H' b := fun hn b hb => by
    rw [← hX']
    refine ⟨hn b hb, Nat.ne_of_lt (fl3 b hb), fun z => ?_, .inl hb, fun x c h => (f3 b hb).2.2.2.2.1 x c (clOf_lookup hcells h), fun p hp => absurd hp (by simp [cxC])⟩
    rcases List.mem_cons.mp (I3.stkSub b z) with q | q
    · exact (f3 b hb).2.1 q
    · exact (f3 b hb).2.2.1 q
  -- behind the block
  have fin : ∀ (H' : Hp) (s' : Shared), Inv X' [] (stC src σ) H' s' → Q (.ref D) H' → compPost (model X.prog X.w) X.A X.xe use QQ (.ref D) s3.heap.objs.size (.ok .next) s' := by
    intro H' s' J' q
    rw [← hX'] at J'
    obtain ⟨m, hn, _⟩ := id J'.loc
    have hC : H' s3.heap.objs.size = none := J'.free
    have un : Un (frs X.stack) fp (upd H2 D (.lst [])) H' s3.heap s'.heap := J'.base
    have IA : Inv X pins σ H' s' := I3.call' (s' := s') (show s'.os = s3.os from J'.os) un J'.hok J'.bare fun b hb => ⟨(f3 b hb).2.2.2.1, (f3 b hb).2.1, (f3 b hb).2.2.2.2.1, (f3 b hb).2.2.2.2.2⟩
    exact hfin D _ H' s' m IA (I3.fpOk (Nat.le_refl _) hC) hn q
  have loop : ∀ s4' : Shared, s4' = s4 → codeAny (model X.prog X.w) X.A (.compLoop (.ListComp elt [⟨tg, iter, ifs, 0⟩] scope pos) 0 (.ref it) (.ref D) X'.env) (compPost (model X.prog X.w) X.A X.xe use QQ (.ref D) s3.heap.objs.size) s4' := by
    rintro _ rfl
    refine compLoop_gen (fun n s' => ∃ i H', Inv X' [] (stC src σ) H' s' ∧ tn i s'.heap ∧ (∀ b ∈ fp, H' b = none) ∧ W i n H') ?_ m0 ⟨0, _, I4, st4, fun b hb => (f3 b hb).1, w0⟩
    rintro n s5 ⟨i, H5, I5, st5, fr5, w5⟩
    rcases turn i n H5 w5 with ⟨stop, qn⟩ | ⟨go, N, hN, step⟩
    · have := T.done X' eP eW eK ec i [] s5 (stC src σ) H5 (fun _ _ => False) I5 (stat fr5) st5 stop
      rw [eA] at this
      refine thn this fun r s6 ⟨hr, I6⟩ => ?_
      subst hr
      exact fin H5 s6 I6 qn
    · have := T.item X' eP eW eK ec i [] s5 (stC src σ) H5 (fun _ _ => False) I5 (stat fr5) st5 go
      rw [eA] at this
      refine thn this fun r s6 ⟨u, hr, h6⟩ => ?_
      subst hr
      refine thn h6 fun _ s7 ⟨x, H7, I7, r7, y7, st7, fr7⟩ => ?_
      have I7' := I7.pinned (stat fr7) (T.obj _ _ st7)
      have a1 := hg' _ s7 (stC src σ) H7 x u _ I7' r7 (step x H7 y7)
      rw [ex', eP, eW, eA] at a1
      refine thn a1 fun _ s8 ⟨σ8, H8, I8, wk8, q8⟩ => ?_
      have a2 := ht' _ s8 σ8 H8 _ I8 q8
      rw [ex', eP, eW, eA] at a2
      refine thn a2 fun ok s9 ⟨H9, I9, q9⟩ => ?_
      have again : ∀ {H7' : Hp} {s' : Shared}, Inv X' ([] ++ pinsAt fp s7.heap) σ8 H7' s' → N H7' → ∃ m, m < n ∧ ∃ i H', Inv X' [] (stC src σ) H' s' ∧ tn i s'.heap ∧ (∀ b ∈ fp, H' b = none) ∧ W i m H' := fun {H7' s'} J7 n7 => by
        obtain ⟨m', hm, w7⟩ := hN H7' n7
        refine ⟨m', hm, i + 1, H7', J7.unpinned.weak wk8.1 wk8.2, T.keep _ _ _ st7 fun b hb o e => (J7.pin (b, o) (List.mem_append_right _ (List.mem_append_right _ (mem_pinsAt hb e)))).1, fun b hb => ?_, w7⟩
        obtain ⟨o, e, d⟩ := T.obj _ _ st7 b hb
        exact (J7.pin (b, o) (List.mem_append_right _ (List.mem_append_right _ (mem_pinsAt hb e)))).2.1
      cases ok with
      | false => exact again I9 q9
      | true =>
        have a3 := he' _ s9 σ8 H9 _ I9 q9
        rw [ex', eP, eW, eA] at a3
        refine thn a3 fun v s10 ⟨y, H10, I10, r10, ys, hl, hz, q10⟩ => ?_
        have a4 := mt_append (X := X') _ s10 σ8 H10 (.ref D) [y] (.ref D) [v] (fun _ H' => N H') I10 rfl (.cons r10 .nil) ⟨D, ys, y, rfl, rfl, hl, hz, q10⟩
        rw [ex', eP, eW, eA] at a4
        refine thn a4 fun _ s11 ⟨_, H11, I11, _, q11⟩ => ?_
        exact again I11 q11
  have e4 : ∀ c : Env, c = X'.env → codeAny (model X.prog X.w) X.A (.compStart (.ListComp elt [⟨tg, iter, ifs, 0⟩] scope pos) 0 (.ref it) (.ref D) c) (compPost (model X.prog X.w) X.A X.xe use QQ (.ref D) s3.heap.objs.size) s4 := by
    rintro _ rfl
    exact codeAny_compStart_list (loop _ rfl) (T.self _ _ _ _ _ st4 (loop _ rfl))
  exact e4 _ (by rw [eE]; rfl)
theorem ps_setC {i : Nat} {y : Str} {py spos : Pos} (hN : X.N.Nodup) (hi' : X.N[i]? = some y) (hx : Loc X.env.scope y) (hf : X.fn y = true ∨ X.env.scope.names.lookup y = some .local)
    (S : CmpScope X.N X.env.scope scope M src) (hc : X.calm = true) (hi : PI X tg iter wi) (hg : M.Nodup → ∀ C s H ex, PG (cxC X M scope C s H ex) tg g) (ht : ∀ C s H ex, PTs (cxC X M scope C s H ex) ifs tt)
    (he : ∀ C s H ex, PE (cxC X M scope C s H ex) elt te) (hs : ∀ x, foldedSetIterable iter X.env x = pure x)
    (hsw : swapsWith (.ListComp elt [⟨tg, iter, ifs, 0⟩] scope pos) (some (.Name y py)) spos.line X.env = pure true) :
    PS X (.Assign [.Name y py] (.ListComp elt [⟨tg, iter, ifs, 0⟩] scope pos) spos) (tAsg (tComp src wi g tt te) (gName i)) := by
  intro pins s σ H D I h
  rw [exec_Assign_Name_used _ _ _ _ hsw]
  refine wpAny_bind (wpAny_standAt (wpAny_bind ?_))
  show wpAny _ X.A (do let _ ← comprehension (.ListComp elt [⟨tg, iter, ifs, 0⟩] scope pos) scope X.env _ (newList []) false (eval iter X.env) (some (assign (.Name y py) X.env))) _ _ s
  refine wpAny_bind (wpAny_mono (lcomp_run (use := some (assign (.Name y py) X.env)) (QQ := fun _ s' => ∃ σ' H', Inv X pins σ' H' s' ∧ D.nx σ' H') S hc hi hg ht he hs I h ?_) (fun _ s' hq => wpAny_pure (wpAny_pure hq)) fun _ _ e => e)
  intro Dd C H' s' m IA hC hn q
  show wpAny _ X.A (assign (.Name y py) X.env (.ref Dd)) _ _ s'
  refine wpAny_assign_Name (store_ok2 IA hN hi' hx (v := .ref Dd) rfl (fun s2 I2 hsb => ?_) hf)
  obtain ⟨a, sb, ha⟩ := hsb
  have ne : C ≠ a := by
    rcases ha with rfl | ha
    · exact hC.2.1
    · exact Ne.symm (hC.2.2.2.2.1 y a ha)
  refine ⟨m, hn.sameBut sb ne, fun h3 sb3 => ⟨_, H', ?_, q⟩⟩
  have kC : ∀ b o, b ≠ C → s2.heap.get? b = some o → h3.get? b = some o := fun b o hb e => sb3.extBut b o hb e
  have nm : ∀ {b : Addr}, b ∉ [C] → b ≠ C := fun hb z => hb (by rw [z]; exact List.mem_cons_self)
  refine I2.call' (s' := { s2 with heap := h3 }) (ch := [C]) rfl ⟨fun b o e n hb hx => kC b o (nm hx) e, fun b o e n hb hx => ⟨o.slots, kC b o (nm hx) e⟩, fun b o e n hx => n, fun b o e hx => ⟨o, kC b o (nm hx) e⟩, fun b xs e => e, fun b o u e => e, fun b ps e => ⟨#[], by rw [Array.append_empty]; exact e⟩, fun b qs e => e⟩ ?_ I2.bare fun b hb => ?_
  · intro b u e
    have nb : b ≠ C := fun z => by rw [z, hC.1] at e; cases e
    refine (I2.hok b u e).stay (fun c v hc' q => kC c v ?_ q) (fun _ q => q) (fun _ _ q => q) fun _ _ _ q => q
    rcases hc' with z | z
    · rw [z]; exact nb
    · intro w; rw [w, hC.1] at z; cases z
  · cases List.mem_singleton.mp hb
    exact ⟨hC.2.2.2.1, hC.2.1, hC.2.2.2.2.1, hC.2.2.2.2.2⟩
end
section
variable {X : Cx} {elt tg iter : Expr} {ifs : List Expr} {scope : Scope} {pos : Pos} {M : List Str} {src : List (Option Nat)} {fi : De → Option (List Dt)} {ft : De → Option Bool} {fe : De → Option Dt} {i : Nat}
theorem ds_setC {sc : Scope} {N : List Str} {y : Str} {py spos : Pos} {ts : List Nat} {bb : Dt → De → Option De} (h : nmOk sc N i y = true) (hl : lcOk sc y = true) (nd : N.Nodup) (S : CmpScope X.N X.env.scope scope M src) (hc : X.calm = true) (hi : DIB X tg iter fi) (hg : M.Nodup → ∀ C s H ex, DG (cxC X M scope C s H ex) tg ts bb)
    (ht : ∀ C s H ex, DTs (cxC X M scope C s H ex) ifs ft) (he : ∀ C s H ex, DL (cxC X M scope C s H ex) elt fe) (hts : (ts.all fun k => decide (src[k]? = some none)) = true) (hs : ∀ x, foldedSetIterable iter X.env x = pure x := by intro _; rfl)
    (e1 : ScIs X sc := by rfl) (e2 : X.N = N := by rfl) (hf : X.fn y = true ∨ X.env.scope.names.lookup y = some .local := by exact .inl rfl) (hsw : swapsWith (.ListComp elt [⟨tg, iter, ifs, 0⟩] scope pos) (some (.Name y py)) spos.line X.env = pure true := by rfl) :
    DS1 X (.Assign [.Name y py] (.ListComp elt [⟨tg, iter, ifs, 0⟩] scope pos) spos) (sSet i (vComp src fi bb ft fe)) := by
  have e1 : X.env.scope = sc := e1
  subst e1 e2
  refine PS.mono (ps_setC (g := gD X.K ts bb) (tt := tTr X.K ft) (te := tL X.K fe) nd (nm_nth h) (lc_loc hl) hf S hc hi (fun nd C s H ex => hg nd C s H ex) (fun C s H ex => ht C s H ex) (fun C s H ex => he C s H ex) hs hsw) fun D σ H ⟨Φ, δ, F, o, hK, en, hf', k⟩ => ?_
  unfold sSet at hf'
  obtain ⟨t, ht', hf'⟩ := Option.map_eq_some_iff.mp hf'
  cases hf'
  exact comp_of S hts σ H _ ⟨Φ, δ, F, t, hK, en, ht', fun v H' F' S st o hs => k _ F' H' (en.put st (hK ▸ o) hs i)⟩
theorem frz_tO {K : PySem.W.Frag} {f : De → Option T} {σ : St} {H : Hp} {Q : VK} (h : tO K (toT (toD f)) σ H Q) : tO K f σ H Q := by
  obtain ⟨Φ, δ, F, t, hK, en, hf, k⟩ := h
  obtain ⟨d, hd, rfl⟩ := Option.map_eq_some_iff.mp hf
  obtain ⟨u, ht, hd⟩ := Option.bind_eq_some_iff.mp hd
  exact ⟨Φ, δ, F, u, hK, en, ht, KL.to hd k.leaf⟩
theorem ds_setCf {sc : Scope} {N : List Str} {y : Str} {py spos : Pos} {ts : List Nat} {bb : Dt → De → Option De} (h : nmOk sc N i y = true) (hl : lcOk sc y = true) (nd : N.Nodup) (S : CmpScope X.N X.env.scope scope M src) (hc : X.calm = true) (hi : DIB X tg iter fi) (hg : M.Nodup → ∀ C s H ex, DG (cxC X M scope C s H ex) tg ts bb)
    (ht : ∀ C s H ex, DTs (cxC X M scope C s H ex) ifs ft) (he : ∀ C s H ex, DL (cxC X M scope C s H ex) elt fe) (hts : (ts.all fun k => decide (src[k]? = some none)) = true) (hs : ∀ x, foldedSetIterable iter X.env x = pure x := by intro _; rfl)
    (e1 : ScIs X sc := by rfl) (e2 : X.N = N := by rfl) (hf : X.fn y = true ∨ X.env.scope.names.lookup y = some .local := by exact .inl rfl) (hsw : swapsWith (.ListComp elt [⟨tg, iter, ifs, 0⟩] scope pos) (some (.Name y py)) spos.line X.env = pure true := by rfl) :
    DS1 X (.Assign [.Name y py] (.ListComp elt [⟨tg, iter, ifs, 0⟩] scope pos) spos) (sSet i (toT (toD (vComp src fi bb ft fe)))) := by
  have e1 : X.env.scope = sc := e1
  subst e1 e2
  refine PS.mono (ps_setC (g := gD X.K ts bb) (tt := tTr X.K ft) (te := tL X.K fe) nd (nm_nth h) (lc_loc hl) hf S hc hi (fun nd C s H ex => hg nd C s H ex) (fun C s H ex => ht C s H ex) (fun C s H ex => he C s H ex) hs hsw) fun D σ H ⟨Φ, δ, F, o, hK, en, hf', k⟩ => ?_
  unfold sSet at hf'
  obtain ⟨t, ht', hf'⟩ := Option.map_eq_some_iff.mp hf'
  cases hf'
  exact comp_of S hts σ H _ (frz_tO ⟨Φ, δ, F, t, hK, en, ht', fun v H' F' S st o hs => k _ F' H' (en.put st (hK ▸ o) hs i)⟩)
end
end L2


namespace L2
open PySem PySem.Spec PyProof.Rows
noncomputable def gIsB (neg : Bool) : Dt → Dt → Option T
  | .bl a, .bl b => some (.leaf (.bl (if neg then !decide (a = b) else decide (a = b))))
  | _, _ => none
section
variable {X : Cx}
theorem op_isB : OpR X (compareOp .Is) (fun x y H Q => ∃ a b, x = .bl a ∧ y = .bl b ∧ Q (.bl (decide (a = b))) H) := by
  intro pins s σ H x y v u Q I rx ry h
  obtain ⟨a, b, rfl, rfl, q⟩ := h
  cases rx
  cases ry
  refine wpAny_is_plain rfl (fin_bl I q ?_)
  cases a <;> cases b <;> rfl
theorem op_isnotB : OpR X (compareOp .IsNot) (fun x y H Q => ∃ a b, x = .bl a ∧ y = .bl b ∧ Q (.bl (!decide (a = b))) H) := by
  intro pins s σ H x y v u Q I rx ry h
  obtain ⟨a, b, rfl, rfl, q⟩ := h
  cases rx
  cases ry
  refine wpAny_isNot_plain rfl (fin_bl I q ?_)
  cases a <;> cases b <;> rfl
theorem r_isB {K : PySem.W.Frag} : R2D K (fun x y H Q => ∃ a b, x = .bl a ∧ y = .bl b ∧ Q (.bl (decide (a = b))) H) (gIsB false) := by
  intro F H x y vx vy Q t fh rx ry hg k
  unfold gIsB at hg
  split at hg <;> first | (cases hg; done) | skip
  cases hg; cases rx; cases ry
  exact ⟨_, _, rfl, rfl, k.bl fh⟩
theorem r_isnotB {K : PySem.W.Frag} : R2D K (fun x y H Q => ∃ a b, x = .bl a ∧ y = .bl b ∧ Q (.bl (!decide (a = b))) H) (gIsB true) := by
  intro F H x y vx vy Q t fh rx ry hg k
  unfold gIsB at hg
  split at hg <;> first | (cases hg; done) | skip
  cases hg; cases rx; cases ry
  exact ⟨_, _, rfl, rfl, k.bl fh⟩
end
end L2


namespace L2
open PySem PySem.Spec PyProof.Rows
noncomputable def nsOk (sc : Scope) (N : List Str) : Bool := (List.range N.length).all fun i => match N[i]? with
  | some x => nmOk sc N i x && lcOk sc x
  | none => false
theorem nsB {sc : Scope} {N : List Str} {i : Nat} {x : Str} (h : nsOk sc N = true) (e : N[i]? = some x) : nmOk sc N i x = true ∧ lcOk sc x = true := by
  have h1 := List.all_eq_true.mp h i (List.mem_range.mpr (List.getElem?_eq_some_iff.mp e).1)
  rw [e] at h1
  exact Bool.and_eq_true_iff.mp h1
theorem nsN {sc : Scope} {N : List Str} (h : nsOk sc N = true) (i : Nat) {x : Str} (e : N[i]? = some x := by rfl) : nmOk sc N i x = true := (nsB h e).1
theorem nsL {sc : Scope} {N : List Str} (h : nsOk sc N = true) (i : Nat) {x : Str} (e : N[i]? = some x := by rfl) : lcOk sc x = true := (nsB h e).2
theorem pvN {X : Cx} {sc : Scope} {N : List Str} {x : Str} {pos : Pos} (i : Nat) (h : nsOk sc N = true) (e : N[i]? = some x := by rfl) (e1 : ScIs X sc := by rfl) (e2 : X.N = N := by rfl) : PE X (.Name x pos) (tVar i) := pvD i (nsN h i e) e1 e2
end L2





namespace L2
open PySem PySem.Spec PyProof.Rows
noncomputable abbrev Orc := Addr → Hp → List Dt → Option T
end L2








set_option maxRecDepth 20000



namespace L2
open PySem PySem.Spec PyProof.Rows
noncomputable def once {K : Type} [DecidableEq K] (acc : List K) (k : K) : List K := if k ∈ acc then acc else acc ++ [k]
noncomputable def met {K : Type} [DecidableEq K] (val : Nat → K) (i : Nat) : List K := ((List.range i).map val).foldl once []
end L2




set_option maxHeartbeats 400000








namespace L2
open PySem PySem.Spec PyProof.Rows
noncomputable def asIs : List Dt → Option (List Int)
  | [] => some []
  | .int k :: r => (asIs r).map (k :: ·)
  | _ => none
theorem asIs_of {K : PySem.W.Frag} {F : Hp} : ∀ {l : List Dt} {vs : List V} {bs : List Int}, Reps K F l vs → asIs l = some bs → vs = bs.map V.int
  | [], vs, bs, r, h => by cases h; simp only [Reps] at r; exact r
  | d :: l, vs, bs, r, h => by
    cases d <;> first | cases h; done | skip
    simp only [asIs] at h
    obtain ⟨cs, hc, h⟩ := Option.map_eq_some_iff.mp h
    cases h
    simp only [Reps, Rep] at r
    obtain ⟨v, ws, rfl, rfl, r2⟩ := r
    rw [asIs_of r2 hc]
    rfl
end L2












namespace L2
open PySem PySem.Spec PyProof.Rows
noncomputable def AtF (K : PySem.W.Frag) (x : Str) (st : Stmt) : Prop := ∃ (f : Addr) (oc : Value) (od an : Option Addr) (sl : Array (Option Value)) (kV dc pm cd ct : Value),
  PySem.W.nsIn K mainGlobals x = some (some (.ref f)) ∧ K.lookup f = some ⟨oc, od, .func (PySem.W.fnOf x x (defArgs st) (defBody st) (defScope st) .none kV dc pm an cd ct), sl⟩ ∧ PySem.W.codeIn K cd x = true ∧ PySem.W.keepIn K (.ref f) = true
section
variable {K : PySem.W.Frag} {mg : Str → Option Value} {h : Heap} {x : Str} {st : Stmt} {ps : List Str} {c P : Addr}
theorem AtF.mk {f : Addr} {oc : Value} {od an : Option Addr} {sl : Array (Option Value)} {kV dc pm cd ct : Value} (a : PySem.W.nsIn K mainGlobals x = some (some (.ref f))) (l : K.lookup f = some ⟨oc, od, .func (PySem.W.fnOf x x (defArgs st) (defBody st) (defScope st) .none kV dc pm an cd ct), sl⟩) (c : PySem.W.codeIn K cd x = true) (k : PySem.W.keepIn K (.ref f) = true) : AtF K x st := ⟨f, oc, od, an, sl, kV, dc, pm, cd, ct, a, l, c, k⟩
theorem AtF.df (A : AtF K x st) (X : K.In h) (G : h.Ns mainGlobals mg) (hb : ∀ (kV doc pm : Value) (an : Option Addr) (cdv ct : Value) (us : List Value), us.length = ps.length → bindArgs (PySem.W.fnOf x x (defArgs st) (defBody st) (defScope st) .none kV doc pm an cdv ct) ⟨us, []⟩ = pure (ps.zip us)) : DefF K mg x st ps := by
  obtain ⟨f, oc, od, an, sl, kV, dc, pm, cd, ct, a, l, c, k⟩ := A
  exact DefF.mk' X G a l c k hb
end
end L2

namespace L2
open PySem PySem.Spec PyProof.Rows
section
variable {X : Cx} {e : Expr} {es : List Expr} {x : Str} {p pos : Pos} {fs : De → Option (List Dt)} {i : Nat}
theorem pvX (h : nmOk X.env.scope X.N i x = true) : PE X (.Name x pos) (tVar i) := pvD i h rfl rfl
end
end L2


namespace L2
open PySem PySem.Spec PyProof.Rows
noncomputable abbrev Hk3 := Str × Int × Bool
noncomputable def h3 (k : Hk3) : Dt := .tup [.str k.1, .int k.2.1, .bl k.2.2]
end L2

namespace L2
open PySem PySem.Spec PyProof.Rows
noncomputable def topI (m : Int) : List Int → Int
  | [] => m
  | x :: r => topI (if m < x then x else m) r
theorem topI_mem : ∀ (m : Int) (l : List Int), topI m l ∈ m :: l
  | m, [] => .head _
  | m, x :: r => by
    have := topI_mem (if m < x then x else m) r
    rw [topI]
    rcases List.mem_cons.mp this with h | h
    · rw [h]
      split
      · exact .tail _ (.head _)
      · exact .head _
    · exact .tail _ (.tail _ h)
theorem topI_le : ∀ (m : Int) (l : List Int) (a : Int), a ∈ m :: l → a ≤ topI m l
  | m, [], a, h => by rw [List.mem_singleton.mp h]; exact Int.le_refl _
  | m, x :: r, a, h => by
    rw [topI]
    have h1 : m ≤ (if m < x then x else m) ∧ x ≤ (if m < x then x else m) := by split <;> omega
    generalize (if m < x then x else m) = w at h1 ⊢
    have h0 := topI_le w r w (.head _)
    rcases List.mem_cons.mp h with rfl | h
    · omega
    · rcases List.mem_cons.mp h with rfl | h
      · omega
      · exact topI_le w r a (.tail _ h)
theorem topI_uniq {m M : Int} {l : List Int} (h1 : M ∈ m :: l) (h2 : ∀ a ∈ m :: l, a ≤ M) : M = topI m l := Int.le_antisymm (topI_le m l M h1) (h2 _ (topI_mem m l))
theorem ints_items {its : List Value} {ns : List Int} (h : IntsAre its ns) : ∃ xs : Array (Int × Tok), its.toArray = intItems xs ∧ xs.toList.map (·.1) = ns := by
  induction h with
  | nil => exact ⟨#[], by simp [intItems], rfl⟩
  | cons k t _ ih =>
    obtain ⟨xs, e1, e2⟩ := ih
    refine ⟨((k, t) :: xs.toList).toArray, ?_, by simp [e2]⟩
    have e3 := congrArg Array.toList e1
    simp only [intItems] at e3 ⊢
    apply Array.toList_inj.mp
    simp at e3 ⊢
    exact e3
theorem numAt_list {xs : Array (Int × Tok)} {i : Nat} (hi : i < xs.size) : (xs.toList.map (·.1))[i]? = some (numAt xs i) := by
  simp [numAt, hi]
section
variable {X : Cx}
theorem call_maxL (calm : X.calm = true) : CallR X (.builtin "max") (fun xs H Q => ∃ p m ns, xs = [.ref p] ∧ SqL X.K H p ((m :: ns).map V.int) ∧ Q (.int (topI m ns)) H) := by
  intro pins s σ H xs us Q I r h
  obtain ⟨p, m, ns, rfl, hq, q⟩ := h
  obtain ⟨u, rfl, rx⟩ := vals1 r
  cases rx
  obtain ⟨its, r', pl, hz'⟩ := I.list hq
  obtain ⟨xs, e1, e2⟩ := ints_items (intsAre_of r')
  have hl := pl.isList
  rw [e1] at hl
  have hsz : xs.size = ns.length + 1 := by
    have := congrArg List.length e2
    simpa using this
  refine max_intList (I.ok.hd calm) hl (by omega) fun v h' tk hv hk => ?_
  obtain ⟨t, rfl⟩ := intItems_at hv
  obtain ⟨h1, h2⟩ := argBest_gt (numAt xs) (xs.size - 1)
  refine ⟨.int (topI m ns), H, I.kept hk, ⟨t, ?_⟩, q⟩
  congr 1
  refine topI_uniq ?_ fun a ha => ?_
  · rw [← e2]
    exact List.mem_of_getElem? (numAt_list (by omega))
  · rw [← e2] at ha
    obtain ⟨j, hj, e⟩ := List.mem_iff_getElem.mp ha
    have hj2 : j < xs.size := by simpa using hj
    have := numAt_list hj2
    rw [List.getElem?_eq_getElem hj, e] at this
    cases this
    exact h2 j (by omega)
end
noncomputable def gMaxL : List Dt → Option T
  | [.lst ds] => match asIs ds with
    | some (m :: ns) => some (.leaf (.int (topI m ns)))
    | _ => none
  | _ => none
theorem c_maxL {K : PySem.W.Frag} : CRD K (fun xs H Q => ∃ p m ns, xs = [.ref p] ∧ SqL K H p ((m :: ns).map V.int) ∧ Q (.int (topI m ns)) H) gMaxL := by
  intro F H ds vs Q t fh r hg k
  unfold gMaxL at hg
  split at hg <;> first | (cases hg; done) | skip
  split at hg <;> first | (cases hg; done) | skip
  rename_i m ns hs
  cases hg
  obtain ⟨v, rfl, rv⟩ := repBs1 r
  obtain ⟨a, vs, rfl, h1, h2⟩ := rv
  have := asIs_of h2 hs
  subst this
  exact ⟨a, m, ns, rfl, h1, k.int fh⟩
end L2



namespace L2
open PySem
theorem asIs_map : ∀ ns : List Int, asIs (ns.map .int) = some ns
  | [] => rfl
  | k :: ns => by
    rw [List.map_cons]
    unfold asIs
    rw [asIs_map ns]
    rfl
end L2





namespace L2
open PySem PySem.Spec PyProof.Rows
theorem ds_tryW {X : Cx} {k n : Nat} {ps : List Str} {ff : List Dt → Option T} {x : Str} {sc : Scope} {p pos : Pos} {e : Expr} {es : List Expr} {fs : De → Option (List Dt)} {N cs : List Str} {y m z : Str} {ir jn ic : Nat} {py pa pd pz pm pas ph pt : Pos} (W : XW X.K X.mg cs) (h : glOk sc x = true) (F : OkFX X.prog X.w X.K X.mg X.base x k ps (spX X.K n ff)) (hr : Room k X.A) (ha : DA X.nox (e :: es) fs)
    (hgD : glOk sc "DimError" = true) (nd : N.Nodup) (hy : nmOk sc N ir y = true) (ly : lcOk sc y = true) (hm : nmOk sc N jn m = true) (lm : sc.names.lookup m = some .local) (hz : nmOk sc N ic z = true) (lz : lcOk sc z = true) (hij : jn ≠ ic)
    (hn : (e :: es).length = n := by rfl) (e1 : ScIs X sc := by rfl) (e2 : X.N = N := by rfl) (hst : X.stack = X.env :: X.outer := by rfl) (hfr : X.env.frame = some X.env.locals := by rfl)
    (fy : X.fn y = true ∨ X.env.scope.names.lookup y = some .local := by exact .inl rfl) (fz : X.fn z = true ∨ X.env.scope.names.lookup z = some .local := by exact .inl rfl)
    (hs : swapsWith (.Call (.Name x p) (e :: es) [] pos) (some (.Name y py)) pa.line X.env = pure false := by rfl) (hs2 : swapsWith (.Name m pm) (some (.Name z pz)) pas.line X.env = pure false := by rfl)
    (he : starEach (e :: es) X.env = (false, eval e X.env) :: starEach es X.env := by rfl) (hpl : (backTo pos (starEach es X.env)).any (·.1) = false := by rfl) :
    DS1 X (.Try [.Assign [.Name y py] (.Call (.Name x p) (e :: es) [] pos) pa] [.ExceptHandler (some (.Name "DimError" pd)) (some m) [.Assign [.Name z pz] (.Name m pm) pas] ph] [] [] pt) (sTry ff fs ir jn ic) := by
  obtain ⟨D, h1, h2, t, _⟩ := W.ex
  exact ds_try h F hr ha t h1 h2 hgD nd hy ly hm lm hz lz hij hn e1 e2 hst hfr fy fz hs hs2 he hpl
noncomputable def AtX (K : PySem.W.Frag) (c : Str) (st : Stmt) (ns : List Str) (C D : Addr) : Prop := PySem.W.nsIn K mainGlobals c = some (some (.ref C)) ∧ XIs K C ∧ (∀ g ∈ ns, NoAttr K C g) ∧
  ∃ (f : Addr) (oc : Value) (od an : Option Addr) (sl : Array (Option Value)) (kV dc pm cd ct : Value), XCl K C D f ∧ K.lookup f = some ⟨oc, od, .func (PySem.W.fnOf "__init__" (c ++ ".__init__") (defArgs st) (defBody st) (defScope st) .none kV dc pm an cd ct), sl⟩ ∧ PySem.W.codeIn K cd (c ++ ".__init__") = true ∧ PySem.W.keepIn K (.ref f) = true
section
variable {K : PySem.W.Frag} {mg : Str → Option Value} {h : Heap} {c : Str} {st : Stmt} {ps ns : List Str} {C D : Addr}
theorem AtX.mk {f : Addr} {oc : Value} {od an : Option Addr} {sl : Array (Option Value)} {kV dc pm cd ct : Value} {dd : Option Addr} {nm qn : Str} {bs : List Value} {N : Addr} {sn : List Str} {sub : List Value} {ab : Bool} {col : Option Bool} {k0 k1 k2 k3 k5 : Option Value} (hq : q = c ++ ".__init__") (a : PySem.W.nsIn K mainGlobals c = some (some (.ref C)))
    (l : K.lookup C = some (excClassObj nm qn C N bs (.ref D :: vtl) true sn sub ab col dd k0 k1 k2 k3 k5 "ValueError.__new__")) (i : PySem.W.findIn K (.ref C) "__init__" = some (some (.ref f))) (fn : PySem.W.isFn K (.ref f) = true)
    (sa : PySem.W.findIn K (.ref C) "__setattr__" = some (some (.builtin "object.__setattr__"))) (ga : PySem.W.findIn K (.ref C) "__getattribute__" = some (some (.builtin "BaseException.__getattribute__"))) (gn : PySem.W.findIn K (.ref C) "__getattr__" = some none) (kp : PySem.W.keepIn K (.ref C) = true)
    (ha : PySem.W.findIn K (.ref C) "__class__" = some (some (.builtin "object.__class__"))) (hn : PySem.W.specialIn K (.builtin "object.__class__") "__get__" = some (some (.builtin "getset_descriptor.__get__"))) (ht : PySem.W.takesIn K (.builtin "object.__class__") = some true)
    (lf : K.lookup f = some ⟨oc, od, .func (PySem.W.fnOf "__init__" q (defArgs st) (defBody st) (defScope st) .none kV dc pm an cd ct), sl⟩) (cf : PySem.W.codeIn K cd q = true) (kf : PySem.W.keepIn K (.ref f) = true) (na : ∀ g ∈ ns, PySem.W.findIn K (.ref C) g = some none) : AtX K c st ns C D := by
  subst hq
  exact ⟨a, ⟨ha, hn, ht⟩, na, f, oc, od, an, sl, kV, dc, pm, cd, ct, ⟨⟨dd, nm, bs, N, qn, sn, sub, ab, col, k0, k1, k2, k3, k5, l⟩, i, fn, sa, ga, gn, kp⟩, lf, cf, kf⟩
theorem clsOf_of {C : Addr} (a : PySem.W.nsIn K mainGlobals c = some (some (.ref C))) : clsOf K c = some C := by unfold clsOf; rw [a]
theorem XCl.kcl {f : Addr} (x : XCl K C D f) : L2.kcl K C = true := by
  obtain ⟨dd, nm, bs, N, q, sn, sub, ab, col, k0, k1, k2, k3, k5, lk⟩ := x.obj
  have h2 : PySem.W.typeIn K (.ref C) = some (.type "type") := by
    show (K.lookup C).map (·.cls) = _
    rw [lk]
    rfl
  obtain ⟨cd, h1, _⟩ := x.cls
  unfold L2.kcl
  rw [h1, h2]
  simp
theorem AtX.dx (A : AtX K c st ns C D) (X : K.In h) (G : h.Ns mainGlobals mg) (ad : PySem.W.nsIn K mainGlobals "DimError" = some (some (.ref D)))
    (hb : ∀ (kV doc pm : Value) (an : Option Addr) (cdv ct : Value) (us : List Value), us.length = ps.length → bindArgs (PySem.W.fnOf "__init__" (c ++ ".__init__") (defArgs st) (defBody st) (defScope st) .none kV doc pm an cdv ct) ⟨us, []⟩ = pure (ps.zip us)) : DefX K mg c st ps ns := by
  obtain ⟨a, xi, na, f, oc, od, an, sl, kV, dc, pm, cd, ct, x, lf, cf, kf⟩ := A
  have F := fun_mk (st := st) lf cf kf
  exact ⟨C, D, f, _, PySem.W.mg_of X G a, clsOf_of a, clsOf_of ad, x, na, F.binds hb, F⟩
theorem AtX.w (A : AtX K c st ns C D) : PySem.W.nsIn K mainGlobals c = some (some (.ref C)) ∧ XIs K C ∧ L2.kcl K C = true := by
  obtain ⟨a, xi, na, f, oc, od, an, sl, kV, dc, pm, cd, ct, x, lf, cf, kf⟩ := A
  exact ⟨a, xi, x.kcl⟩
theorem XW.of {L : List (Str × Addr)} (X : K.In h) (G : h.Ns mainGlobals mg) (ad : PySem.W.nsIn K mainGlobals "DimError" = some (some (.ref D))) (t : XTop K D) (nd : (D :: L.map (·.2)).Nodup) (w : ∀ p ∈ L, PySem.W.nsIn K mainGlobals p.1 = some (some (.ref p.2)) ∧ XIs K p.2 ∧ L2.kcl K p.2 = true) : XW K mg (L.map (·.1)) := by
  obtain ⟨n1, n2⟩ := List.nodup_cons.mp nd
  refine ⟨⟨D, clsOf_of ad, PySem.W.mg_of X G ad, t, fun c hc => ?_⟩, fun c hc c' hc' e => ?_⟩
  · obtain ⟨p, hp, rfl⟩ := List.mem_map.mp hc
    obtain ⟨h1, h2, h3⟩ := w p hp
    exact ⟨p.2, clsOf_of h1, PySem.W.mg_of X G h1, h2, h3, fun z => n1 (z ▸ List.mem_map.mpr ⟨p, hp, rfl⟩)⟩
  · obtain ⟨p, hp, rfl⟩ := List.mem_map.mp hc
    obtain ⟨p', hp', rfl⟩ := List.mem_map.mp hc'
    rw [clsOf_of (w p hp).1, clsOf_of (w p' hp').1] at e
    have e2 : p.2 = p'.2 := Option.some.inj e
    obtain ⟨i, hi, e3⟩ := List.getElem_of_mem hp
    obtain ⟨j, hj, e4⟩ := List.getElem_of_mem hp'
    have : i = j := (List.getElem_inj (h₀ := by simpa using hi) (h₁ := by simpa using hj) n2).mp (by simp [e3, e4, e2])
    subst this
    rw [← e3, ← e4]
end
theorem bt_ValueError : bootBuiltins "ValueError" = some (.type "ValueError") := by decide +kernel
end L2

seal L2.PE L2.PS L2.PSs L2.PT L2.PW L2.PA L2.PI L2.PG L2.PTs L2.PO L2.PGs L2.CallR L2.OpR L2.IxR L2.SlR L2.MtR L2.UnR L2.DO L2.DL L2.DB L2.DT L2.DW L2.DS L2.DS1 L2.R2D L2.CRD L2.MRD L2.DG L2.DGs L2.DIF L2.DIB L2.DTs L2.DP
namespace L2
theorem el1 {α : Type} {p : List α → Prop} (h : ∀ a, p [a]) : ∀ us : List α, us.length = 1 → p us
  | [a], _ => h a
theorem el2 {α : Type} {p : List α → Prop} (h : ∀ a b, p [a, b]) : ∀ us : List α, us.length = 2 → p us
  | [a, b], _ => h a b
theorem el3 {α : Type} {p : List α → Prop} (h : ∀ a b c, p [a, b, c]) : ∀ us : List α, us.length = 3 → p us
  | [a, b, c], _ => h a b c
theorem el4 {α : Type} {p : List α → Prop} (h : ∀ a b c d, p [a, b, c, d]) : ∀ us : List α, us.length = 4 → p us
  | [a, b, c, d], _ => h a b c d
theorem el5 {α : Type} {p : List α → Prop} (h : ∀ a b c d e, p [a, b, c, d, e]) : ∀ us : List α, us.length = 5 → p us
  | [a, b, c, d, e], _ => h a b c d e
end L2
namespace P14
open PySem L2
noncomputable def top (i : Nat) : Stmt := PySem.Challenge.pw_dimhouse_k14_programs_in_order.main.body.getD i (.Pass ⟨0, 0, 0, 0⟩)
noncomputable def meth (i j : Nat) : Stmt := match top i with
  | .ClassDef _ _ _ body _ _ _ _ _ _ _ => body.getD j (.Pass ⟨0, 0, 0, 0⟩)
  | _ => .Pass ⟨0, 0, 0, 0⟩
noncomputable def k_CELL_PLACES : List Key := [.inr "load", .inr "store"]
noncomputable def c_CELL_PLACES : List Dt := [(.int 2), (.int 1)]
noncomputable def k_SHELF_PLACES : List Key := [.inr "take", .inr "lay"]
noncomputable def c_SHELF_PLACES : List Dt := [(.int 2), (.int 1)]
noncomputable abbrev CS : List Str := ["BadLine", "Falls", "NoLabel", "Twice", "Unknown"]
noncomputable def F__law_cell : List Dt → Option T := runD 3 ((sSeq (sIf (tB2 (gCmp fun i j => decide (i < j)) (vB 1) (toD (vCall gLen (aCons (vB 0) aNil)))) (sRet (d2 gIxA (vB 0) (vB 1))) sNil)
    (sSeq (sSet 2 (toT (kD (.int 7))))
    (sSeq (sIf (tB2 (gCmp fun i j => decide (j < i)) (toD (vCall gLen (aCons (vB 0) aNil))) (kD (.int 0))) (sSet 2 (toT (toD (d2 gMod (toD (d2 gIxA (vB 0) (toD (d2 gMod (vB 1) (toD (vCall gLen (aCons (vB 0) aNil))))))) (kD (.int 999983)))))) sNil)
    (sRet (d2 gMod (toD (d2 gMul (toD (d2 gAdd (toD (d2 gAdd (vB 2) (toD (d2 gMul (kD (.int 613)) (vB 1))))) (kD (.int 29)))) (toD (d2 gAdd (toD (d2 gAdd (vB 2) (toD (d2 gMul (kD (.int 71)) (vB 1))))) (kD (.int 5)))))) (kD (.int 1000003))))))))
noncomputable def F__law_word : List Dt → Option T := runD 1 ((sSeq (sIf (fOr (tB2 (gEq false) (toD (d2 gIxA (vB 0) (kD (.int 0)))) (kD (.str "load"))) (tB2 (gEq false) (toD (d2 gIxA (vB 0) (kD (.int 0)))) (kD (.str "take")))) (sRet (d2 gIxA (vB 0) (kD (.int 2)))) sNil)
    (sRet (d2 gIxA (vB 0) (kD (.int 1))))))
noncomputable def B__law_due_0 : De → Option Out := (sSeq (sIf (fAnd (tB2 (gInA false) (toD (d2 gIxA (toD (d2 gIxA (vB 2) (vB 3))) (kD (.int 0)))) (toD (vTup (aCons (kD (.str "load")) (aCons (kD (.str "store")) aNil))))) (tB2 (gInA true) (toD (vCall F__law_word (aCons (toD (d2 gIxA (vB 2) (vB 3))) aNil))) (vB 0))) (sRet (vLst (aCons (kD (.str "unknown")) (aCons (toD (vCall F__law_word (aCons (toD (d2 gIxA (vB 2) (vB 3))) aNil))) (aCons (vL 3) aNil))))) sNil)
    (sIf (fAnd (tB2 (gInA false) (toD (d2 gIxA (toD (d2 gIxA (vB 2) (vB 3))) (kD (.int 0)))) (toD (vTup (aCons (kD (.str "take")) (aCons (kD (.str "lay")) aNil))))) (tB2 (gInA true) (toD (vCall F__law_word (aCons (toD (d2 gIxA (vB 2) (vB 3))) aNil))) (vB 1))) (sRet (vLst (aCons (kD (.str "unknown")) (aCons (toD (vCall F__law_word (aCons (toD (d2 gIxA (vB 2) (vB 3))) aNil))) (aCons (vL 3) aNil))))) sNil))
noncomputable def B__law_due_1 : De → Option Out := (sSeq (sSet 4 (vLst (aCons (toD (d2 gAdd (vB 3) (kD (.int 1)))) aNil)))
    (sSeq (sIf (tB2 (gEq false) (toD (d2 gIxA (toD (d2 gIxA (vB 2) (vB 3))) (kD (.int 0)))) (kD (.str "if"))) (s_append 4 (toD (d2 gIxA (toD (d2 gIxA (vB 2) (vB 3))) (kD (.int 2))))) sNil)
    (sSeq (sIf (tB2 (gEq false) (toD (d2 gIxA (toD (d2 gIxA (vB 2) (vB 3))) (kD (.int 0)))) (kD (.str "go"))) (sSet 4 (vLst (aCons (toD (d2 gIxA (toD (d2 gIxA (vB 2) (vB 3))) (kD (.int 1)))) aNil))) sNil)
    (sIf (fAnd (tB2 (gEq true) (toD (d2 gIxA (toD (d2 gIxA (vB 2) (vB 3))) (kD (.int 0)))) (kD (.str "end"))) (tB2 (gCmp fun i j => decide (j ≤ i)) (toD (vCall gMaxL (aCons (vB 4) aNil))) (toD (vCall gLen (aCons (vB 2) aNil))))) (sRet (vLst (aCons (kD (.str "falls")) (aCons (vL 3) aNil)))) sNil))))
noncomputable def F__law_due : List Dt → Option T := runD 5 ((sSeq (sFor (fRng rng1 (aCons (toD (vCall gLen (aCons (vB 2) aNil))) aNil)) (bName 3) B__law_due_0)
    (sSeq (sFor (fRng rng1 (aCons (toD (vCall gLen (aCons (vB 2) aNil))) aNil)) (bName 3) B__law_due_1)
    (sSeq (sIf (tB2 (gEq false) (vB 2) (toD (vLst aNil))) (sRet (vLst (aCons (kD (.str "falls")) (aCons (kD (.int 0)) aNil)))) sNil)
    (sRet (vLst (aCons (kD (.str "good")) aNil)))))))
noncomputable def F__law_made : List Dt → Option T := runD 3 ((sSeq (sSet 2 (vXmk "Unknown" ["word", "row"] (aCons (vL 0) (aCons (vL 1) aNil))))
    (sSeq (sIf (fOr (tB2 (gEq true) (vXat "word" (vX 2)) (vB 0)) (fOr (tB2 (gEq true) (vXat "row" (vX 2)) (vB 1)) (fOr (tB2 (gEq true) (vXat "row" (vXmk "Falls" ["row"] (aCons (vL 1) aNil))) (vB 1)) (tB2 (gEq true) (vXat "at" (vXmk "BadLine" ["at"] (aCons (vL 1) aNil))) (vB 1))))) (sRet (toT (kD (.bl false)))) sNil)
    (sRet (vAnd (toD (d2 (gEq false) (vXat "word" (vXmk "Twice" ["word"] (aCons (vL 0) aNil))) (vB 0))) (vAnd (toD (d2 (gEq false) (vXat "word" (vXmk "NoLabel" ["word"] (aCons (vL 0) aNil))) (vB 0))) (vXis CS (fun _ => true) (vX 2))))))))
noncomputable def F__law_part : List Dt → Option T := runD 4 ((sSeq (sSet 3 (toT (toD (vTup (aCons (kD (.int 10007)) (aCons (kD (.int 10009)) (aCons (kD (.int 10037)) (aCons (kD (.int 10039)) (aCons (kD (.int 10061)) (aCons (kD (.int 10067)) (aCons (kD (.int 10069)) (aCons (kD (.int 10079)) aNil))))))))))))
    (sRet (d2 gMod (toD (d2 gMod (toD (d2 gAdd (toD (d2 gMul (vB 0) (kD (.int 48271)))) (toD (d2 gMul (kD (.int 7919)) (vB 1))))) (toD (d2 gIxA (vB 3) (toD (d2 gMod (vB 1) (kD (.int 8)))))))) (vB 2)))))
noncomputable def E__law_name_0 : De → Option Dt := (toD (d2 gIxA (vB 2) (toD (vCall F__law_part (aCons (vL 1) (aCons (vL 0) (aCons (kD (.int 26)) aNil)))))))
noncomputable def F__law_name : List Dt → Option T := runD 5 ((sSeq (sSet 2 (toT (kD (.str "abcdefghijklmnopqrstuvwxyz"))))
    (sSeq (sSet 3 (toT (toD (d2 gAdd (kD (.int 1)) (toD (vCall F__law_part (aCons (vL 0) (aCons (kD (.int 7)) (aCons (kD (.int 6)) aNil)))))))))
    (sSeq (sSet 4 (vComp [none, some 0, some 2] (fRng rng1 (aCons (vL 3) aNil)) (bName 0) tYesD E__law_name_0))
    (sSeq (sPut 4 (toD (vCall F__law_part (aCons (vL 0) (aCons (kD (.int 3)) (aCons (vL 3) aNil))))) (toD (d2 gIxA (vB 2) (toD (d2 gMod (toD (d2 gAdd (toD (vCall F__law_part (aCons (vL 0) (aCons (kD (.int 4)) (aCons (kD (.int 26)) aNil))))) (vB 1))) (kD (.int 26)))))))
    (sRet (vMeth g_join (kD (.str "")) (aCons (vB 4) aNil))))))))
noncomputable def F__law_row : List Dt → Option T := runD 10 ((sSeq (sSet 4 (toT (toD (vCall F__law_name (aCons (vL 1) (aCons (toD (d2 gAdd (kD (.int 10)) (toD (vCall F__law_part (aCons (vL 0) (aCons (kD (.int 1)) (aCons (kD (.int 8)) aNil))))))) aNil))))))
    (sSeq (sSet 5 (toT (toD (d2 gIxA (toD (vLst (aCons (vL 4) (aCons (toD (vCall F__law_name (aCons (vL 1) (aCons (toD (d2 gAdd (kD (.int 8)) (toD (vCall F__law_part (aCons (vL 0) (aCons (kD (.int 2)) (aCons (kD (.int 10)) aNil))))))) aNil)))) (aCons (toD (d2 gMod (toD (d2 gMul (vB 0) (kD (.int 94906267)))) (toD (d2 gPow (kD (.int 2)) (kD (.int 40)))))) aNil))))) (toD (vCall F__law_part (aCons (vL 0) (aCons (kD (.int 3)) (aCons (kD (.int 3)) aNil)))))))))
    (sSeq (sSet 6 (toT (toD (vCall F__law_part (aCons (vL 0) (aCons (kD (.int 0)) (aCons (kD (.int 14)) aNil)))))))
    (sSeq (sIf (fAnd (tB2 (gCmp fun i j => decide (i < j)) (vB 6) (kD (.int 4))) (tB2 (gCmp fun i j => decide (j < i)) (toD (d2 gIxA (vB 2) (kD (.int 0)))) (kD (.int 0)))) (sSeq (sSet 7 (toT (toD (vCall F__law_name (aCons (vL 1) (aCons (toD (vCall F__law_part (aCons (vL 0) (aCons (kD (.int 4)) (aCons (toD (d2 gIxA (vB 2) (kD (.int 0)))) aNil))))) aNil))))))
    (sRet (d2 gIxA (toD (vLst (aCons (toD (vTup (aCons (kD (.str "load")) (aCons (vL 4) (aCons (vL 7) aNil))))) (aCons (toD (vTup (aCons (kD (.str "store")) (aCons (vL 7) (aCons (vL 5) aNil))))) aNil)))) (toD (d2 gMod (vB 6) (kD (.int 2))))))) sNil)
    (sSeq (sIf (fAnd (tB2 (gCmp fun i j => decide (i < j)) (vB 6) (kD (.int 8))) (tB2 (gCmp fun i j => decide (j < i)) (toD (d2 gIxA (vB 2) (kD (.int 1)))) (kD (.int 0)))) (sSeq (sSet 8 (toT (toD (vCall F__law_name (aCons (vL 1) (aCons (toD (d2 gAdd (kD (.int 6)) (toD (vCall F__law_part (aCons (vL 0) (aCons (kD (.int 4)) (aCons (toD (d2 gIxA (vB 2) (kD (.int 1)))) aNil))))))) aNil))))))
    (sRet (d2 gIxA (toD (vLst (aCons (toD (vTup (aCons (kD (.str "take")) (aCons (vL 4) (aCons (vL 8) (aCons (vL 5) aNil)))))) (aCons (toD (vTup (aCons (kD (.str "lay")) (aCons (vL 8) (aCons (vL 5) (aCons (kD (.int 7)) aNil)))))) aNil)))) (toD (d2 gMod (vB 6) (kD (.int 2))))))) sNil)
    (sSeq (sIf (tB2 (gCmp fun i j => decide (i < j)) (vB 6) (kD (.int 9))) (sRet (vTup (aCons (kD (.str "op")) (aCons (vL 4) (aCons (toD (d2 gIxA (kD (.str "+-*<=&|^")) (toD (vCall F__law_part (aCons (vL 0) (aCons (kD (.int 5)) (aCons (kD (.int 8)) aNil))))))) (aCons (vL 5) (aCons (kD (.int 5)) aNil))))))) sNil)
    (sSeq (sIf (tB2 (gCmp fun i j => decide (j < i)) (vB 6) (kD (.int 11))) (sSeq (sSet 9 (toT (toD (vCall F__law_part (aCons (vL 0) (aCons (kD (.int 6)) (aCons (vL 3) aNil)))))))
    (sRet (d2 gIxA (toD (vLst (aCons (toD (vTup (aCons (kD (.str "if")) (aCons (vL 5) (aCons (vL 9) aNil))))) (aCons (toD (vTup (aCons (kD (.str "go")) (aCons (vL 9) aNil)))) aNil)))) (toD (d2 gSubD (vB 6) (kD (.int 12))))))) sNil)
    (sRet (d2 gIxA (toD (vLst (aCons (toD (vTup (aCons (kD (.str "copy")) (aCons (vL 4) (aCons (vL 5) aNil))))) (aCons (toD (vTup (aCons (kD (.str "hear")) (aCons (vL 4) aNil)))) (aCons (toD (vTup (aCons (kD (.str "say")) (aCons (vL 5) aNil)))) aNil))))) (toD (d2 gSubD (vB 6) (kD (.int 9))))))))))))))
noncomputable def F__law_spoilt : List Dt → Option T := runD 11 ((sSeq (sIf (tB2 (gEq false) (vB 0) (toD (vLst aNil))) (sRetV 0) sNil)
    (sSeq (sSet 4 (toT (toD (vCall F__law_part (aCons (vL 3) (aCons (kD (.int 0)) (aCons (toD (vCall gLen (aCons (vB 0) aNil))) aNil)))))))
    (sSeq (sSet 5 (toT (toD (vCall F__law_part (aCons (vL 3) (aCons (kD (.int 1)) (aCons (kD (.int 8)) aNil)))))))
    (sSeq (sSet 6 (toT (toD (vLst (aCons (toD (vCall F__law_name (aCons (vL 2) (aCons (toD (d2 gAdd (kD (.int 10)) (toD (vCall F__law_part (aCons (vL 3) (aCons (kD (.int 2)) (aCons (kD (.int 16)) aNil))))))) aNil)))) (aCons (toD (vCall F__law_name (aCons (vL 2) (aCons (toD (vCall F__law_part (aCons (vL 3) (aCons (kD (.int 2)) (aCons (kD (.int 10)) aNil))))) aNil)))) aNil))))))
    (sSeq (sSet 7 (toT (toD (d2 gIxA (vB 6) (toD (vCall F__law_part (aCons (vL 3) (aCons (kD (.int 3)) (aCons (kD (.int 2)) aNil)))))))))
    (sSeq (sSet 8 (toT (toD (d2 gAdd (toD (vCall gLen (aCons (vB 0) aNil))) (toD (vCall F__law_part (aCons (vL 3) (aCons (kD (.int 4)) (aCons (kD (.int 70)) aNil)))))))))
    (sSeq (sSet 9 (toT (toD (vLst (aCons (toD (vTup (aCons (kD (.str "load")) (aCons (kD (.str "x")) (aCons (vL 7) aNil))))) (aCons (toD (vTup (aCons (kD (.str "store")) (aCons (vL 7) (aCons (kD (.int 5)) aNil))))) (aCons (toD (vTup (aCons (kD (.str "take")) (aCons (kD (.str "y")) (aCons (vL 7) (aCons (kD (.int 0)) aNil)))))) (aCons (toD (vTup (aCons (kD (.str "lay")) (aCons (vL 7) (aCons (kD (.int 1)) (aCons (kD (.int 2)) aNil)))))) aNil))))))))
    (sSeq (sSet 9 (toT (toD (d2 gAdd (vB 9) (toD (vLst (aCons (toD (vTup (aCons (kD (.str "if")) (aCons (kD (.int 1)) (aCons (vL 8) aNil))))) (aCons (toD (vTup (aCons (kD (.str "go")) (aCons (vL 8) aNil)))) aNil))))))))
    (sSeq (sIf (tB2 (gEq false) (vB 5) (kD (.int 6))) (sSeq (sSet 10 (toT (toD (vCall F__law_part (aCons (vL 3) (aCons (kD (.int 5)) (aCons (toD (vCall gLen (aCons (vB 0) aNil))) aNil)))))))
    (sRet (d2 gAdd (toD (vSl (vB 0) oNone (oSome (toD (vNeg (kD (.int 1))))))) (toD (vLst (aCons (toD (d2 gIxA (toD (vLst (aCons (toD (vTup (aCons (kD (.str "say")) (aCons (kD (.int 7)) aNil)))) (aCons (toD (vTup (aCons (kD (.str "if")) (aCons (kD (.int 7)) (aCons (vL 10) aNil))))) (aCons (toD (vTup (aCons (kD (.str "go")) (aCons (vL 10) aNil)))) (aCons (toD (vTup (aCons (kD (.str "if")) (aCons (kD (.str "x")) (aCons (vL 10) aNil))))) aNil)))))) (toD (vCall F__law_part (aCons (vL 3) (aCons (kD (.int 6)) (aCons (kD (.int 4)) aNil))))))) aNil)))))) sNil)
    (sSeq (sIf (tB2 (gEq false) (vB 5) (kD (.int 7))) (sRet (vLst aNil)) sNil)
    (sRet (d2 gAdd (toD (d2 gAdd (toD (vSl (vB 0) oNone (oSome (vB 4)))) (toD (vLst (aCons (toD (d2 gIxA (vB 9) (vB 5))) aNil))))) (toD (vSl (vB 0) (oSome (toD (d2 gAdd (vB 4) (kD (.int 1))))) oNone)))))))))))))))
noncomputable def F__law_whole : List Dt → Option T := runD 1 ((sRet (vAnd (toD (vInst "int" (vB 0))) (vNot (toD (vInst "bool" (vB 0)))))))
noncomputable def F_ways_of : List Dt → Option T := runD 2 ((sSeq (sIf (tB2 (gEq false) (toD (d2 gIxA (vB 1) (kD (.int 0)))) (kD (.str "go"))) (sRet (vTup (aCons (toD (d2 gIxA (vB 1) (kD (.int 1)))) aNil))) sNil)
    (sSeq (sIf (tB2 (gEq false) (toD (d2 gIxA (vB 1) (kD (.int 0)))) (kD (.str "if"))) (sRet (vTup (aCons (toD (d2 gIxA (vB 1) (kD (.int 2)))) (aCons (toD (d2 gAdd (vB 0) (kD (.int 1)))) aNil)))) sNil)
    (sSeq (sIf (tB2 (gEq false) (toD (d2 gIxA (vB 1) (kD (.int 0)))) (kD (.str "end"))) (sRet (vTup aNil)) sNil)
    (sRet (vTup (aCons (toD (d2 gAdd (vB 0) (kD (.int 1)))) aNil)))))))
noncomputable def E_ways_0 : De → Option Dt := (toD (vCall F_ways_of (aCons (vL 0) (aCons (vL 1) aNil))))
noncomputable def F_ways : List Dt → Option T := runD 1 ((sRet (vComp [none, none] (fRng enumD (aCons (toD (d2 gIxA (vB 0) (kD (.int 2)))) aNil)) (bTup 2 (bCons (bName 0) (bCons (bName 1) bNil))) tYesD E_ways_0)))
noncomputable def E_refuse_falls_0 : De → Option Dt := (toD (d2 (gCmp fun i j => decide (j ≤ i)) (vB 0) (vB 1)))
noncomputable def B_refuse_falls_0 : De → Option Out := (sIf (fTru (toD (vCall (gAll fun bs => bs.any id) (aCons (toD (vComp [none, some 1] (fIt (vB 3)) (bName 0) tYesD E_refuse_falls_0)) aNil)))) (sRs "Falls" ["row"] (aCons (vL 2) aNil)) sNil)
noncomputable def F_refuse_falls : List Dt → Option T := runD 4 ((sSeq (sSet 1 (toT (toD (vCall gLen (aCons (toD (d2 gIxA (vB 0) (kD (.int 2)))) aNil)))))
    (sSeq (sIf (tB2 (gEq false) (vB 1) (kD (.int 0))) (sRs "Falls" ["row"] (aCons (kD (.int 0)) aNil)) sNil)
    (sFor (fRng enumD (aCons (toD (vCall F_ways (aCons (vL 0) aNil))) aNil)) (bTup 2 (bCons (bName 2) (bCons (bName 3) bNil))) B_refuse_falls_0))))
noncomputable def F_unknown_word : List Dt → Option T := runD 4 ((sSeq (sIf (fSi false k_CELL_PLACES c_CELL_PLACES (toD (d2 gIxA (vB 0) (kD (.int 0))))) (sSeq (sSet 3 (toT (toD (d2 gIxA (vB 0) (toD (vSg k_CELL_PLACES c_CELL_PLACES (toD (d2 gIxA (vB 0) (kD (.int 0))))))))))
    (sRet (vIf (tB2 (gInA false) (vB 3) (vB 1)) (toT (kD .non)) (toT (vL 3))))) sNil)
    (sSeq (sIf (fSi false k_SHELF_PLACES c_SHELF_PLACES (toD (d2 gIxA (vB 0) (kD (.int 0))))) (sSeq (sSet 3 (toT (toD (d2 gIxA (vB 0) (toD (vSg k_SHELF_PLACES c_SHELF_PLACES (toD (d2 gIxA (vB 0) (kD (.int 0))))))))))
    (sRet (vIf (tB2 (gInA false) (vB 3) (vB 2)) (toT (kD .non)) (toT (vL 3))))) sNil)
    (sRet (toT (kD .non))))))
noncomputable def E_refuse_unknown_0 : De → Option Dt := (toD (d2 gIxA (vB 0) (kD (.int 0))))
noncomputable def E_refuse_unknown_1 : De → Option Dt := (toD (d2 gIxA (vB 0) (kD (.int 0))))
noncomputable def B_refuse_unknown_0 : De → Option Out := (sSeq (sSet 5 (toT (toD (vCall F_unknown_word (aCons (vL 4) (aCons (vL 1) (aCons (vL 2) aNil)))))))
    (sIf (tB2 (gIs true) (vB 5) (kD .non)) (sRs "Unknown" ["word", "row"] (aCons (vL 5) (aCons (vL 3) aNil))) sNil))
noncomputable def F_refuse_unknown : List Dt → Option T := runD 6 ((sSeq (sSet 1 (toT (toD (vComp [none] (fIt (toD (d2 gIxA (vB 0) (kD (.int 0))))) (bName 0) tYesD E_refuse_unknown_0))))
    (sSeq (sSet 2 (toT (toD (vComp [none] (fIt (toD (d2 gIxA (vB 0) (kD (.int 1))))) (bName 0) tYesD E_refuse_unknown_1))))
    (sFor (fRng enumD (aCons (toD (d2 gIxA (vB 0) (kD (.int 2)))) aNil)) (bTup 2 (bCons (bName 3) (bCons (bName 4) bNil))) B_refuse_unknown_0))))
noncomputable def F_look : List Dt → Option T := runD 1 ((sSeq (sCX F_refuse_unknown (aCons (vL 0) aNil))
    (sSeq (sCX F_refuse_falls (aCons (vL 0) aNil))
    (sRet (toT (kD (.bl true)))))))
noncomputable def F__law_told : List Dt → Option T := runD 4 ((sSeq (sSet 1 (toT (kD .non)))
    (sSeq (sSet 2 (toT (kD .non)))
    (sSeq (sTry F_look (aCons (vL 0) aNil) 2 3 1)
    (sSeq (sIf (tXn 1) (sRet (d2 gIxA (toD (vLst (aCons (toD (vLst (aCons (kD (.str "bad")) aNil))) (aCons (toD (vLst (aCons (kD (.str "good")) aNil))) aNil)))) (toD (vCall gInt (aCons (toD (d2 (gIsB false) (vB 2) (kD (.bl true)))) aNil))))) sNil)
    (sSeq (sIf (fOr (fNot (fTru (toD (vXis CS (fun _ => true) (vX 1))))) (fTru (toD (vXis CS (fun c => (["BadLine", "Twice", "NoLabel"] : List Str).contains c) (vX 1))))) (sRet (vLst (aCons (kD (.str "bad")) aNil))) sNil)
    (sSeq (sIf (fOr (tB2 (gEq false) (toD (vXis CS (· == "Unknown") (vX 1))) (toD (vXis CS (· == "Falls") (vX 1)))) (fNot (fTru (toD (vCall F__law_whole (aCons (vXat "row" (vX 1)) aNil)))))) (sRet (vLst (aCons (kD (.str "bad")) aNil))) sNil)
    (sSeq (sIf (fTru (toD (vXis CS (· == "Falls") (vX 1)))) (sRet (vLst (aCons (kD (.str "falls")) (aCons (vXat "row" (vX 1)) aNil)))) sNil)
    (sRet (vLst (aCons (kD (.str "unknown")) (aCons (vXat "word" (vX 1)) (aCons (vXat "row" (vX 1)) aNil)))))))))))))
noncomputable def E_law_0 : De → Option Dt := (toD (vCall F__law_name (aCons (vL 1) (aCons (vL 0) aNil))))
noncomputable def E_law_1 : De → Option Dt := (toD (vCall F__law_name (aCons (vL 1) (aCons (toD (d2 gAdd (kD (.int 6)) (vB 0))) aNil))))
noncomputable def E_law_2 : De → Option Dt := (toD (vCall F__law_row (aCons (toD (vCall F__law_cell (aCons (vL 1) (aCons (toD (d2 gAdd (kD (.int 5)) (vB 0))) aNil)))) (aCons (vL 2) (aCons (vL 3) (aCons (vL 4) aNil))))))
noncomputable def B_law_0 : De → Option Out := (sFrz 7 (sSet 7 (vCall F__law_spoilt (aCons (vL 7) (aCons (vL 3) (aCons (vL 2) (aCons (toD (vCall F__law_cell (aCons (vL 0) (aCons (toD (d2 gAdd (kD (.int 2)) (vB 8))) aNil)))) aNil)))))))
noncomputable def E_law_3 : De → Option Dt := (toD (vTup (aCons (vL 0) (aCons (kD (.int 5)) (aCons (toD (d2 (gEq false) (toD (d2 gMod (toD (vCall gLen (aCons (vB 0) aNil))) (kD (.int 2)))) (kD (.int 1)))) aNil)))))
noncomputable def E_law_4 : De → Option Dt := (toD (vTup (aCons (vL 1) (aCons (toD (d2 gAdd (kD (.int 1)) (toD (d2 gMod (vB 0) (kD (.int 8)))))) (aCons (toD (d2 (gEq false) (toD (d2 gMod (vB 0) (kD (.int 2)))) (kD (.int 0)))) aNil)))))
noncomputable def F_law : List Dt → Option T := runD 13 ((sSeq (sSet 1 (toT (toD (vCall F__law_cell (aCons (vL 0) (aCons (kD (.int 0)) aNil))))))
    (sSeq (sSet 2 (toT (toD (vCall F__law_cell (aCons (vL 0) (aCons (kD (.int 1)) aNil))))))
    (sSeq (sSet 3 (toT (toD (vLst (aCons (toD (vCall F__law_part (aCons (vL 1) (aCons (kD (.int 0)) (aCons (kD (.int 7)) aNil))))) (aCons (toD (vCall F__law_part (aCons (vL 1) (aCons (kD (.int 1)) (aCons (kD (.int 5)) aNil))))) aNil))))))
    (sSeq (sSet 4 (toT (toD (d2 gAdd (kD (.int 1)) (toD (vCall F__law_part (aCons (vL 1) (aCons (kD (.int 2)) (aCons (kD (.int 9)) aNil)))))))))
    (sSeq (sIf (tB2 (gEq false) (toD (vCall F__law_part (aCons (vL 1) (aCons (kD (.int 3)) (aCons (kD (.int 8)) aNil))))) (kD (.int 1))) (sSet 4 (toT (toD (d2 gAdd (kD (.int 1)) (toD (vCall F__law_part (aCons (vL 1) (aCons (kD (.int 4)) (aCons (kD (.int 59)) aNil))))))))) sNil)
    (sSeq (sSet 5 (toT (toD (vComp [none, some 2] (fRng rng1 (aCons (toD (d2 gIxA (vB 3) (kD (.int 0)))) aNil)) (bName 0) tYesD E_law_0))))
    (sSeq (sSet 6 (toT (toD (vComp [none, some 2] (fRng rng1 (aCons (toD (d2 gIxA (vB 3) (kD (.int 1)))) aNil)) (bName 0) tYesD E_law_1))))
    (sSeq (sSet 7 (vComp [none, some 0, some 2, some 3, some 4] (fRng rng1 (aCons (vL 4) aNil)) (bName 0) tYesD E_law_2))
    (sSeq (s_append 7 (toD (d2 gIxA (toD (vLst (aCons (toD (vTup (aCons (kD (.str "end")) (aCons (kD (.int 0)) aNil)))) (aCons (toD (vTup (aCons (kD (.str "go")) (aCons (toD (vCall F__law_part (aCons (vL 1) (aCons (kD (.int 6)) (aCons (toD (d2 gAdd (vB 4) (kD (.int 1)))) aNil))))) aNil)))) (aCons (toD (vTup (aCons (kD (.str "end")) (aCons (kD (.int 7)) aNil)))) aNil))))) (toD (vCall F__law_part (aCons (vL 1) (aCons (kD (.int 7)) (aCons (kD (.int 3)) aNil))))))))
    (sSeq (sFor (fRng rng1 (aCons (toD (vCall F__law_part (aCons (vL 1) (aCons (kD (.int 5)) (aCons (kD (.int 3)) aNil))))) aNil)) (bName 8) B_law_0)
    (sSeq (sSet 9 (toT (toD (vComp [none] (fIt (vB 5)) (bName 0) tYesD E_law_3))))
    (sSeq (sSet 10 (toT (toD (vComp [none, none] (fRng enumD (aCons (vL 6) aNil)) (bTup 2 (bCons (bName 0) (bCons (bName 1) bNil))) tYesD E_law_4))))
    (sSeq (sSet 11 (toT (toD (vTup (aCons (toD (vCall gTuple (aCons (vB 9) aNil))) (aCons (toD (vCall gTuple (aCons (vB 10) aNil))) (aCons (toD (vCall gTuple (aCons (vB 7) aNil))) aNil)))))))
    (sSeq (sFrz 7 (sSet 12 (toT (toD (vCall F__law_due (aCons (vL 5) (aCons (vL 6) (aCons (vL 7) aNil))))))))
    (sSeq (sIf (fNot (fTru (toD (vCall F__law_made (aCons (toD (vCall F__law_name (aCons (vL 2) (aCons (kD (.int 3)) aNil)))) (aCons (toD (vCall F__law_part (aCons (vL 1) (aCons (kD (.int 6)) (aCons (kD (.int 60)) aNil))))) aNil)))))) (sRet (toT (kD (.bl false)))) sNil)
    (sSeq (sIf (fOr (tB2 (gEq true) (toD (vCall F__law_told (aCons (vL 11) aNil))) (vB 12)) (tB2 (gIsB true) (toD (vCX F_look (aCons (toD (vTup (aCons (toD (vTup aNil)) (aCons (toD (vTup aNil)) (aCons (toD (vTup (aCons (toD (vTup (aCons (kD (.str "end")) (aCons (kD (.int 3)) aNil)))) aNil))) aNil))))) aNil))) (kD (.bl true)))) (sRet (toT (kD (.bl false)))) sNil)
    (sRet (d2 (gEq false) (toD (vCall F__law_told (aCons (vL 11) aNil))) (vB 12))))))))))))))))))))
structure Txt (P : Program) (w : World) (K : PySem.W.Frag) (mg : Str → Option Value) : Prop where
  n_ValueError : mg "ValueError" = none
  n_any : mg "any" = none
  n_bool : mg "bool" = none
  n_enumerate : mg "enumerate" = none
  n_int : mg "int" = none
  n_isinstance : mg "isinstance" = none
  n_len : mg "len" = none
  n_max : mg "max" = none
  n_range : mg "range" = none
  n_tuple : mg "tuple" = none
  g_CELL_PLACES : SDic P w K mg "CELL_PLACES" k_CELL_PLACES c_CELL_PLACES
  g_SHELF_PLACES : SDic P w K mg "SHELF_PLACES" k_SHELF_PLACES c_SHELF_PLACES
  xw : XW K mg CS
  k_bool : KindsD K "bool"
  k_int : KindsD K "int"
theorem dsN {X : Cx} {e : Expr} {f : De → Option T} {i : Nat} {pos : Pos} {sc : Scope} {N : List Str} {x : Str} {pos' : Pos} (h : nsOk sc N = true) (nd : N.Nodup) (he : DO X e f) (e0 : N[i]? = some x := by rfl) (e1 : ScIs X sc := by rfl) (e2 : X.N = N := by rfl) (hf : X.fn x = true ∨ X.env.scope.names.lookup x = some .local := by exact .inl rfl) (hs : swapsWith e (some (.Name x pos')) pos.line X.env = pure false := by rfl) : DS1 X (.Assign [.Name x pos'] e pos) (sSet i f) := ds_set (nsN h i e0) (nsL h i e0) nd he e1 e2 hf hs
theorem doC {X : Cx} {x : Str} {p pos : Pos} {iter elt : Expr} {ifs : List Expr} {scope : Scope} {src : List (Option Nat)} {fi : De → Option (List Dt)} {ft : De → Option Bool} {fe : De → Option Dt} (M : List Str) (h : (cmpOk X.N X.env.scope scope M src && nmOk (relabelS scope X.env.scope) M 0 x && loOk (relabelS scope X.env.scope) x && decide (src[0]? = some none)) = true) (hi : DIB X (.Name x p) iter fi) (ht : ∀ C s H ex, DTs (cxC X M scope C s H ex) ifs ft) (he : ∀ C s H ex, DL (cxC X M scope C s H ex) elt fe) (hc : X.calm = true := by rfl) (hs : ∀ x, foldedSetIterable iter X.env x = pure x := by intro _; rfl) : DO X (.ListComp elt [⟨.Name x p, iter, ifs, 0⟩] scope pos) (vComp src fi (bName 0) ft fe) := by
  simp only [Bool.and_eq_true] at h
  exact do_comp (ts := [0]) (CmpScope.of h.1.1.1) hc hi (fun nd C s H ex => dg_name (pg_nameC h.1.1.2 h.1.2 nd (scC rfl))) ht he (by simp only [List.all_cons, List.all_nil, Bool.and_true]; exact h.2) hs
theorem fnS {N P : List Str} {sc : Scope} (h : N.Nodup ∧ N.take P.length = P ∧ (∀ x ∈ P, sc.names.lookup x = some .local ∨ sc.names.lookup x = some .cell) ∧ ∀ y ∈ sc.names, y.2 ≠ .free) (a : sc.kind = .function := by rfl) (b : sc.isCoroutine = false := by rfl) (c : sc.isGenerator = false := by rfl) : FnScope N P sc := ⟨a, b, c, h.1, h.2.1, h.2.2.1, h.2.2.2⟩
section
variable {P : Program} {w : World} {K : PySem.W.Frag} {mg : Str → Option Value} {base : Heap}
noncomputable abbrev s__law_cell : Stmt := top 18
theorem sc__law_cell : FnScope ["_law_script", "_law_k", "_law_seed"] ["_law_script", "_law_k"] (defScope s__law_cell) := fnS (by decide +kernel)
theorem ns__law_cell : nsOk (defScope s__law_cell) ["_law_script", "_law_k", "_law_seed"] = true := by decide +kernel
theorem gl__law_cell_len : glOk (defScope s__law_cell) "len" = true := by decide +kernel
theorem ok__law_cell (T : Txt P w K mg) (D : DefF K mg "_law_cell" s__law_cell ["_law_script", "_law_k"]) : OkF P w K mg base "_law_cell" 1 ["_law_script", "_law_k"] (spD K 2 F__law_cell) :=
  mk_ok D sc__law_cell rfl fun f cdv A outer s H E hr => (ds_cons (ds_if (dt_cmp op_lt r_cmp (db_var (pvN 1 ns__law_cell)) (DO.toB (do_callB gl__law_cell_len call_len c_len T.n_len bt_len (dab_cons (db_var (pvN 0 ns__law_cell)) dab_nil))) (nomark _)) (ds_one (ds_ret (do_ixA hr (db_var (pvN 0 ns__law_cell)) (db_var (pvN 1 ns__law_cell))))) ds_nil)
      (ds_cons (dsN ns__law_cell sc__law_cell.nd (DL.toO dl_int))
      (ds_cons (ds_if (dt_cmp op_gt r_cmp (DO.toB (do_callB gl__law_cell_len call_len c_len T.n_len bt_len (dab_cons (db_var (pvN 0 ns__law_cell)) dab_nil))) (DL.toB dl_int) (nomark _)) (ds_one (dsN ns__law_cell sc__law_cell.nd (DL.toO (DO.toL (do_bin op_mod r_mod (DO.toB (do_ixA hr (db_var (pvN 0 ns__law_cell)) (DO.toB (do_bin op_mod r_mod (db_var (pvN 1 ns__law_cell)) (DO.toB (do_callB gl__law_cell_len call_len c_len T.n_len bt_len (dab_cons (db_var (pvN 0 ns__law_cell)) dab_nil))))))) (DL.toB dl_int)))))) ds_nil)
      (ds_one (ds_ret (do_bin op_mod r_mod (DO.toB (do_bin op_mul r_mul (DO.toB (do_bin op_addD r_add (DO.toB (do_bin op_addD r_add (db_var (pvN 2 ns__law_cell)) (DO.toB (do_bin op_mul r_mul (DL.toB dl_int) (db_var (pvN 1 ns__law_cell)))))) (DL.toB dl_int))) (DO.toB (do_bin op_addD r_add (DO.toB (do_bin op_addD r_add (db_var (pvN 2 ns__law_cell)) (DO.toB (do_bin op_mul r_mul (DL.toB dl_int) (db_var (pvN 1 ns__law_cell)))))) (DL.toB dl_int))))) (DL.toB dl_int)))))))
noncomputable abbrev s__law_word : Stmt := top 23
theorem sc__law_word : FnScope ["_law_row_here"] ["_law_row_here"] (defScope s__law_word) := fnS (by decide +kernel)
theorem ns__law_word : nsOk (defScope s__law_word) ["_law_row_here"] = true := by decide +kernel
theorem ok__law_word (T : Txt P w K mg) (D : DefF K mg "_law_word" s__law_word ["_law_row_here"]) : OkF P w K mg base "_law_word" 1 ["_law_row_here"] (spD K 1 F__law_word) :=
  mk_ok D sc__law_word rfl fun f cdv A outer s H E hr => (ds_cons (ds_if (DW.t (dw_or (dt_cmp (op_eqA hr) r_eq (DO.toB (do_ixA hr (db_var (pvN 0 ns__law_word)) (DL.toB dl_int))) (DL.toB dl_str) (nomark _)) (dw_or1 (dt_cmp (op_eqA hr) r_eq (DO.toB (do_ixA hr (db_var (pvN 0 ns__law_word)) (DL.toB dl_int))) (DL.toB dl_str) (nomark _))))) (ds_one (ds_ret (do_ixA hr (db_var (pvN 0 ns__law_word)) (DL.toB dl_int)))) ds_nil)
      (ds_one (ds_ret (do_ixA hr (db_var (pvN 0 ns__law_word)) (DL.toB dl_int)))))
noncomputable abbrev s__law_due : Stmt := top 24
theorem sc__law_due : FnScope ["_law_cells", "_law_shelves", "_law_rows", "_law_at", "_law_goals"] ["_law_cells", "_law_shelves", "_law_rows"] (defScope s__law_due) := fnS (by decide +kernel)
theorem ns__law_due : nsOk (defScope s__law_due) ["_law_cells", "_law_shelves", "_law_rows", "_law_at", "_law_goals"] = true := by decide +kernel
theorem gl__law_due_len : glOk (defScope s__law_due) "len" = true := by decide +kernel
theorem gl__law_due_range : glOk (defScope s__law_due) "range" = true := by decide +kernel
theorem gl__law_due__law_word : glOk (defScope s__law_due) "_law_word" = true := by decide +kernel
theorem gl__law_due_max : glOk (defScope s__law_due) "max" = true := by decide +kernel
theorem ok__law_due (T : Txt P w K mg) (D : DefF K mg "_law_due" s__law_due ["_law_cells", "_law_shelves", "_law_rows"]) (h__law_word : OkF P w K mg base "_law_word" 1 ["_law_row_here"] (spD K 1 (F__law_word))) : OkF P w K mg base "_law_due" 2 ["_law_cells", "_law_shelves", "_law_rows"] (spD K 3 F__law_due) :=
  mk_ok D sc__law_due rfl fun f cdv A outer s H E hr => (ds_cons (ds_for PassesOwn.never rfl (di_range1 gl__law_due_range T.n_range (da_cons (DO.toL (do_callB gl__law_due_len call_len c_len T.n_len bt_len (dab_cons (db_var (pvN 2 ns__law_due)) dab_nil))) da_nil)) (dg_name (pg_nameD (nsN ns__law_due 3) (nsL ns__law_due 3) sc__law_due.nd)) (ds_cons (ds_if (DW.t (dw_and (dt_in hr (DO.toB (do_ixA hr (DO.toB (do_ixA hr (db_var (pvN 2 ns__law_due)) (db_var (pvN 3 ns__law_due)))) (DL.toB dl_int))) (DO.toB (do_tup (da_cons dl_str (da_cons dl_str da_nil))))) (dw_and1 (dt_notin hr (DO.toB (do_callF gl__law_due__law_word h__law_word (hr.mono (by decide)) (da_cons (DO.toL (do_ixA hr (db_var (pvN 2 ns__law_due)) (db_var (pvN 3 ns__law_due)))) da_nil))) (db_var (pvN 0 ns__law_due)))))) (ds_one (ds_ret (do_lst (da_cons dl_str (da_cons (DO.toL (do_callF gl__law_due__law_word h__law_word (hr.mono (by decide)) (da_cons (DO.toL (do_ixA hr (db_var (pvN 2 ns__law_due)) (db_var (pvN 3 ns__law_due)))) da_nil))) (da_cons (dl_var (pvN 3 ns__law_due)) da_nil)))))) ds_nil)
      (ds_one (ds_if (DW.t (dw_and (dt_in hr (DO.toB (do_ixA hr (DO.toB (do_ixA hr (db_var (pvN 2 ns__law_due)) (db_var (pvN 3 ns__law_due)))) (DL.toB dl_int))) (DO.toB (do_tup (da_cons dl_str (da_cons dl_str da_nil))))) (dw_and1 (dt_notin hr (DO.toB (do_callF gl__law_due__law_word h__law_word (hr.mono (by decide)) (da_cons (DO.toL (do_ixA hr (db_var (pvN 2 ns__law_due)) (db_var (pvN 3 ns__law_due)))) da_nil))) (db_var (pvN 1 ns__law_due)))))) (ds_one (ds_ret (do_lst (da_cons dl_str (da_cons (DO.toL (do_callF gl__law_due__law_word h__law_word (hr.mono (by decide)) (da_cons (DO.toL (do_ixA hr (db_var (pvN 2 ns__law_due)) (db_var (pvN 3 ns__law_due)))) da_nil))) (da_cons (dl_var (pvN 3 ns__law_due)) da_nil)))))) ds_nil))))
      (ds_cons (ds_for PassesOwn.never rfl (di_range1 gl__law_due_range T.n_range (da_cons (DO.toL (do_callB gl__law_due_len call_len c_len T.n_len bt_len (dab_cons (db_var (pvN 2 ns__law_due)) dab_nil))) da_nil)) (dg_name (pg_nameD (nsN ns__law_due 3) (nsL ns__law_due 3) sc__law_due.nd)) (ds_cons (dsN ns__law_due sc__law_due.nd (do_lst (da_cons (DO.toL (do_bin op_addD r_add (db_var (pvN 3 ns__law_due)) (DL.toB dl_int))) da_nil)))
      (ds_cons (ds_if (dt_cmp (op_eqA hr) r_eq (DO.toB (do_ixA hr (DO.toB (do_ixA hr (db_var (pvN 2 ns__law_due)) (db_var (pvN 3 ns__law_due)))) (DL.toB dl_int))) (DL.toB dl_str) (nomark _)) (ds_one (ds_append (pvN 4 ns__law_due) (DO.toL (do_ixA hr (DO.toB (do_ixA hr (db_var (pvN 2 ns__law_due)) (db_var (pvN 3 ns__law_due)))) (DL.toB dl_int))))) ds_nil)
      (ds_cons (ds_if (dt_cmp (op_eqA hr) r_eq (DO.toB (do_ixA hr (DO.toB (do_ixA hr (db_var (pvN 2 ns__law_due)) (db_var (pvN 3 ns__law_due)))) (DL.toB dl_int))) (DL.toB dl_str) (nomark _)) (ds_one (dsN ns__law_due sc__law_due.nd (do_lst (da_cons (DO.toL (do_ixA hr (DO.toB (do_ixA hr (db_var (pvN 2 ns__law_due)) (db_var (pvN 3 ns__law_due)))) (DL.toB dl_int))) da_nil)))) ds_nil)
      (ds_one (ds_if (DW.t (dw_and (dt_cmp (op_neA hr) r_ne (DO.toB (do_ixA hr (DO.toB (do_ixA hr (db_var (pvN 2 ns__law_due)) (db_var (pvN 3 ns__law_due)))) (DL.toB dl_int))) (DL.toB dl_str) (nomark _)) (dw_and1 (dt_cmp op_ge r_cmp (DO.toB (do_callB gl__law_due_max (call_maxL rfl) c_maxL T.n_max bt_max (dab_cons (db_var (pvN 4 ns__law_due)) dab_nil))) (DO.toB (do_callB gl__law_due_len call_len c_len T.n_len bt_len (dab_cons (db_var (pvN 2 ns__law_due)) dab_nil))) (nomark _))))) (ds_one (ds_ret (do_lst (da_cons dl_str (da_cons (dl_var (pvN 3 ns__law_due)) da_nil))))) ds_nil))))))
      (ds_cons (ds_if (dt_cmp (op_eqA hr) r_eq (db_var (pvN 2 ns__law_due)) (DO.toB (do_lst da_nil)) (nomark _)) (ds_one (ds_ret (do_lst (da_cons dl_str (da_cons dl_int da_nil))))) ds_nil)
      (ds_one (ds_ret (do_lst (da_cons dl_str da_nil)))))))
noncomputable abbrev s_BadLine____init__ : Stmt := meth 2 0
theorem sc_BadLine____init__ : FnScope ["self", "at"] ["self", "at"] (defScope s_BadLine____init__) := fnS (by decide +kernel)
theorem ns_BadLine____init__ : nsOk (defScope s_BadLine____init__) ["self", "at"] = true := by decide +kernel
theorem ok_BadLine____init__ (D : DefX K mg "BadLine" s_BadLine____init__ ["self", "at"] ["at"]) : OkX P w K mg base "BadLine" 1 ["at"] :=
  mk_x1 D sc_BadLine____init__ rfl fun f cdv A outer s H E => (pss_one (ps_x0 (pvN 0 ns_BadLine____init__) (pvN 1 ns_BadLine____init__)))
noncomputable abbrev s_Falls____init__ : Stmt := meth 6 0
theorem sc_Falls____init__ : FnScope ["self", "row"] ["self", "row"] (defScope s_Falls____init__) := fnS (by decide +kernel)
theorem ns_Falls____init__ : nsOk (defScope s_Falls____init__) ["self", "row"] = true := by decide +kernel
theorem ok_Falls____init__ (D : DefX K mg "Falls" s_Falls____init__ ["self", "row"] ["row"]) : OkX P w K mg base "Falls" 1 ["row"] :=
  mk_x1 D sc_Falls____init__ rfl fun f cdv A outer s H E => (pss_one (ps_x0 (pvN 0 ns_Falls____init__) (pvN 1 ns_Falls____init__)))
noncomputable abbrev s_NoLabel____init__ : Stmt := meth 4 0
theorem sc_NoLabel____init__ : FnScope ["self", "word"] ["self", "word"] (defScope s_NoLabel____init__) := fnS (by decide +kernel)
theorem ns_NoLabel____init__ : nsOk (defScope s_NoLabel____init__) ["self", "word"] = true := by decide +kernel
theorem ok_NoLabel____init__ (D : DefX K mg "NoLabel" s_NoLabel____init__ ["self", "word"] ["word"]) : OkX P w K mg base "NoLabel" 1 ["word"] :=
  mk_x1 D sc_NoLabel____init__ rfl fun f cdv A outer s H E => (pss_one (ps_x0 (pvN 0 ns_NoLabel____init__) (pvN 1 ns_NoLabel____init__)))
noncomputable abbrev s_Twice____init__ : Stmt := meth 3 0
theorem sc_Twice____init__ : FnScope ["self", "word"] ["self", "word"] (defScope s_Twice____init__) := fnS (by decide +kernel)
theorem ns_Twice____init__ : nsOk (defScope s_Twice____init__) ["self", "word"] = true := by decide +kernel
theorem ok_Twice____init__ (D : DefX K mg "Twice" s_Twice____init__ ["self", "word"] ["word"]) : OkX P w K mg base "Twice" 1 ["word"] :=
  mk_x1 D sc_Twice____init__ rfl fun f cdv A outer s H E => (pss_one (ps_x0 (pvN 0 ns_Twice____init__) (pvN 1 ns_Twice____init__)))
noncomputable abbrev s_Unknown____init__ : Stmt := meth 5 0
theorem sc_Unknown____init__ : FnScope ["self", "word", "row"] ["self", "word", "row"] (defScope s_Unknown____init__) := fnS (by decide +kernel)
theorem ns_Unknown____init__ : nsOk (defScope s_Unknown____init__) ["self", "word", "row"] = true := by decide +kernel
theorem ok_Unknown____init__ (D : DefX K mg "Unknown" s_Unknown____init__ ["self", "word", "row"] ["word", "row"]) : OkX P w K mg base "Unknown" 1 ["word", "row"] :=
  mk_x2 (by decide +kernel) D sc_Unknown____init__ rfl fun f cdv A outer s H E => (pss_cons (ps_x0 (pvN 0 ns_Unknown____init__) (pvN 1 ns_Unknown____init__)) (pss_one (ps_x1 (pvN 0 ns_Unknown____init__) (pvN 2 ns_Unknown____init__))))
noncomputable abbrev s__law_made : Stmt := top 27
theorem sc__law_made : FnScope ["_law_word_here", "_law_number", "_law_one"] ["_law_word_here", "_law_number"] (defScope s__law_made) := fnS (by decide +kernel)
theorem ns__law_made : nsOk (defScope s__law_made) ["_law_word_here", "_law_number", "_law_one"] = true := by decide +kernel
theorem gl__law_made_Unknown : glOk (defScope s__law_made) "Unknown" = true := by decide +kernel
theorem gl__law_made_BadLine : glOk (defScope s__law_made) "BadLine" = true := by decide +kernel
theorem gl__law_made_Falls : glOk (defScope s__law_made) "Falls" = true := by decide +kernel
theorem gl__law_made_isinstance : glOk (defScope s__law_made) "isinstance" = true := by decide +kernel
theorem gl__law_made_DimError : glOk (defScope s__law_made) "DimError" = true := by decide +kernel
theorem gl__law_made_NoLabel : glOk (defScope s__law_made) "NoLabel" = true := by decide +kernel
theorem gl__law_made_Twice : glOk (defScope s__law_made) "Twice" = true := by decide +kernel
theorem ok__law_made (T : Txt P w K mg) (D : DefF K mg "_law_made" s__law_made ["_law_word_here", "_law_number"]) (h_BadLine____init__ : OkX P w K mg base "BadLine" 1 ["at"]) (h_Falls____init__ : OkX P w K mg base "Falls" 1 ["row"]) (h_NoLabel____init__ : OkX P w K mg base "NoLabel" 1 ["word"]) (h_Twice____init__ : OkX P w K mg base "Twice" 1 ["word"]) (h_Unknown____init__ : OkX P w K mg base "Unknown" 1 ["word", "row"]) : OkF P w K mg base "_law_made" 3 ["_law_word_here", "_law_number"] (spD K 2 F__law_made) :=
  mk_ok D sc__law_made rfl fun f cdv A outer s H E hr => (ds_cons (dsN ns__law_made sc__law_made.nd (do_xmk gl__law_made_Unknown h_Unknown____init__ (hr.mono (by decide)) (da_cons (dl_var (pvN 0 ns__law_made)) (da_cons (dl_var (pvN 1 ns__law_made)) da_nil))))
      (ds_cons (ds_if (DW.t (dw_or (dt_cmp (op_neA hr) r_ne (DL.toB (dl_xat (do_xvar (pvN 2 ns__law_made)))) (db_var (pvN 0 ns__law_made)) (nomark _)) (dw_or (dt_cmp (op_neA hr) r_ne (DL.toB (dl_xat (do_xvar (pvN 2 ns__law_made)))) (db_var (pvN 1 ns__law_made)) (nomark _)) (dw_or (dt_cmp (op_neA hr) r_ne (DL.toB (dl_xat (do_xmk gl__law_made_Falls h_Falls____init__ (hr.mono (by decide)) (da_cons (dl_var (pvN 1 ns__law_made)) da_nil)))) (db_var (pvN 1 ns__law_made)) (nomark _)) (dw_or1 (dt_cmp (op_neA hr) r_ne (DL.toB (dl_xat (do_xmk gl__law_made_BadLine h_BadLine____init__ (hr.mono (by decide)) (da_cons (dl_var (pvN 1 ns__law_made)) da_nil)))) (db_var (pvN 1 ns__law_made)) (nomark _))))))) (ds_one (ds_ret (DL.toO dl_bl))) ds_nil)
      (ds_one (ds_ret (do_and (DO.toB (do_cmp (op_eqA hr) r_eq (DL.toB (dl_xat (do_xmk gl__law_made_Twice h_Twice____init__ (hr.mono (by decide)) (da_cons (dl_var (pvN 0 ns__law_made)) da_nil)))) (db_var (pvN 0 ns__law_made)) (nomark _))) (do_and (DO.toB (do_cmp (op_eqA hr) r_eq (DL.toB (dl_xat (do_xmk gl__law_made_NoLabel h_NoLabel____init__ (hr.mono (by decide)) (da_cons (dl_var (pvN 0 ns__law_made)) da_nil)))) (db_var (pvN 0 ns__law_made)) (nomark _))) (do_one (do_xisD T.xw gl__law_made_isinstance T.n_isinstance gl__law_made_DimError (do_xvar (pvN 2 ns__law_made))))))))))
noncomputable abbrev s__law_part : Stmt := top 19
theorem sc__law_part : FnScope ["_law_cell_here", "_law_j", "_law_many", "_law_primes"] ["_law_cell_here", "_law_j", "_law_many"] (defScope s__law_part) := fnS (by decide +kernel)
theorem ns__law_part : nsOk (defScope s__law_part) ["_law_cell_here", "_law_j", "_law_many", "_law_primes"] = true := by decide +kernel
theorem ok__law_part (T : Txt P w K mg) (D : DefF K mg "_law_part" s__law_part ["_law_cell_here", "_law_j", "_law_many"]) : OkF P w K mg base "_law_part" 1 ["_law_cell_here", "_law_j", "_law_many"] (spD K 3 F__law_part) :=
  mk_ok D sc__law_part rfl fun f cdv A outer s H E hr => (ds_cons (dsN ns__law_part sc__law_part.nd (DL.toO (DO.toL (do_tup (da_cons dl_int (da_cons dl_int (da_cons dl_int (da_cons dl_int (da_cons dl_int (da_cons dl_int (da_cons dl_int (da_cons dl_int da_nil))))))))))))
      (ds_one (ds_ret (do_bin op_mod r_mod (DO.toB (do_bin op_mod r_mod (DO.toB (do_bin op_addD r_add (DO.toB (do_bin op_mul r_mul (db_var (pvN 0 ns__law_part)) (DL.toB dl_int))) (DO.toB (do_bin op_mul r_mul (DL.toB dl_int) (db_var (pvN 1 ns__law_part)))))) (DO.toB (do_ixA hr (db_var (pvN 3 ns__law_part)) (DO.toB (do_bin op_mod r_mod (db_var (pvN 1 ns__law_part)) (DL.toB dl_int))))))) (db_var (pvN 2 ns__law_part))))))
noncomputable abbrev s__law_name : Stmt := top 20
theorem sc__law_name : FnScope ["_law_base", "_law_k", "_law_letters", "_law_size", "_law_some"] ["_law_base", "_law_k"] (defScope s__law_name) := fnS (by decide +kernel)
theorem ns__law_name : nsOk (defScope s__law_name) ["_law_base", "_law_k", "_law_letters", "_law_size", "_law_some"] = true := by decide +kernel
theorem gl__law_name__law_part : glOk (defScope s__law_name) "_law_part" = true := by decide +kernel
theorem gl__law_name_range : glOk (defScope s__law_name) "range" = true := by decide +kernel
theorem ok__law_name (T : Txt P w K mg) (D : DefF K mg "_law_name" s__law_name ["_law_base", "_law_k"]) (h__law_part : OkF P w K mg base "_law_part" 1 ["_law_cell_here", "_law_j", "_law_many"] (spD K 3 (F__law_part))) : OkF P w K mg base "_law_name" 2 ["_law_base", "_law_k"] (spD K 2 F__law_name) :=
  mk_ok D sc__law_name rfl fun f cdv A outer s H E hr => (ds_cons (dsN ns__law_name sc__law_name.nd (DL.toO dl_str))
      (ds_cons (dsN ns__law_name sc__law_name.nd (DL.toO (DO.toL (do_bin op_addD r_add (DL.toB dl_int) (DO.toB (do_callF gl__law_name__law_part h__law_part (hr.mono (by decide)) (da_cons (dl_var (pvN 0 ns__law_name)) (da_cons dl_int (da_cons dl_int da_nil)))))))))
      (ds_cons (ds_setC (nsN ns__law_name 4) (nsL ns__law_name 4) sc__law_name.nd (M := ["_law_j", "_law_base", "_law_letters"]) (src := [none, some 0, some 2]) (ts := [0]) (CmpScope.of (by kernel_rfl)) rfl (DIF.toB (di_range1 gl__law_name_range T.n_range (da_cons (dl_var (pvN 3 ns__law_name)) da_nil))) (fun nd _ _ _ _ => (dg_name (pg_nameC (N := ["_law_j", "_law_base", "_law_letters"]) (i := 0) (by decide +kernel) (by decide +kernel) nd (scC (outer := defScope s__law_name) (by exact rfl))))) (fun _ _ _ _ => dts_nil) (fun _ _ _ _ => (DO.toL (do_ixA hr (db_var (pvX (by kernel_rfl))) (DO.toB (do_callF (by decide +kernel) h__law_part (hr.mono (by decide)) (da_cons (dl_var (pvX (by kernel_rfl))) (da_cons (dl_var (pvX (by kernel_rfl))) (da_cons dl_int da_nil))) (e1 := (scC (outer := defScope s__law_name) rfl))))))) (by decide +kernel))
      (ds_cons (ds_put hr (pvN 4 ns__law_name) (DO.toB (do_callF gl__law_name__law_part h__law_part (hr.mono (by decide)) (da_cons (dl_var (pvN 0 ns__law_name)) (da_cons dl_int (da_cons (dl_var (pvN 3 ns__law_name)) da_nil))))) (DO.toL (do_ixA hr (db_var (pvN 2 ns__law_name)) (DO.toB (do_bin op_mod r_mod (DO.toB (do_bin op_addD r_add (DO.toB (do_callF gl__law_name__law_part h__law_part (hr.mono (by decide)) (da_cons (dl_var (pvN 0 ns__law_name)) (da_cons dl_int (da_cons dl_int da_nil))))) (db_var (pvN 1 ns__law_name)))) (DL.toB dl_int))))))
      (ds_one (ds_ret (do_join (DL.toB dl_str) (dab_cons (db_var (pvN 4 ns__law_name)) dab_nil))))))))
noncomputable abbrev s__law_row : Stmt := top 21
theorem sc__law_row : FnScope ["_law_cell_here", "_law_base", "_law_sizes", "_law_many", "_law_x", "_law_a", "_law_kind", "_law_c", "_law_f", "_law_goal"] ["_law_cell_here", "_law_base", "_law_sizes", "_law_many"] (defScope s__law_row) := fnS (by decide +kernel)
theorem ns__law_row : nsOk (defScope s__law_row) ["_law_cell_here", "_law_base", "_law_sizes", "_law_many", "_law_x", "_law_a", "_law_kind", "_law_c", "_law_f", "_law_goal"] = true := by decide +kernel
theorem gl__law_row__law_part : glOk (defScope s__law_row) "_law_part" = true := by decide +kernel
theorem gl__law_row__law_name : glOk (defScope s__law_row) "_law_name" = true := by decide +kernel
theorem ok__law_row (T : Txt P w K mg) (D : DefF K mg "_law_row" s__law_row ["_law_cell_here", "_law_base", "_law_sizes", "_law_many"]) (h__law_name : OkF P w K mg base "_law_name" 2 ["_law_base", "_law_k"] (spD K 2 (F__law_name))) (h__law_part : OkF P w K mg base "_law_part" 1 ["_law_cell_here", "_law_j", "_law_many"] (spD K 3 (F__law_part))) : OkF P w K mg base "_law_row" 3 ["_law_cell_here", "_law_base", "_law_sizes", "_law_many"] (spD K 4 F__law_row) :=
  mk_ok D sc__law_row rfl fun f cdv A outer s H E hr => (ds_cons (dsN ns__law_row sc__law_row.nd (DL.toO (DO.toL (do_callF gl__law_row__law_name h__law_name (hr.mono (by decide)) (da_cons (dl_var (pvN 1 ns__law_row)) (da_cons (DO.toL (do_bin op_addD r_add (DL.toB dl_int) (DO.toB (do_callF gl__law_row__law_part h__law_part (hr.mono (by decide)) (da_cons (dl_var (pvN 0 ns__law_row)) (da_cons dl_int (da_cons dl_int da_nil))))))) da_nil))))))
      (ds_cons (dsN ns__law_row sc__law_row.nd (DL.toO (DO.toL (do_ixA hr (DO.toB (do_lst (da_cons (dl_var (pvN 4 ns__law_row)) (da_cons (DO.toL (do_callF gl__law_row__law_name h__law_name (hr.mono (by decide)) (da_cons (dl_var (pvN 1 ns__law_row)) (da_cons (DO.toL (do_bin op_addD r_add (DL.toB dl_int) (DO.toB (do_callF gl__law_row__law_part h__law_part (hr.mono (by decide)) (da_cons (dl_var (pvN 0 ns__law_row)) (da_cons dl_int (da_cons dl_int da_nil))))))) da_nil)))) (da_cons (DO.toL (do_bin op_mod r_mod (DO.toB (do_bin op_mul r_mul (db_var (pvN 0 ns__law_row)) (DL.toB dl_int))) (DO.toB (do_bin op_pow r_pow (DL.toB dl_int) (DL.toB dl_int))))) da_nil))))) (DO.toB (do_callF gl__law_row__law_part h__law_part (hr.mono (by decide)) (da_cons (dl_var (pvN 0 ns__law_row)) (da_cons dl_int (da_cons dl_int da_nil)))))))))
      (ds_cons (dsN ns__law_row sc__law_row.nd (DL.toO (DO.toL (do_callF gl__law_row__law_part h__law_part (hr.mono (by decide)) (da_cons (dl_var (pvN 0 ns__law_row)) (da_cons dl_int (da_cons dl_int da_nil)))))))
      (ds_cons (ds_if (DW.t (dw_and (dt_cmp op_lt r_cmp (db_var (pvN 6 ns__law_row)) (DL.toB dl_int) (nomark _)) (dw_and1 (dt_cmp op_gt r_cmp (DO.toB (do_ixA hr (db_var (pvN 2 ns__law_row)) (DL.toB dl_int))) (DL.toB dl_int) (nomark _))))) (ds_cons (dsN ns__law_row sc__law_row.nd (DL.toO (DO.toL (do_callF gl__law_row__law_name h__law_name (hr.mono (by decide)) (da_cons (dl_var (pvN 1 ns__law_row)) (da_cons (DO.toL (do_callF gl__law_row__law_part h__law_part (hr.mono (by decide)) (da_cons (dl_var (pvN 0 ns__law_row)) (da_cons dl_int (da_cons (DO.toL (do_ixA hr (db_var (pvN 2 ns__law_row)) (DL.toB dl_int))) da_nil))))) da_nil))))))
      (ds_one (ds_ret (do_ixA hr (DO.toB (do_lst (da_cons (DO.toL (do_tup (da_cons dl_str (da_cons (dl_var (pvN 4 ns__law_row)) (da_cons (dl_var (pvN 7 ns__law_row)) da_nil))))) (da_cons (DO.toL (do_tup (da_cons dl_str (da_cons (dl_var (pvN 7 ns__law_row)) (da_cons (dl_var (pvN 5 ns__law_row)) da_nil))))) da_nil)))) (DO.toB (do_bin op_mod r_mod (db_var (pvN 6 ns__law_row)) (DL.toB dl_int))))))) ds_nil)
      (ds_cons (ds_if (DW.t (dw_and (dt_cmp op_lt r_cmp (db_var (pvN 6 ns__law_row)) (DL.toB dl_int) (nomark _)) (dw_and1 (dt_cmp op_gt r_cmp (DO.toB (do_ixA hr (db_var (pvN 2 ns__law_row)) (DL.toB dl_int))) (DL.toB dl_int) (nomark _))))) (ds_cons (dsN ns__law_row sc__law_row.nd (DL.toO (DO.toL (do_callF gl__law_row__law_name h__law_name (hr.mono (by decide)) (da_cons (dl_var (pvN 1 ns__law_row)) (da_cons (DO.toL (do_bin op_addD r_add (DL.toB dl_int) (DO.toB (do_callF gl__law_row__law_part h__law_part (hr.mono (by decide)) (da_cons (dl_var (pvN 0 ns__law_row)) (da_cons dl_int (da_cons (DO.toL (do_ixA hr (db_var (pvN 2 ns__law_row)) (DL.toB dl_int))) da_nil))))))) da_nil))))))
      (ds_one (ds_ret (do_ixA hr (DO.toB (do_lst (da_cons (DO.toL (do_tup (da_cons dl_str (da_cons (dl_var (pvN 4 ns__law_row)) (da_cons (dl_var (pvN 8 ns__law_row)) (da_cons (dl_var (pvN 5 ns__law_row)) da_nil)))))) (da_cons (DO.toL (do_tup (da_cons dl_str (da_cons (dl_var (pvN 8 ns__law_row)) (da_cons (dl_var (pvN 5 ns__law_row)) (da_cons dl_int da_nil)))))) da_nil)))) (DO.toB (do_bin op_mod r_mod (db_var (pvN 6 ns__law_row)) (DL.toB dl_int))))))) ds_nil)
      (ds_cons (ds_if (dt_cmp op_lt r_cmp (db_var (pvN 6 ns__law_row)) (DL.toB dl_int) (nomark _)) (ds_one (ds_ret (do_tup (da_cons dl_str (da_cons (dl_var (pvN 4 ns__law_row)) (da_cons (DO.toL (do_ixA hr (DL.toB dl_str) (DO.toB (do_callF gl__law_row__law_part h__law_part (hr.mono (by decide)) (da_cons (dl_var (pvN 0 ns__law_row)) (da_cons dl_int (da_cons dl_int da_nil))))))) (da_cons (dl_var (pvN 5 ns__law_row)) (da_cons dl_int da_nil)))))))) ds_nil)
      (ds_cons (ds_if (dt_cmp op_gt r_cmp (db_var (pvN 6 ns__law_row)) (DL.toB dl_int) (nomark _)) (ds_cons (dsN ns__law_row sc__law_row.nd (DL.toO (DO.toL (do_callF gl__law_row__law_part h__law_part (hr.mono (by decide)) (da_cons (dl_var (pvN 0 ns__law_row)) (da_cons dl_int (da_cons (dl_var (pvN 3 ns__law_row)) da_nil)))))))
      (ds_one (ds_ret (do_ixA hr (DO.toB (do_lst (da_cons (DO.toL (do_tup (da_cons dl_str (da_cons (dl_var (pvN 5 ns__law_row)) (da_cons (dl_var (pvN 9 ns__law_row)) da_nil))))) (da_cons (DO.toL (do_tup (da_cons dl_str (da_cons (dl_var (pvN 9 ns__law_row)) da_nil)))) da_nil)))) (DO.toB (do_bin op_sub r_sub (db_var (pvN 6 ns__law_row)) (DL.toB dl_int))))))) ds_nil)
      (ds_one (ds_ret (do_ixA hr (DO.toB (do_lst (da_cons (DO.toL (do_tup (da_cons dl_str (da_cons (dl_var (pvN 4 ns__law_row)) (da_cons (dl_var (pvN 5 ns__law_row)) da_nil))))) (da_cons (DO.toL (do_tup (da_cons dl_str (da_cons (dl_var (pvN 4 ns__law_row)) da_nil)))) (da_cons (DO.toL (do_tup (da_cons dl_str (da_cons (dl_var (pvN 5 ns__law_row)) da_nil)))) da_nil))))) (DO.toB (do_bin op_sub r_sub (db_var (pvN 6 ns__law_row)) (DL.toB dl_int)))))))))))))
noncomputable abbrev s__law_spoilt : Stmt := top 22
theorem sc__law_spoilt : FnScope ["_law_rows", "_law_sizes", "_law_base", "_law_cell_here", "_law_at", "_law_way", "_law_strange", "_law_word_here", "_law_far", "_law_some", "_law_goal"] ["_law_rows", "_law_sizes", "_law_base", "_law_cell_here"] (defScope s__law_spoilt) := fnS (by decide +kernel)
theorem ns__law_spoilt : nsOk (defScope s__law_spoilt) ["_law_rows", "_law_sizes", "_law_base", "_law_cell_here", "_law_at", "_law_way", "_law_strange", "_law_word_here", "_law_far", "_law_some", "_law_goal"] = true := by decide +kernel
theorem gl__law_spoilt_len : glOk (defScope s__law_spoilt) "len" = true := by decide +kernel
theorem gl__law_spoilt__law_part : glOk (defScope s__law_spoilt) "_law_part" = true := by decide +kernel
theorem gl__law_spoilt__law_name : glOk (defScope s__law_spoilt) "_law_name" = true := by decide +kernel
theorem ok__law_spoilt (T : Txt P w K mg) (D : DefF K mg "_law_spoilt" s__law_spoilt ["_law_rows", "_law_sizes", "_law_base", "_law_cell_here"]) (h__law_name : OkF P w K mg base "_law_name" 2 ["_law_base", "_law_k"] (spD K 2 (F__law_name))) (h__law_part : OkF P w K mg base "_law_part" 1 ["_law_cell_here", "_law_j", "_law_many"] (spD K 3 (F__law_part))) : OkF P w K mg base "_law_spoilt" 3 ["_law_rows", "_law_sizes", "_law_base", "_law_cell_here"] (spD K 4 F__law_spoilt) :=
  mk_ok D sc__law_spoilt rfl fun f cdv A outer s H E hr => (ds_cons (ds_if (dt_cmp (op_eqA hr) r_eq (db_var (pvN 0 ns__law_spoilt)) (DO.toB (do_lst da_nil)) (nomark _)) (ds_one (ds_retV (pvN 0 ns__law_spoilt))) ds_nil)
      (ds_cons (dsN ns__law_spoilt sc__law_spoilt.nd (DL.toO (DO.toL (do_callF gl__law_spoilt__law_part h__law_part (hr.mono (by decide)) (da_cons (dl_var (pvN 3 ns__law_spoilt)) (da_cons dl_int (da_cons (DO.toL (do_callB gl__law_spoilt_len call_len c_len T.n_len bt_len (dab_cons (db_var (pvN 0 ns__law_spoilt)) dab_nil))) da_nil)))))))
      (ds_cons (dsN ns__law_spoilt sc__law_spoilt.nd (DL.toO (DO.toL (do_callF gl__law_spoilt__law_part h__law_part (hr.mono (by decide)) (da_cons (dl_var (pvN 3 ns__law_spoilt)) (da_cons dl_int (da_cons dl_int da_nil)))))))
      (ds_cons (dsN ns__law_spoilt sc__law_spoilt.nd (DL.toO (DO.toL (do_lst (da_cons (DO.toL (do_callF gl__law_spoilt__law_name h__law_name (hr.mono (by decide)) (da_cons (dl_var (pvN 2 ns__law_spoilt)) (da_cons (DO.toL (do_bin op_addD r_add (DL.toB dl_int) (DO.toB (do_callF gl__law_spoilt__law_part h__law_part (hr.mono (by decide)) (da_cons (dl_var (pvN 3 ns__law_spoilt)) (da_cons dl_int (da_cons dl_int da_nil))))))) da_nil)))) (da_cons (DO.toL (do_callF gl__law_spoilt__law_name h__law_name (hr.mono (by decide)) (da_cons (dl_var (pvN 2 ns__law_spoilt)) (da_cons (DO.toL (do_callF gl__law_spoilt__law_part h__law_part (hr.mono (by decide)) (da_cons (dl_var (pvN 3 ns__law_spoilt)) (da_cons dl_int (da_cons dl_int da_nil))))) da_nil)))) da_nil))))))
      (ds_cons (dsN ns__law_spoilt sc__law_spoilt.nd (DL.toO (DO.toL (do_ixA hr (db_var (pvN 6 ns__law_spoilt)) (DO.toB (do_callF gl__law_spoilt__law_part h__law_part (hr.mono (by decide)) (da_cons (dl_var (pvN 3 ns__law_spoilt)) (da_cons dl_int (da_cons dl_int da_nil)))))))))
      (ds_cons (dsN ns__law_spoilt sc__law_spoilt.nd (DL.toO (DO.toL (do_bin op_addD r_add (DO.toB (do_callB gl__law_spoilt_len call_len c_len T.n_len bt_len (dab_cons (db_var (pvN 0 ns__law_spoilt)) dab_nil))) (DO.toB (do_callF gl__law_spoilt__law_part h__law_part (hr.mono (by decide)) (da_cons (dl_var (pvN 3 ns__law_spoilt)) (da_cons dl_int (da_cons dl_int da_nil)))))))))
      (ds_cons (dsN ns__law_spoilt sc__law_spoilt.nd (DL.toO (DO.toL (do_lst (da_cons (DO.toL (do_tup (da_cons dl_str (da_cons dl_str (da_cons (dl_var (pvN 7 ns__law_spoilt)) da_nil))))) (da_cons (DO.toL (do_tup (da_cons dl_str (da_cons (dl_var (pvN 7 ns__law_spoilt)) (da_cons dl_int da_nil))))) (da_cons (DO.toL (do_tup (da_cons dl_str (da_cons dl_str (da_cons (dl_var (pvN 7 ns__law_spoilt)) (da_cons dl_int da_nil)))))) (da_cons (DO.toL (do_tup (da_cons dl_str (da_cons (dl_var (pvN 7 ns__law_spoilt)) (da_cons dl_int (da_cons dl_int da_nil)))))) da_nil))))))))
      (ds_cons (dsN ns__law_spoilt sc__law_spoilt.nd (DL.toO (DO.toL (do_bin op_addD r_add (db_var (pvN 9 ns__law_spoilt)) (DO.toB (do_lst (da_cons (DO.toL (do_tup (da_cons dl_str (da_cons dl_int (da_cons (dl_var (pvN 8 ns__law_spoilt)) da_nil))))) (da_cons (DO.toL (do_tup (da_cons dl_str (da_cons (dl_var (pvN 8 ns__law_spoilt)) da_nil)))) da_nil))))))))
      (ds_cons (ds_if (dt_cmp (op_eqA hr) r_eq (db_var (pvN 5 ns__law_spoilt)) (DL.toB dl_int) (nomark _)) (ds_cons (dsN ns__law_spoilt sc__law_spoilt.nd (DL.toO (DO.toL (do_callF gl__law_spoilt__law_part h__law_part (hr.mono (by decide)) (da_cons (dl_var (pvN 3 ns__law_spoilt)) (da_cons dl_int (da_cons (DO.toL (do_callB gl__law_spoilt_len call_len c_len T.n_len bt_len (dab_cons (db_var (pvN 0 ns__law_spoilt)) dab_nil))) da_nil)))))))
      (ds_one (ds_ret (do_bin op_addD r_add (DO.toB (do_slice (db_var (pvN 0 ns__law_spoilt)) dp_none (dp_some (DO.toB (do_neg (DL.toB dl_int)))))) (DO.toB (do_lst (da_cons (DO.toL (do_ixA hr (DO.toB (do_lst (da_cons (DO.toL (do_tup (da_cons dl_str (da_cons dl_int da_nil)))) (da_cons (DO.toL (do_tup (da_cons dl_str (da_cons dl_int (da_cons (dl_var (pvN 10 ns__law_spoilt)) da_nil))))) (da_cons (DO.toL (do_tup (da_cons dl_str (da_cons (dl_var (pvN 10 ns__law_spoilt)) da_nil)))) (da_cons (DO.toL (do_tup (da_cons dl_str (da_cons dl_str (da_cons (dl_var (pvN 10 ns__law_spoilt)) da_nil))))) da_nil)))))) (DO.toB (do_callF gl__law_spoilt__law_part h__law_part (hr.mono (by decide)) (da_cons (dl_var (pvN 3 ns__law_spoilt)) (da_cons dl_int (da_cons dl_int da_nil))))))) da_nil))))))) ds_nil)
      (ds_cons (ds_if (dt_cmp (op_eqA hr) r_eq (db_var (pvN 5 ns__law_spoilt)) (DL.toB dl_int) (nomark _)) (ds_one (ds_ret (do_lst da_nil))) ds_nil)
      (ds_one (ds_ret (do_bin op_addD r_add (DO.toB (do_bin op_addD r_add (DO.toB (do_slice (db_var (pvN 0 ns__law_spoilt)) dp_none (dp_some (db_var (pvN 4 ns__law_spoilt))))) (DO.toB (do_lst (da_cons (DO.toL (do_ixA hr (db_var (pvN 9 ns__law_spoilt)) (db_var (pvN 5 ns__law_spoilt)))) da_nil))))) (DO.toB (do_slice (db_var (pvN 0 ns__law_spoilt)) (dp_some (DO.toB (do_bin op_addD r_add (db_var (pvN 4 ns__law_spoilt)) (DL.toB dl_int)))) dp_none)))))))))))))))
noncomputable abbrev s__law_whole : Stmt := top 25
theorem sc__law_whole : FnScope ["_law_found"] ["_law_found"] (defScope s__law_whole) := fnS (by decide +kernel)
theorem ns__law_whole : nsOk (defScope s__law_whole) ["_law_found"] = true := by decide +kernel
theorem gl__law_whole_isinstance : glOk (defScope s__law_whole) "isinstance" = true := by decide +kernel
theorem gl__law_whole_bool : glOk (defScope s__law_whole) "bool" = true := by decide +kernel
theorem gl__law_whole_int : glOk (defScope s__law_whole) "int" = true := by decide +kernel
theorem ok__law_whole (T : Txt P w K mg) (D : DefF K mg "_law_whole" s__law_whole ["_law_found"]) : OkF P w K mg base "_law_whole" 1 ["_law_found"] (spD K 1 F__law_whole) :=
  mk_ok D sc__law_whole rfl fun f cdv A outer s H E hr => (ds_one (ds_ret (do_and (DO.toB (do_isinst gl__law_whole_isinstance gl__law_whole_int T.n_isinstance T.n_int bt_int T.k_int (db_var (pvN 0 ns__law_whole)))) (do_one (do_not (DO.toB (do_isinst gl__law_whole_isinstance gl__law_whole_bool T.n_isinstance T.n_bool bt_bool T.k_bool (db_var (pvN 0 ns__law_whole)))))))))
noncomputable abbrev s_ways_of : Stmt := top 8
theorem sc_ways_of : FnScope ["number", "row"] ["number", "row"] (defScope s_ways_of) := fnS (by decide +kernel)
theorem ns_ways_of : nsOk (defScope s_ways_of) ["number", "row"] = true := by decide +kernel
theorem ok_ways_of (T : Txt P w K mg) (D : DefF K mg "ways_of" s_ways_of ["number", "row"]) : OkF P w K mg base "ways_of" 1 ["number", "row"] (spD K 2 F_ways_of) :=
  mk_ok D sc_ways_of rfl fun f cdv A outer s H E hr => (ds_cons (ds_if (dt_cmp (op_eqA hr) r_eq (DO.toB (do_ixA hr (db_var (pvN 1 ns_ways_of)) (DL.toB dl_int))) (DL.toB dl_str) (nomark _)) (ds_one (ds_ret (do_tup (da_cons (DO.toL (do_ixA hr (db_var (pvN 1 ns_ways_of)) (DL.toB dl_int))) da_nil)))) ds_nil)
      (ds_cons (ds_if (dt_cmp (op_eqA hr) r_eq (DO.toB (do_ixA hr (db_var (pvN 1 ns_ways_of)) (DL.toB dl_int))) (DL.toB dl_str) (nomark _)) (ds_one (ds_ret (do_tup (da_cons (DO.toL (do_ixA hr (db_var (pvN 1 ns_ways_of)) (DL.toB dl_int))) (da_cons (DO.toL (do_bin op_addD r_add (db_var (pvN 0 ns_ways_of)) (DL.toB dl_int))) da_nil))))) ds_nil)
      (ds_cons (ds_if (dt_cmp (op_eqA hr) r_eq (DO.toB (do_ixA hr (db_var (pvN 1 ns_ways_of)) (DL.toB dl_int))) (DL.toB dl_str) (nomark _)) (ds_one (ds_ret (do_tup da_nil))) ds_nil)
      (ds_one (ds_ret (do_tup (da_cons (DO.toL (do_bin op_addD r_add (db_var (pvN 0 ns_ways_of)) (DL.toB dl_int))) da_nil)))))))
noncomputable abbrev s_ways : Stmt := top 9
theorem sc_ways : FnScope ["program"] ["program"] (defScope s_ways) := fnS (by decide +kernel)
theorem ns_ways : nsOk (defScope s_ways) ["program"] = true := by decide +kernel
theorem gl_ways_enumerate : glOk (defScope s_ways) "enumerate" = true := by decide +kernel
theorem ok_ways (T : Txt P w K mg) (D : DefF K mg "ways" s_ways ["program"]) (h_ways_of : OkF P w K mg base "ways_of" 1 ["number", "row"] (spD K 2 (F_ways_of))) : OkF P w K mg base "ways" 2 ["program"] (spD K 1 F_ways) :=
  mk_ok D sc_ways rfl fun f cdv A outer s H E hr => (ds_one (ds_ret (do_comp (M := ["number", "row"]) (src := [none, none]) (ts := [0, 1]) (CmpScope.of (by kernel_rfl)) rfl (DIF.toB (di_enumerate gl_ways_enumerate T.n_enumerate (da_cons (DO.toL (do_ixA hr (db_var (pvN 0 ns_ways)) (DL.toB dl_int))) da_nil))) (fun nd _ _ _ _ => (dg_tup rfl (dgs_cons (dg_name (pg_nameC (N := ["number", "row"]) (i := 0) (by decide +kernel) (by decide +kernel) nd (scC (outer := defScope s_ways) (by exact rfl)))) (dgs_cons (dg_name (pg_nameC (N := ["number", "row"]) (i := 1) (by decide +kernel) (by decide +kernel) nd (scC (outer := defScope s_ways) (by exact rfl)))) dgs_nil)))) (fun _ _ _ _ => dts_nil) (fun _ _ _ _ => (DO.toL (do_callF (by decide +kernel) h_ways_of (hr.mono (by decide)) (da_cons (dl_var (pvX (by kernel_rfl))) (da_cons (dl_var (pvX (by kernel_rfl))) da_nil)) (e1 := (scC (outer := defScope s_ways) rfl))))) (by decide +kernel))))
noncomputable abbrev s_refuse_falls : Stmt := top 15
theorem sc_refuse_falls : FnScope ["program", "count", "number", "onward"] ["program"] (defScope s_refuse_falls) := fnS (by decide +kernel)
theorem ns_refuse_falls : nsOk (defScope s_refuse_falls) ["program", "count", "number", "onward"] = true := by decide +kernel
theorem gl_refuse_falls_len : glOk (defScope s_refuse_falls) "len" = true := by decide +kernel
theorem gl_refuse_falls_Falls : glOk (defScope s_refuse_falls) "Falls" = true := by decide +kernel
theorem gl_refuse_falls_ways : glOk (defScope s_refuse_falls) "ways" = true := by decide +kernel
theorem gl_refuse_falls_enumerate : glOk (defScope s_refuse_falls) "enumerate" = true := by decide +kernel
theorem gl_refuse_falls_any : glOk (defScope s_refuse_falls) "any" = true := by decide +kernel
theorem ok_refuse_falls (T : Txt P w K mg) (D : DefF K mg "refuse_falls" s_refuse_falls ["program"]) (h_Falls____init__ : OkX P w K mg base "Falls" 1 ["row"]) (h_ways : OkF P w K mg base "ways" 2 ["program"] (spD K 1 (F_ways))) : OkFX P w K mg base "refuse_falls" 3 ["program"] (spX K 1 F_refuse_falls) :=
  mk_okX D sc_refuse_falls rfl fun f cdv A outer s H E hr => (dx_cons (dx1_of (dsN ns_refuse_falls sc_refuse_falls.nd (DL.toO (DO.toL (do_callB gl_refuse_falls_len call_len c_len T.n_len bt_len (dab_cons (DO.toB (do_ixA hr (db_var (pvN 0 ns_refuse_falls)) (DL.toB dl_int))) dab_nil))))))
      (dx_cons (dx_if (dt_cmp (op_eqA hr) r_eq (db_var (pvN 1 ns_refuse_falls)) (DL.toB dl_int) (nomark _)) (dx_one (dx_raise gl_refuse_falls_Falls h_Falls____init__ (hr.mono (by decide)) (da_cons dl_int da_nil))) (dx_of ds_nil))
      (dx_one (dx_for PassesOwn.leaving rfl (di_enumerate gl_refuse_falls_enumerate T.n_enumerate (da_cons (DO.toL (do_callF gl_refuse_falls_ways h_ways (hr.mono (by decide)) (da_cons (dl_var (pvN 0 ns_refuse_falls)) da_nil))) da_nil)) (dg_tup rfl (dgs_cons (dg_name (pg_nameD (nsN ns_refuse_falls 2) (nsL ns_refuse_falls 2) sc_refuse_falls.nd)) (dgs_cons (dg_name (pg_nameD (nsN ns_refuse_falls 3) (nsL ns_refuse_falls 3) sc_refuse_falls.nd)) dgs_nil))) (dx_one (dx_if (dt_truth (DO.toB (do_callB gl_refuse_falls_any (call_any rfl) (c_all (f := fun bs => bs.any id)) T.n_any bt_any (dab_cons (DO.toB (doC ["way", "count"] (by kernel_rfl) (dib_seq (db_var (pvN 3 ns_refuse_falls))) (fun _ _ _ _ => dts_nil) (fun _ _ _ _ => (DO.toL (do_cmp op_ge r_cmp (db_var (pvX (by kernel_rfl))) (db_var (pvX (by kernel_rfl))) (nomark _)))))) dab_nil))) (fun _ => rfl)) (dx_one (dx_raise gl_refuse_falls_Falls h_Falls____init__ (hr.mono (by decide)) (da_cons (dl_var (pvN 2 ns_refuse_falls)) da_nil))) (dx_of ds_nil)))))))
noncomputable abbrev s_unknown_word : Stmt := top 13
theorem sc_unknown_word : FnScope ["row", "cells", "shelves", "word"] ["row", "cells", "shelves"] (defScope s_unknown_word) := fnS (by decide +kernel)
theorem ns_unknown_word : nsOk (defScope s_unknown_word) ["row", "cells", "shelves", "word"] = true := by decide +kernel
theorem gl_unknown_word_CELL_PLACES : glOk (defScope s_unknown_word) "CELL_PLACES" = true := by decide +kernel
theorem gl_unknown_word_SHELF_PLACES : glOk (defScope s_unknown_word) "SHELF_PLACES" = true := by decide +kernel
theorem ok_unknown_word (T : Txt P w K mg) (D : DefF K mg "unknown_word" s_unknown_word ["row", "cells", "shelves"]) : OkF P w K mg base "unknown_word" 1 ["row", "cells", "shelves"] (spD K 3 F_unknown_word) :=
  mk_ok D sc_unknown_word rfl fun f cdv A outer s H E hr => (ds_cons (ds_if (dt_si gl_unknown_word_CELL_PLACES T.g_CELL_PLACES (DO.toB (do_ixA hr (db_var (pvN 0 ns_unknown_word)) (DL.toB dl_int)))) (ds_cons (dsN ns_unknown_word sc_unknown_word.nd (DL.toO (DO.toL (do_ixA hr (db_var (pvN 0 ns_unknown_word)) (DO.toB (do_sg gl_unknown_word_CELL_PLACES T.g_CELL_PLACES (DO.toB (do_ixA hr (db_var (pvN 0 ns_unknown_word)) (DL.toB dl_int)))))))))
      (ds_one (ds_ret (do_if (dt_in hr (db_var (pvN 3 ns_unknown_word)) (db_var (pvN 1 ns_unknown_word))) (DL.toO dl_non) (DL.toO (dl_var (pvN 3 ns_unknown_word))))))) ds_nil)
      (ds_cons (ds_if (dt_si gl_unknown_word_SHELF_PLACES T.g_SHELF_PLACES (DO.toB (do_ixA hr (db_var (pvN 0 ns_unknown_word)) (DL.toB dl_int)))) (ds_cons (dsN ns_unknown_word sc_unknown_word.nd (DL.toO (DO.toL (do_ixA hr (db_var (pvN 0 ns_unknown_word)) (DO.toB (do_sg gl_unknown_word_SHELF_PLACES T.g_SHELF_PLACES (DO.toB (do_ixA hr (db_var (pvN 0 ns_unknown_word)) (DL.toB dl_int)))))))))
      (ds_one (ds_ret (do_if (dt_in hr (db_var (pvN 3 ns_unknown_word)) (db_var (pvN 2 ns_unknown_word))) (DL.toO dl_non) (DL.toO (dl_var (pvN 3 ns_unknown_word))))))) ds_nil)
      (ds_one (ds_ret (DL.toO dl_non)))))
noncomputable abbrev s_refuse_unknown : Stmt := top 14
theorem sc_refuse_unknown : FnScope ["program", "cells", "shelves", "number", "row", "word"] ["program"] (defScope s_refuse_unknown) := fnS (by decide +kernel)
theorem ns_refuse_unknown : nsOk (defScope s_refuse_unknown) ["program", "cells", "shelves", "number", "row", "word"] = true := by decide +kernel
theorem gl_refuse_unknown_enumerate : glOk (defScope s_refuse_unknown) "enumerate" = true := by decide +kernel
theorem gl_refuse_unknown_unknown_word : glOk (defScope s_refuse_unknown) "unknown_word" = true := by decide +kernel
theorem gl_refuse_unknown_Unknown : glOk (defScope s_refuse_unknown) "Unknown" = true := by decide +kernel
theorem ok_refuse_unknown (T : Txt P w K mg) (D : DefF K mg "refuse_unknown" s_refuse_unknown ["program"]) (h_Unknown____init__ : OkX P w K mg base "Unknown" 1 ["word", "row"]) (h_unknown_word : OkF P w K mg base "unknown_word" 1 ["row", "cells", "shelves"] (spD K 3 (F_unknown_word))) : OkFX P w K mg base "refuse_unknown" 3 ["program"] (spX K 1 F_refuse_unknown) :=
  mk_okX D sc_refuse_unknown rfl fun f cdv A outer s H E hr => (dx_cons (dx1_of (ds_setCf (nsN ns_refuse_unknown 1) (nsL ns_refuse_unknown 1) sc_refuse_unknown.nd (M := ["head"]) (src := [none]) (ts := [0]) (CmpScope.of (by kernel_rfl)) rfl (dib_seq (DO.toB (do_ixA hr (db_var (pvN 0 ns_refuse_unknown)) (DL.toB dl_int)))) (fun nd _ _ _ _ => (dg_name (pg_nameC (N := ["head"]) (i := 0) (by decide +kernel) (by decide +kernel) nd (scC (outer := defScope s_refuse_unknown) (by exact rfl))))) (fun _ _ _ _ => dts_nil) (fun _ _ _ _ => (DO.toL (do_ixA hr (db_var (pvX (by kernel_rfl))) (DL.toB dl_int)))) (by decide +kernel)))
      (dx_cons (dx1_of (ds_setCf (nsN ns_refuse_unknown 2) (nsL ns_refuse_unknown 2) sc_refuse_unknown.nd (M := ["head"]) (src := [none]) (ts := [0]) (CmpScope.of (by kernel_rfl)) rfl (dib_seq (DO.toB (do_ixA hr (db_var (pvN 0 ns_refuse_unknown)) (DL.toB dl_int)))) (fun nd _ _ _ _ => (dg_name (pg_nameC (N := ["head"]) (i := 0) (by decide +kernel) (by decide +kernel) nd (scC (outer := defScope s_refuse_unknown) (by exact rfl))))) (fun _ _ _ _ => dts_nil) (fun _ _ _ _ => (DO.toL (do_ixA hr (db_var (pvX (by kernel_rfl))) (DL.toB dl_int)))) (by decide +kernel)))
      (dx_one (dx_for PassesOwn.leaving rfl (di_enumerate gl_refuse_unknown_enumerate T.n_enumerate (da_cons (DO.toL (do_ixA hr (db_var (pvN 0 ns_refuse_unknown)) (DL.toB dl_int))) da_nil)) (dg_tup rfl (dgs_cons (dg_name (pg_nameD (nsN ns_refuse_unknown 3) (nsL ns_refuse_unknown 3) sc_refuse_unknown.nd)) (dgs_cons (dg_name (pg_nameD (nsN ns_refuse_unknown 4) (nsL ns_refuse_unknown 4) sc_refuse_unknown.nd)) dgs_nil))) (dx_cons (dx1_of (dsN ns_refuse_unknown sc_refuse_unknown.nd (DL.toO (DO.toL (do_callF gl_refuse_unknown_unknown_word h_unknown_word (hr.mono (by decide)) (da_cons (dl_var (pvN 4 ns_refuse_unknown)) (da_cons (dl_var (pvN 1 ns_refuse_unknown)) (da_cons (dl_var (pvN 2 ns_refuse_unknown)) da_nil))))))))
      (dx_one (dx_if (dt_cmp op_notN r_isnot (db_var (pvN 5 ns_refuse_unknown)) (DL.toB dl_non) (nomark _)) (dx_one (dx_raise gl_refuse_unknown_Unknown h_Unknown____init__ (hr.mono (by decide)) (da_cons (dl_var (pvN 5 ns_refuse_unknown)) (da_cons (dl_var (pvN 3 ns_refuse_unknown)) da_nil)))) (dx_of ds_nil))))))))
noncomputable abbrev s_look : Stmt := top 16
theorem sc_look : FnScope ["program"] ["program"] (defScope s_look) := fnS (by decide +kernel)
theorem ns_look : nsOk (defScope s_look) ["program"] = true := by decide +kernel
theorem gl_look_refuse_unknown : glOk (defScope s_look) "refuse_unknown" = true := by decide +kernel
theorem gl_look_refuse_falls : glOk (defScope s_look) "refuse_falls" = true := by decide +kernel
theorem ok_look (T : Txt P w K mg) (D : DefF K mg "look" s_look ["program"]) (h_refuse_falls : OkFX P w K mg base "refuse_falls" 3 ["program"] (spX K 1 F_refuse_falls)) (h_refuse_unknown : OkFX P w K mg base "refuse_unknown" 3 ["program"] (spX K 1 F_refuse_unknown)) : OkFX P w K mg base "look" 4 ["program"] (spX K 1 F_look) :=
  mk_okX D sc_look rfl fun f cdv A outer s H E hr => (dx_cons (dx_call gl_look_refuse_unknown h_refuse_unknown (hr.mono (by decide)) (da_cons (dl_var (pvN 0 ns_look)) da_nil))
      (dx_cons (dx_call gl_look_refuse_falls h_refuse_falls (hr.mono (by decide)) (da_cons (dl_var (pvN 0 ns_look)) da_nil))
      (dx_one (dx1_of (ds_ret (DL.toO dl_bl))))))
noncomputable abbrev s__law_told : Stmt := top 26
theorem sc__law_told : FnScope ["_law_program", "_law_caught", "_law_found", "e"] ["_law_program"] (defScope s__law_told) := fnS (by decide +kernel)
theorem ns__law_told : nsOk (defScope s__law_told) ["_law_program", "_law_caught", "_law_found", "e"] = true := by decide +kernel
theorem gl__law_told_look : glOk (defScope s__law_told) "look" = true := by decide +kernel
theorem gl__law_told_DimError : glOk (defScope s__law_told) "DimError" = true := by decide +kernel
theorem gl__law_told_int : glOk (defScope s__law_told) "int" = true := by decide +kernel
theorem gl__law_told_isinstance : glOk (defScope s__law_told) "isinstance" = true := by decide +kernel
theorem gl__law_told_BadLine : glOk (defScope s__law_told) "BadLine" = true := by decide +kernel
theorem gl__law_told_Twice : glOk (defScope s__law_told) "Twice" = true := by decide +kernel
theorem gl__law_told_NoLabel : glOk (defScope s__law_told) "NoLabel" = true := by decide +kernel
theorem gl__law_told_ValueError : glOk (defScope s__law_told) "ValueError" = true := by decide +kernel
theorem gl__law_told__law_whole : glOk (defScope s__law_told) "_law_whole" = true := by decide +kernel
theorem gl__law_told_Unknown : glOk (defScope s__law_told) "Unknown" = true := by decide +kernel
theorem gl__law_told_Falls : glOk (defScope s__law_told) "Falls" = true := by decide +kernel
theorem ok__law_told (T : Txt P w K mg) (D : DefF K mg "_law_told" s__law_told ["_law_program"]) (h__law_whole : OkF P w K mg base "_law_whole" 1 ["_law_found"] (spD K 1 (F__law_whole))) (h_look : OkFX P w K mg base "look" 4 ["program"] (spX K 1 F_look)) : OkF P w K mg base "_law_told" 5 ["_law_program"] (spD K 1 F__law_told) :=
  mk_ok D sc__law_told rfl fun f cdv A outer s H E hr => (ds_cons (dsN ns__law_told sc__law_told.nd (DL.toO dl_non))
      (ds_cons (dsN ns__law_told sc__law_told.nd (DL.toO dl_non))
      (ds_cons (ds_tryW T.xw gl__law_told_look h_look (hr.mono (by decide)) (da_cons (dl_var (pvN 0 ns__law_told)) da_nil) gl__law_told_DimError sc__law_told.nd (nsN ns__law_told 2) (nsL ns__law_told 2) (nsN ns__law_told 3) (by decide +kernel) (nsN ns__law_told 1) (nsL ns__law_told 1) (by decide))
      (ds_cons (ds_if (dt_xnone (pvN 1 ns__law_told)) (ds_one (ds_ret (do_ixA hr (DO.toB (do_lst (da_cons (DO.toL (do_lst (da_cons dl_str da_nil))) (da_cons (DO.toL (do_lst (da_cons dl_str da_nil))) da_nil)))) (DO.toB (do_callT gl__law_told_int call_intA c_int T.n_int bt_int (dab_cons (DO.toB (do_cmp op_isB r_isB (db_var (pvN 2 ns__law_told)) (DL.toB dl_bl) (nomark _))) dab_nil)))))) ds_nil)
      (ds_cons (ds_if (DW.t (dw_or (dt_not (dt_truth (DO.toB (do_xisV T.xw gl__law_told_isinstance T.n_isinstance gl__law_told_ValueError T.n_ValueError bt_ValueError (do_xvar (pvN 1 ns__law_told)))) (fun _ => rfl))) (dw_or1 (dt_truth (DO.toB (do_xis3 T.xw gl__law_told_isinstance T.n_isinstance gl__law_told_BadLine gl__law_told_Twice gl__law_told_NoLabel (by decide +kernel) (do_xvar (pvN 1 ns__law_told)))) (fun _ => rfl))))) (ds_one (ds_ret (do_lst (da_cons dl_str da_nil)))) ds_nil)
      (ds_cons (ds_if (DW.t (dw_or (dt_cmp (op_eqA hr) r_eq (DO.toB (do_xisO T.xw gl__law_told_isinstance T.n_isinstance gl__law_told_Unknown (by decide +kernel) (do_xvar (pvN 1 ns__law_told)))) (DO.toB (do_xisO T.xw gl__law_told_isinstance T.n_isinstance gl__law_told_Falls (by decide +kernel) (do_xvar (pvN 1 ns__law_told)))) (nomark _)) (dw_or1 (dt_not (dt_truth (DO.toB (do_callF gl__law_told__law_whole h__law_whole (hr.mono (by decide)) (da_cons (dl_xat (do_xvar (pvN 1 ns__law_told))) da_nil))) (fun _ => rfl)))))) (ds_one (ds_ret (do_lst (da_cons dl_str da_nil)))) ds_nil)
      (ds_cons (ds_if (dt_truth (DO.toB (do_xisO T.xw gl__law_told_isinstance T.n_isinstance gl__law_told_Falls (by decide +kernel) (do_xvar (pvN 1 ns__law_told)))) (fun _ => rfl)) (ds_one (ds_ret (do_lst (da_cons dl_str (da_cons (dl_xat (do_xvar (pvN 1 ns__law_told))) da_nil))))) ds_nil)
      (ds_one (ds_ret (do_lst (da_cons dl_str (da_cons (dl_xat (do_xvar (pvN 1 ns__law_told))) (da_cons (dl_xat (do_xvar (pvN 1 ns__law_told))) da_nil)))))))))))))
noncomputable abbrev s_law : Stmt := top 28
theorem sc_law : FnScope ["_law_script", "_law_cell_here", "_law_base", "_law_sizes", "_law_many", "_law_cells", "_law_shelves", "_law_rows", "_law_k", "_law_told_here", "_law_kept", "_law_program", "_law_due_here"] ["_law_script"] (defScope s_law) := fnS (by decide +kernel)
theorem ns_law : nsOk (defScope s_law) ["_law_script", "_law_cell_here", "_law_base", "_law_sizes", "_law_many", "_law_cells", "_law_shelves", "_law_rows", "_law_k", "_law_told_here", "_law_kept", "_law_program", "_law_due_here"] = true := by decide +kernel
theorem gl_law__law_cell : glOk (defScope s_law) "_law_cell" = true := by decide +kernel
theorem gl_law__law_part : glOk (defScope s_law) "_law_part" = true := by decide +kernel
theorem gl_law_range : glOk (defScope s_law) "range" = true := by decide +kernel
theorem gl_law__law_spoilt : glOk (defScope s_law) "_law_spoilt" = true := by decide +kernel
theorem gl_law_enumerate : glOk (defScope s_law) "enumerate" = true := by decide +kernel
theorem gl_law_tuple : glOk (defScope s_law) "tuple" = true := by decide +kernel
theorem gl_law__law_due : glOk (defScope s_law) "_law_due" = true := by decide +kernel
theorem gl_law__law_name : glOk (defScope s_law) "_law_name" = true := by decide +kernel
theorem gl_law__law_made : glOk (defScope s_law) "_law_made" = true := by decide +kernel
theorem gl_law_look : glOk (defScope s_law) "look" = true := by decide +kernel
theorem gl_law__law_told : glOk (defScope s_law) "_law_told" = true := by decide +kernel
theorem ok_law {f : Addr} {fd : FuncData} (T : Txt P w K mg) (D : Fun K "law" "law" s_law f fd) (h__law_cell : OkF P w K mg base "_law_cell" 1 ["_law_script", "_law_k"] (spD K 2 (F__law_cell))) (h__law_due : OkF P w K mg base "_law_due" 2 ["_law_cells", "_law_shelves", "_law_rows"] (spD K 3 (F__law_due))) (h__law_made : OkF P w K mg base "_law_made" 3 ["_law_word_here", "_law_number"] (spD K 2 (F__law_made))) (h__law_name : OkF P w K mg base "_law_name" 2 ["_law_base", "_law_k"] (spD K 2 (F__law_name))) (h__law_part : OkF P w K mg base "_law_part" 1 ["_law_cell_here", "_law_j", "_law_many"] (spD K 3 (F__law_part))) (h__law_row : OkF P w K mg base "_law_row" 3 ["_law_cell_here", "_law_base", "_law_sizes", "_law_many"] (spD K 4 (F__law_row))) (h__law_spoilt : OkF P w K mg base "_law_spoilt" 3 ["_law_rows", "_law_sizes", "_law_base", "_law_cell_here"] (spD K 4 (F__law_spoilt))) (h__law_told : OkF P w K mg base "_law_told" 5 ["_law_program"] (spD K 1 (F__law_told))) (h_look : OkFX P w K mg base "look" 4 ["program"] (spX K 1 F_look)) : FnOk P w K mg base CX0 6 f fd ["_law_script"] (spD K 1 F_law) :=
  fn_ok D sc_law rfl fun cdv A outer s H E hr => (ds_cons (dsN ns_law sc_law.nd (DL.toO (DO.toL (do_callF gl_law__law_cell h__law_cell (hr.mono (by decide)) (da_cons (dl_var (pvN 0 ns_law)) (da_cons dl_int da_nil))))))
      (ds_cons (dsN ns_law sc_law.nd (DL.toO (DO.toL (do_callF gl_law__law_cell h__law_cell (hr.mono (by decide)) (da_cons (dl_var (pvN 0 ns_law)) (da_cons dl_int da_nil))))))
      (ds_cons (dsN ns_law sc_law.nd (DL.toO (DO.toL (do_lst (da_cons (DO.toL (do_callF gl_law__law_part h__law_part (hr.mono (by decide)) (da_cons (dl_var (pvN 1 ns_law)) (da_cons dl_int (da_cons dl_int da_nil))))) (da_cons (DO.toL (do_callF gl_law__law_part h__law_part (hr.mono (by decide)) (da_cons (dl_var (pvN 1 ns_law)) (da_cons dl_int (da_cons dl_int da_nil))))) da_nil))))))
      (ds_cons (dsN ns_law sc_law.nd (DL.toO (DO.toL (do_bin op_addD r_add (DL.toB dl_int) (DO.toB (do_callF gl_law__law_part h__law_part (hr.mono (by decide)) (da_cons (dl_var (pvN 1 ns_law)) (da_cons dl_int (da_cons dl_int da_nil)))))))))
      (ds_cons (ds_if (dt_cmp (op_eqA hr) r_eq (DO.toB (do_callF gl_law__law_part h__law_part (hr.mono (by decide)) (da_cons (dl_var (pvN 1 ns_law)) (da_cons dl_int (da_cons dl_int da_nil))))) (DL.toB dl_int) (nomark _)) (ds_one (dsN ns_law sc_law.nd (DL.toO (DO.toL (do_bin op_addD r_add (DL.toB dl_int) (DO.toB (do_callF gl_law__law_part h__law_part (hr.mono (by decide)) (da_cons (dl_var (pvN 1 ns_law)) (da_cons dl_int (da_cons dl_int da_nil)))))))))) ds_nil)
      (ds_cons (ds_setCf (nsN ns_law 5) (nsL ns_law 5) sc_law.nd (M := ["_law_k", "_law_base"]) (src := [none, some 2]) (ts := [0]) (CmpScope.of (by kernel_rfl)) rfl (DIF.toB (di_range1 gl_law_range T.n_range (da_cons (DO.toL (do_ixA hr (db_var (pvN 3 ns_law)) (DL.toB dl_int))) da_nil))) (fun nd _ _ _ _ => (dg_name (pg_nameC (N := ["_law_k", "_law_base"]) (i := 0) (by decide +kernel) (by decide +kernel) nd (scC (outer := defScope s_law) (by exact rfl))))) (fun _ _ _ _ => dts_nil) (fun _ _ _ _ => (DO.toL (do_callF (by decide +kernel) h__law_name (hr.mono (by decide)) (da_cons (dl_var (pvX (by kernel_rfl))) (da_cons (dl_var (pvX (by kernel_rfl))) da_nil)) (e1 := (scC (outer := defScope s_law) rfl))))) (by decide +kernel))
      (ds_cons (ds_setCf (nsN ns_law 6) (nsL ns_law 6) sc_law.nd (M := ["_law_k", "_law_base"]) (src := [none, some 2]) (ts := [0]) (CmpScope.of (by kernel_rfl)) rfl (DIF.toB (di_range1 gl_law_range T.n_range (da_cons (DO.toL (do_ixA hr (db_var (pvN 3 ns_law)) (DL.toB dl_int))) da_nil))) (fun nd _ _ _ _ => (dg_name (pg_nameC (N := ["_law_k", "_law_base"]) (i := 0) (by decide +kernel) (by decide +kernel) nd (scC (outer := defScope s_law) (by exact rfl))))) (fun _ _ _ _ => dts_nil) (fun _ _ _ _ => (DO.toL (do_callF (by decide +kernel) h__law_name (hr.mono (by decide)) (da_cons (dl_var (pvX (by kernel_rfl))) (da_cons (DO.toL (do_bin op_addD r_add (DL.toB dl_int) (db_var (pvX (by kernel_rfl))))) da_nil)) (e1 := (scC (outer := defScope s_law) rfl))))) (by decide +kernel))
      (ds_cons (ds_setC (nsN ns_law 7) (nsL ns_law 7) sc_law.nd (M := ["_law_k", "_law_script", "_law_base", "_law_sizes", "_law_many"]) (src := [none, some 0, some 2, some 3, some 4]) (ts := [0]) (CmpScope.of (by kernel_rfl)) rfl (DIF.toB (di_range1 gl_law_range T.n_range (da_cons (dl_var (pvN 4 ns_law)) da_nil))) (fun nd _ _ _ _ => (dg_name (pg_nameC (N := ["_law_k", "_law_script", "_law_base", "_law_sizes", "_law_many"]) (i := 0) (by decide +kernel) (by decide +kernel) nd (scC (outer := defScope s_law) (by exact rfl))))) (fun _ _ _ _ => dts_nil) (fun _ _ _ _ => (DO.toL (do_callF (by decide +kernel) h__law_row (hr.mono (by decide)) (da_cons (DO.toL (do_callF (by decide +kernel) h__law_cell (hr.mono (by decide)) (da_cons (dl_var (pvX (by kernel_rfl))) (da_cons (DO.toL (do_bin op_addD r_add (DL.toB dl_int) (db_var (pvX (by kernel_rfl))))) da_nil)) (e1 := (scC (outer := defScope s_law) rfl)))) (da_cons (dl_var (pvX (by kernel_rfl))) (da_cons (dl_var (pvX (by kernel_rfl))) (da_cons (dl_var (pvX (by kernel_rfl))) da_nil)))) (e1 := (scC (outer := defScope s_law) rfl))))) (by decide +kernel))
      (ds_cons (ds_append (pvN 7 ns_law) (DO.toL (do_ixA hr (DO.toB (do_lst (da_cons (DO.toL (do_tup (da_cons dl_str (da_cons dl_int da_nil)))) (da_cons (DO.toL (do_tup (da_cons dl_str (da_cons (DO.toL (do_callF gl_law__law_part h__law_part (hr.mono (by decide)) (da_cons (dl_var (pvN 1 ns_law)) (da_cons dl_int (da_cons (DO.toL (do_bin op_addD r_add (db_var (pvN 4 ns_law)) (DL.toB dl_int))) da_nil))))) da_nil)))) (da_cons (DO.toL (do_tup (da_cons dl_str (da_cons dl_int da_nil)))) da_nil))))) (DO.toB (do_callF gl_law__law_part h__law_part (hr.mono (by decide)) (da_cons (dl_var (pvN 1 ns_law)) (da_cons dl_int (da_cons dl_int da_nil))))))))
      (ds_cons (ds_for PassesOwn.never rfl (di_range1 gl_law_range T.n_range (da_cons (DO.toL (do_callF gl_law__law_part h__law_part (hr.mono (by decide)) (da_cons (dl_var (pvN 1 ns_law)) (da_cons dl_int (da_cons dl_int da_nil))))) da_nil)) (dg_name (pg_nameD (nsN ns_law 8) (nsL ns_law 8) sc_law.nd)) (ds_one (ds1_frz (i := 7) (dsN ns_law sc_law.nd (do_callF gl_law__law_spoilt h__law_spoilt (hr.mono (by decide)) (da_cons (dl_var (pvN 7 ns_law)) (da_cons (dl_var (pvN 3 ns_law)) (da_cons (dl_var (pvN 2 ns_law)) (da_cons (DO.toL (do_callF gl_law__law_cell h__law_cell (hr.mono (by decide)) (da_cons (dl_var (pvN 0 ns_law)) (da_cons (DO.toL (do_bin op_addD r_add (DL.toB dl_int) (db_var (pvN 8 ns_law)))) da_nil)))) da_nil)))))))))
      (ds_cons (ds_setCf (nsN ns_law 9) (nsL ns_law 9) sc_law.nd (M := ["_law_name_here"]) (src := [none]) (ts := [0]) (CmpScope.of (by kernel_rfl)) rfl (dib_seq (db_var (pvN 5 ns_law))) (fun nd _ _ _ _ => (dg_name (pg_nameC (N := ["_law_name_here"]) (i := 0) (by decide +kernel) (by decide +kernel) nd (scC (outer := defScope s_law) (by exact rfl))))) (fun _ _ _ _ => dts_nil) (fun _ _ _ _ => (DO.toL (do_tup (da_cons (dl_var (pvX (by kernel_rfl))) (da_cons dl_int (da_cons (DO.toL (do_cmp (op_eqA hr) r_eq (DO.toB (do_bin op_mod r_mod (DO.toB (do_callB (by decide +kernel) call_len c_len T.n_len bt_len (dab_cons (db_var (pvX (by kernel_rfl))) dab_nil) (e1 := (scC (outer := defScope s_law) rfl)))) (DL.toB dl_int))) (DL.toB dl_int) (nomark _))) da_nil)))))) (by decide +kernel))
      (ds_cons (ds_setCf (nsN ns_law 10) (nsL ns_law 10) sc_law.nd (M := ["_law_k", "_law_name_here"]) (src := [none, none]) (ts := [0, 1]) (CmpScope.of (by kernel_rfl)) rfl (DIF.toB (di_enumerate gl_law_enumerate T.n_enumerate (da_cons (dl_var (pvN 6 ns_law)) da_nil))) (fun nd _ _ _ _ => (dg_tup rfl (dgs_cons (dg_name (pg_nameC (N := ["_law_k", "_law_name_here"]) (i := 0) (by decide +kernel) (by decide +kernel) nd (scC (outer := defScope s_law) (by exact rfl)))) (dgs_cons (dg_name (pg_nameC (N := ["_law_k", "_law_name_here"]) (i := 1) (by decide +kernel) (by decide +kernel) nd (scC (outer := defScope s_law) (by exact rfl)))) dgs_nil)))) (fun _ _ _ _ => dts_nil) (fun _ _ _ _ => (DO.toL (do_tup (da_cons (dl_var (pvX (by kernel_rfl))) (da_cons (DO.toL (do_bin op_addD r_add (DL.toB dl_int) (DO.toB (do_bin op_mod r_mod (db_var (pvX (by kernel_rfl))) (DL.toB dl_int))))) (da_cons (DO.toL (do_cmp (op_eqA hr) r_eq (DO.toB (do_bin op_mod r_mod (db_var (pvX (by kernel_rfl))) (DL.toB dl_int))) (DL.toB dl_int) (nomark _))) da_nil)))))) (by decide +kernel))
      (ds_cons (dsN ns_law sc_law.nd (DL.toO (DO.toL (do_tup (da_cons (DO.toL (do_callT gl_law_tuple call_tuple_of c_tuple T.n_tuple bt_tuple (dab_cons (db_var (pvN 9 ns_law)) dab_nil))) (da_cons (DO.toL (do_callT gl_law_tuple call_tuple_of c_tuple T.n_tuple bt_tuple (dab_cons (db_var (pvN 10 ns_law)) dab_nil))) (da_cons (DO.toL (do_callT gl_law_tuple call_tuple_of c_tuple T.n_tuple bt_tuple (dab_cons (db_var (pvN 7 ns_law)) dab_nil))) da_nil)))))))
      (ds_cons (ds1_frz (i := 7) (dsN ns_law sc_law.nd (DL.toO (DO.toL (do_callF gl_law__law_due h__law_due (hr.mono (by decide)) (da_cons (dl_var (pvN 5 ns_law)) (da_cons (dl_var (pvN 6 ns_law)) (da_cons (dl_var (pvN 7 ns_law)) da_nil))))))))
      (ds_cons (ds_if (dt_not (dt_truth (DO.toB (do_callF gl_law__law_made h__law_made (hr.mono (by decide)) (da_cons (DO.toL (do_callF gl_law__law_name h__law_name (hr.mono (by decide)) (da_cons (dl_var (pvN 2 ns_law)) (da_cons dl_int da_nil)))) (da_cons (DO.toL (do_callF gl_law__law_part h__law_part (hr.mono (by decide)) (da_cons (dl_var (pvN 1 ns_law)) (da_cons dl_int (da_cons dl_int da_nil))))) da_nil)))) (fun _ => rfl))) (ds_one (ds_ret (DL.toO dl_bl))) ds_nil)
      (ds_cons (ds_if (DW.t (dw_or (dt_cmp (op_neA hr) r_ne (DO.toB (do_callF gl_law__law_told h__law_told (hr.mono (by decide)) (da_cons (dl_var (pvN 11 ns_law)) da_nil))) (db_var (pvN 12 ns_law)) (nomark _)) (dw_or1 (dt_cmp op_isnotB r_isnotB (DO.toB (do_callX gl_law_look h_look (hr.mono (by decide)) (da_cons (DO.toL (do_tup (da_cons (DO.toL (do_tup da_nil)) (da_cons (DO.toL (do_tup da_nil)) (da_cons (DO.toL (do_tup (da_cons (DO.toL (do_tup (da_cons dl_str (da_cons dl_int da_nil)))) da_nil))) da_nil))))) da_nil))) (DL.toB dl_bl) (nomark _))))) (ds_one (ds_ret (DL.toO dl_bl))) ds_nil)
      (ds_one (ds_ret (do_cmp (op_eqA hr) r_eq (DO.toB (do_callF gl_law__law_told h__law_told (hr.mono (by decide)) (da_cons (dl_var (pvN 11 ns_law)) da_nil))) (db_var (pvN 12 ns_law)) (nomark _))))))))))))))))))))
end
end P14

namespace L2
open PySem PySem.Spec PyProof.Rows
theorem gAdd_i {i j : Int} : gAdd (.int i) (.int j) = some (.leaf (.int (i + j))) := rfl
theorem gAdd_l {l m : List Dt} (h : l.length + m.length ≤ sizeLine) : gAdd (.lst l) (.lst m) = some (.lst (l ++ m)) := if_pos h
theorem gMul_i {i j : Int} (h : mulOk i j = true) : gMul (.int i) (.int j) = some (.leaf (.int (i * j))) := if_pos h
theorem gMod_i {i j : Int} (h : 0 < j) : gMod (.int i) (.int j) = some (.leaf (.int (i % j))) := if_pos h
theorem gPow_i {i j : Int} (h : powOk i j = true) : gPow (.int i) (.int j) = some (.leaf (.int (i ^ j.toNat))) := if_pos h
theorem powOk_40 : powOk 2 40 = true := by decide
@[irreducible] def wide : Int := 1099511627776
theorem wide_eq : wide = 1099511627776 := by unfold wide; rfl
theorem gPow_40 : gPow (.int 2) (.int 40) = some (.leaf (.int wide)) := by
  rw [gPow_i powOk_40, wide_eq]
  rfl
theorem wide_pos : (0 : Int) < wide := by rw [wide_eq]; decide
theorem gMod_w {i : Int} : gMod (.int i) (.int wide) = some (.leaf (.int (i % wide))) := gMod_i wide_pos
theorem gCmp_i {f : Int → Int → Bool} {i j : Int} : gCmp f (.int i) (.int j) = some (.leaf (.bl (f i j))) := rfl
theorem eqD_l {l m : List Dt} (h : (cmpbs l m && decide (deeps l ≤ 59)) = true) : eqD (.lst l) (.lst m) = some (peqs l m) := if_pos h
theorem gEq_of {neg : Bool} {x y : Dt} {b : Bool} (h : eqD x y = some b) : gEq neg x y = some (.leaf (.bl (if neg then !b else b))) := by
  unfold gEq
  rw [h]
  rfl
theorem gEq_ii {i j : Int} : gEq false (.int i) (.int j) = some (.leaf (.bl (decide (i = j)))) := rfl
theorem gEq_ss {i j : Str} : gEq false (.str i) (.str j) = some (.leaf (.bl (decide (i = j)))) := rfl
theorem gIx_l {l : List Dt} {i : Int} : gIxA (.lst l) (.int i) = (atI l i).map .leaf := rfl
theorem gIx_t {l : List Dt} {i : Int} : gIxA (.tup l) (.int i) = (atI l i).map .leaf := rfl
theorem gIx_s {x : Str} {i : Int} (h : x.length ≤ sizeLine) : gIxA (.str x) (.int i) = (atI x.cps.toList i).map fun c => .leaf (.str ⟨#[c]⟩) := if_pos h
theorem gIn_l {neg : Bool} {x : Dt} {l : List Dt} (h : (flatD x && l.all flatD) = true) : gInA neg x (.lst l) = some (.leaf (.bl (if neg then !(l.any fun y => eqF y x) else l.any fun y => eqF y x))) := by
  cases x <;> simp only [gInA, gIn, inD] <;> first | rw [if_pos h]; rfl | cases h
theorem gLen_l {l : List Dt} : gLen [.lst l] = some (.leaf (.int l.length)) := rfl
theorem rng1_i {j : Int} (h : rngOk j = true) : rng1 [.int j] = some (rangeD 0 j.toNat) := if_pos h
theorem rngOk_of {j : Int} (h0 : -1000000000 ≤ j) (h1 : j ≤ 1000000000) : rngOk j = true := by
  unfold rngOk
  simp only [Bool.and_eq_true, decide_eq_true_eq]
  omega
theorem rng1_n {n : Nat} (h : n ≤ 1000000000) : rng1 [.int n] = some (rangeD 0 n) := by
  rw [rng1_i (rngOk_of (by omega) (by omega))]
  rfl
theorem asB_b {b : Bool} : asB (.leaf (.bl b)) = some b := rfl
theorem small {n : Nat} (h : n ≤ 1000000) : n ≤ sizeLine := Nat.le_trans h (by decide)
theorem seq_nx {g1 g2 : De → Option Out} {δ δ' : De} (h : g1 δ = some (.nx δ')) : sSeq g1 g2 δ = g2 δ' := by
  unfold sSeq
  rw [h]
  rfl
theorem compL_map {bb : Dt → De → Option De} {ft : De → Option Bool} {fe : De → Option Dt} {δ : De} {f : Dt → Dt} : ∀ {ds : List Dt}, (∀ d ∈ ds, ∃ δ1, bb d δ = some δ1 ∧ ft δ1 = some true ∧ fe δ1 = some (f d)) → compL bb ft fe δ ds = some (ds.map f)
  | [], _ => rfl
  | d :: r, h => by
    obtain ⟨δ1, h1, h2, h3⟩ := h d List.mem_cons_self
    unfold compL
    rw [h1, Option.bind_some, h2, Option.bind_some, if_pos rfl, h3, Option.bind_some, compL_map fun e he => h e (List.mem_cons_of_mem _ he)]
    rfl
theorem mem_range {lo : Int} {n : Nat} {d : Dt} (h : d ∈ rangeD lo n) : ∃ i : Nat, i < n ∧ d = .int (lo + i) := by
  unfold rangeD at h
  obtain ⟨i, hi, rfl⟩ := List.mem_map.mp h
  exact ⟨i, List.mem_range.mp hi, rfl⟩
theorem range_len {lo : Int} {n : Nat} : (rangeD lo n).length = n := by simp [rangeD]
theorem atI_nat' {α : Type} {l : List α} {k : Nat} : atI l (k : Int) = l[k]? := by
  unfold atI ixN
  rw [if_pos (by omega)]
  by_cases h : k < l.length
  · rw [if_pos (by omega)]
    simp
  · rw [if_neg (by omega)]
    simp
    omega
theorem gMul_l {i j : Int} (h1 : -1000000000000000000 < i) (h2 : i < 1000000000000000000) : gMul (.int i) (.int j) = some (.leaf (.int (i * j))) := gMul_i (mulOk_l h1 h2)
theorem gMul_r {i j : Int} (h1 : -1000000000000000000 < j) (h2 : j < 1000000000000000000) : gMul (.int i) (.int j) = some (.leaf (.int (i * j))) := gMul_i (mulOk_r h1 h2)
noncomputable def thenO (o : Option Out) (g : De → Option Out) : Option Out := o.bind fun o => match o with
  | .nx δ' => g δ'
  | o => some o
theorem sSeq_d {g1 g2 : De → Option Out} {δ : De} : sSeq g1 g2 δ = thenO (g1 δ) g2 := rfl
theorem thenO_nx {δ : De} {g : De → Option Out} : thenO (some (.nx δ)) g = g δ := rfl
theorem thenO_rt {t : T} {g : De → Option Out} : thenO (some (.rt t)) g = some (.rt t) := rfl
noncomputable def finO : Option Out → Option T
  | some (.rt t) => some t
  | some (.nx _) => some (.leaf .non)
  | _ => none
theorem runD_d {m : Nat} {g : De → Option Out} {ds : List Dt} : runD m g ds = finO (g (ds.map (fun d => some (.leaf d)) ++ List.replicate (m - ds.length) none)) := rfl
theorem finO_rt {t : T} : finO (some (.rt t)) = some t := rfl
noncomputable def condO {α : Type} (b : Option Bool) (f g : De → Option α) (δ : De) : Option α := b.bind fun b => if b then f δ else g δ
theorem condO_t {α : Type} {f g : De → Option α} {δ : De} : condO (some true) f g δ = f δ := rfl
theorem condO_f {α : Type} {f g : De → Option α} {δ : De} : condO (some false) f g δ = g δ := rfl
theorem condO_p {α : Type} {f g : De → Option α} {δ : De} {b : Bool} (h : b = true) : condO (some b) f g δ = f δ := by subst h; rfl
theorem condO_n {α : Type} {f g : De → Option α} {δ : De} {b : Bool} (h : b = false) : condO (some b) f g δ = g δ := by subst h; rfl
theorem sIf_d {c : De → Option Bool} {g1 g2 : De → Option Out} {δ : De} : sIf c g1 g2 δ = condO (c δ) g1 g2 δ := rfl
theorem vIf_d {c : De → Option Bool} {g1 g2 : De → Option T} {δ : De} : vIf c g1 g2 δ = condO (c δ) g1 g2 δ := rfl
noncomputable def kB (b : Bool) : De → Option Bool := fun _ => some b
theorem fOr_d {f g : De → Option Bool} {δ : De} : fOr f g δ = condO (f δ) (kB true) g δ := rfl
noncomputable def mkL (ds : List Dt) : Option T := if ds.length ≤ sizeLine then some (.lst ds) else none
noncomputable def mkTp (ds : List Dt) : Option T := if ds.length ≤ sizeLine then some (.leaf (.tup ds)) else none
theorem mkL_of {ds : List Dt} (h : ds.length ≤ 1000000) : mkL ds = some (.lst ds) := if_pos (small h)
theorem mkTp_of {ds : List Dt} (h : ds.length ≤ 1000000) : mkTp ds = some (.leaf (.tup ds)) := if_pos (small h)
theorem vLst_d {f : De → Option (List Dt)} {δ : De} : vLst f δ = (f δ).bind mkL := rfl
theorem vTup_d {f : De → Option (List Dt)} {δ : De} : vTup f δ = (f δ).bind mkTp := rfl
theorem vComp_d {src : List (Option Nat)} {fi : De → Option (List Dt)} {bb : Dt → De → Option De} {ft : De → Option Bool} {fe : De → Option Dt} {δ : De} : vComp src fi bb ft fe δ = (fi δ).bind fun ds => (compL bb ft fe (dC src δ) ds).bind mkL := rfl
theorem join_signs (cs : List Nat) : Txt.join "" (cs.map fun c => (⟨#[c]⟩ : Str)) = ⟨cs.toArray⟩ := by
  have e0 : ("" : Str).cps = #[] := by decide +kernel
  have go : ∀ (l : List Nat) (acc : Array Nat), (l.map fun c => (⟨#[c]⟩ : Str)).foldl (fun acc p => acc ++ ("" : Str).cps ++ p.cps) acc = acc ++ l.toArray := by
    intro l
    induction l with
    | nil => intro acc; simp
    | cons c l ih =>
      intro acc
      rw [List.map_cons, List.foldl_cons, ih, e0]
      simp
  unfold Txt.join Builtin.Str.glued
  cases cs with
  | nil => rfl
  | cons c r =>
    show (⟨(r.map fun c => (⟨#[c]⟩ : Str)).foldl (fun acc p => acc ++ ("" : Str).cps ++ p.cps) (#[c] : Array Nat)⟩ : Str) = _
    rw [go]
    simp
theorem joinOk_signs (cs : List Nat) (h : cs.length ≤ 1000) : JoinOk "" (cs.map fun c => (⟨#[c]⟩ : Str)) = true := by
  unfold JoinOk
  have h1 : ∀ y ∈ cs.map (fun c => (⟨#[c]⟩ : Str)), y.length ≤ 1 := fun y hy => by
    obtain ⟨c, _, rfl⟩ := List.mem_map.mp hy
    exact Nat.le_refl _
  rw [StrLaws.joinFits h1 (by rw [List.length_map, show ("" : Str).length = 0 by decide +kernel]; omega)]
  rfl
theorem asStrs_map : ∀ ts : List Str, asStrs (ts.map .str) = some ts
  | [] => rfl
  | t :: r => by
    show (asStrs (r.map .str)).map (t :: ·) = _
    rw [asStrs_map r]
    rfl
noncomputable def sgD (cs : List Nat) : List Dt := cs.map fun c => .str ⟨#[c]⟩
theorem join_sgD {cs : List Nat} (h : cs.length ≤ 1000) : g_join (.str "") [.lst (sgD cs)] = some (.leaf (.str ⟨cs.toArray⟩)) := by
  have e : sgD cs = (cs.map fun c => (⟨#[c]⟩ : Str)).map .str := by unfold sgD; rw [List.map_map]; rfl
  show (asStrs (sgD cs)).bind _ = _
  rw [e, asStrs_map, Option.bind_some, if_pos (joinOk_signs cs h), join_signs]
theorem atI_in {α : Type} {xs : List α} {i : Int} (h0 : 0 ≤ i) (h1 : i < xs.length) : ∃ v, atI xs i = some v ∧ v ∈ xs := by
  obtain ⟨n, rfl⟩ := Int.eq_ofNat_of_zero_le h0
  have hn : n < xs.length := by omega
  exact ⟨xs[n], atI_nat (by simp [hn]), List.getElem_mem hn⟩
theorem gAdd_ls {l m : List Dt} (h : l.length + m.length ≤ 1000000) : gAdd (.lst l) (.lst m) = some (.lst (l ++ m)) := gAdd_l (small h)
theorem cmpbs_flat : ∀ {l m : List Dt}, l.all flatD = true → m.all flatD = true → cmpbs l m = true
  | [], m, _, _ => by cases m <;> simp [cmpbs]
  | _ :: _, [], _, _ => by simp [cmpbs]
  | d :: l, e :: m, h, h' => by
    simp only [List.all_cons, Bool.and_eq_true] at h h'
    simp only [cmpbs, cmpbs_flat h.2 h'.2, Bool.and_true]
    cases d <;> first | (cases h.1; done) | skip
    all_goals cases e <;> first | (cases h'.1; done) | rfl
theorem deeps_flat : ∀ {l : List Dt}, l.all flatD = true → deeps l = 0
  | [], _ => by simp [deeps]
  | d :: l, h => by
    simp only [List.all_cons, Bool.and_eq_true] at h
    simp only [deeps, deeps_flat h.2]
    cases d <;> first | (cases h.1; done) | rfl
theorem gEq_flat {neg : Bool} {l m : List Dt} (hl : l.all flatD = true) (hm : m.all flatD = true) : gEq neg (.lst l) (.lst m) = some (.leaf (.bl (if neg then !peqs l m else peqs l m))) :=
  gEq_of (eqD_l (by rw [cmpbs_flat hl hm, deeps_flat hl]; rfl))
theorem gEq_self {neg : Bool} {l : List Dt} (hl : l.all flatD = true) : gEq neg (.lst l) (.lst l) = some (.leaf (.bl (!neg))) := by
  rw [gEq_flat hl hl, peqs_self]
  cases neg <;> rfl
theorem sFor_d {fi : De → Option (List Dt)} {bb : Dt → De → Option De} {g : De → Option Out} {δ : De} : sFor fi bb g δ = (fi δ).bind fun ds => forD bb g ds δ := rfl
theorem emod_cases (a : Int) {n : Nat} (hn : 0 < n) : ∃ k : Nat, k < n ∧ a % (n : Int) = (k : Int) := by
  have h0 := Int.emod_nonneg a (show (n : Int) ≠ 0 by omega)
  have h1 := Int.emod_lt_of_pos a (show (0 : Int) < n by omega)
  exact ⟨(a % (n : Int)).toNat, by omega, by omega⟩
theorem atI_0 {α : Type} {l : List α} : atI l 0 = l[0]? := atI_nat' (k := 0)
theorem atI_1 {α : Type} {l : List α} : atI l 1 = l[1]? := atI_nat' (k := 1)
theorem atI_2 {α : Type} {l : List α} : atI l 2 = l[2]? := atI_nat' (k := 2)
end L2

namespace L2
open PySem
theorem ne_copy_if : (Str.ofString "copy" = Str.ofString "if") = False := eq_false (by decide +kernel)
theorem ne_copy_go : (Str.ofString "copy" = Str.ofString "go") = False := eq_false (by decide +kernel)
theorem ne_copy_end : (Str.ofString "copy" = Str.ofString "end") = False := eq_false (by decide +kernel)
theorem ne_op_if : (Str.ofString "op" = Str.ofString "if") = False := eq_false (by decide +kernel)
theorem ne_op_go : (Str.ofString "op" = Str.ofString "go") = False := eq_false (by decide +kernel)
theorem ne_op_end : (Str.ofString "op" = Str.ofString "end") = False := eq_false (by decide +kernel)
theorem ne_load_if : (Str.ofString "load" = Str.ofString "if") = False := eq_false (by decide +kernel)
theorem ne_load_go : (Str.ofString "load" = Str.ofString "go") = False := eq_false (by decide +kernel)
theorem ne_load_end : (Str.ofString "load" = Str.ofString "end") = False := eq_false (by decide +kernel)
theorem ne_store_if : (Str.ofString "store" = Str.ofString "if") = False := eq_false (by decide +kernel)
theorem ne_store_go : (Str.ofString "store" = Str.ofString "go") = False := eq_false (by decide +kernel)
theorem ne_store_end : (Str.ofString "store" = Str.ofString "end") = False := eq_false (by decide +kernel)
theorem ne_take_if : (Str.ofString "take" = Str.ofString "if") = False := eq_false (by decide +kernel)
theorem ne_take_go : (Str.ofString "take" = Str.ofString "go") = False := eq_false (by decide +kernel)
theorem ne_take_end : (Str.ofString "take" = Str.ofString "end") = False := eq_false (by decide +kernel)
theorem ne_lay_if : (Str.ofString "lay" = Str.ofString "if") = False := eq_false (by decide +kernel)
theorem ne_lay_go : (Str.ofString "lay" = Str.ofString "go") = False := eq_false (by decide +kernel)
theorem ne_lay_end : (Str.ofString "lay" = Str.ofString "end") = False := eq_false (by decide +kernel)
theorem ne_hear_if : (Str.ofString "hear" = Str.ofString "if") = False := eq_false (by decide +kernel)
theorem ne_hear_go : (Str.ofString "hear" = Str.ofString "go") = False := eq_false (by decide +kernel)
theorem ne_hear_end : (Str.ofString "hear" = Str.ofString "end") = False := eq_false (by decide +kernel)
theorem ne_say_if : (Str.ofString "say" = Str.ofString "if") = False := eq_false (by decide +kernel)
theorem ne_say_go : (Str.ofString "say" = Str.ofString "go") = False := eq_false (by decide +kernel)
theorem ne_say_end : (Str.ofString "say" = Str.ofString "end") = False := eq_false (by decide +kernel)
theorem ne_if_go : (Str.ofString "if" = Str.ofString "go") = False := eq_false (by decide +kernel)
theorem ne_end_if : (Str.ofString "end" = Str.ofString "if") = False := eq_false (by decide +kernel)
theorem ne_end_go : (Str.ofString "end" = Str.ofString "go") = False := eq_false (by decide +kernel)
end L2

namespace L2
open PySem PySem.Spec PyProof.Rows
inductive Atm where
  | nm (x : Str) | vl (i : Int)
inductive Rw where
  | copy (x : Str) (a : Atm) | op (x s : Str) (a b : Atm) | load (x c : Str) | store (c : Str) (a : Atm) | take (x f : Str) (a : Atm) | lay (f : Str) (a b : Atm) | hear (x : Str) | say (a : Atm) | iff (a : Atm) (g : Nat) | go (g : Nat) | fin (a : Atm)
noncomputable def Rw.outs (n : Nat) : Rw → List Nat
  | .go g => [g] | .iff _ g => [g, n + 1] | .fin _ => []
  | _ => [n + 1]
end L2

namespace L2
open PySem PySem.Spec PyProof.Rows
noncomputable def Atm.d : Atm → Dt
  | .nm x => .str x
  | .vl i => .int i
noncomputable def Rw.d : Rw → Dt
  | .copy x a => .tup [.str "copy", .str x, a.d]
  | .op x s a b => .tup [.str "op", .str x, .str s, a.d, b.d]
  | .load x c => .tup [.str "load", .str x, .str c]
  | .store c a => .tup [.str "store", .str c, a.d]
  | .take x f a => .tup [.str "take", .str x, .str f, a.d]
  | .lay f a b => .tup [.str "lay", .str f, a.d, b.d]
  | .hear x => .tup [.str "hear", .str x]
  | .say a => .tup [.str "say", a.d]
  | .iff a g => .tup [.str "if", a.d, .int g]
  | .go g => .tup [.str "go", .int g]
  | .fin a => .tup [.str "end", a.d]
noncomputable def dI (j : Nat) : Dt := .int (j : Int)
noncomputable def dR (rows : List Rw) : Dt := .tup (rows.map Rw.d)
end L2

namespace L2
open PySem PySem.Spec PyProof.Rows
theorem enumL_map {α : Type} {f : α → Dt} : ∀ (l : List α) (i : Nat), enumL i (l.map f) = (l.mapIdx fun k a => Dt.tup [.int ((i + k : Nat) : Int), f a])
  | [], _ => rfl
  | a :: l, i => by
    rw [List.map_cons, enumL, enumL_map l (i + 1), List.mapIdx_cons]
    congr 1
    congr 1
    funext k a
    rw [show i + 1 + k = i + (k + 1) by omega]
theorem compL_enum {α : Type} {bb : Dt → De → Option De} {fe : De → Option Dt} {δ : De} {f : α → Dt} {h : Nat → α → Dt} : ∀ {l : List α} (i : Nat), (∀ k a, ∃ δ1, bb (.tup [.int ((k : Nat) : Int), f a]) δ = some δ1 ∧ fe δ1 = some (h k a)) → compL bb tYesD fe δ (enumL i (l.map f)) = some (l.mapIdx fun k a => h (i + k) a)
  | [], _, _ => rfl
  | a :: l, i, q => by
    obtain ⟨δ1, h1, h3⟩ := q i a
    rw [List.map_cons, enumL]
    unfold compL
    rw [h1, Option.bind_some]
    show ((fe δ1).bind fun y => _) = _
    rw [h3, Option.bind_some, compL_enum (i + 1) q, List.mapIdx_cons]
    show some _ = some _
    congr 1
    congr 1
    congr 1
    funext k a
    rw [show i + 1 + k = i + (k + 1) by omega]
theorem all_flat_str (l : List Str) : (l.map Dt.str).all flatD = true := by
  rw [List.all_eq_true]
  intro x hx
  obtain ⟨y, _, rfl⟩ := List.mem_map.mp hx
  rfl
theorem any_str (l : List Str) (x : Str) : ((l.map Dt.str).any fun y => eqF y (.str x)) = decide (x ∈ l) := by
  induction l with
  | nil => rfl
  | cons a l ih =>
    rw [List.map_cons, List.any_cons, ih, show eqF (.str a) (.str x) = decide (a = x) from rfl]
    by_cases h : a = x
    · simp [h]
    · have : ¬ x = a := fun z => h z.symm
      simp [h, this]
theorem gIn_strs {neg : Bool} {l : List Str} {x : Str} : gInA neg (.str x) (.lst (l.map .str)) = some (.leaf (.bl (if neg then !decide (x ∈ l) else decide (x ∈ l)))) := by
  rw [gIn_l (by rw [all_flat_str]; rfl), any_str]
end L2


local macro_rules | `(tactic| walk_at "d") => `(tactic| simp -implicitDefEqProofs only [L2.runD_d, L2.finO_rt, L2.sSeq_d, L2.thenO_nx, L2.thenO_rt, L2.sNil, L2.sSet, L2.sRet, L2.sRetV, L2.sIf_d, L2.condO_t, L2.condO_f, L2.sFor_d, L2.sFrz, L2.sPut, L2.toT, L2.toD, L2.T.d, L2.kD, L2.vL, L2.vB, L2.d2, L2.tB2, L2.fTru, L2.fNot, L2.fOr_d, L2.vNot, L2.vIf_d, L2.aNil, L2.aCons, L2.vTup_d, L2.vLst_d, L2.mkL_of, L2.mkTp_of, L2.vCall, L2.vMeth, L2.vComp_d, L2.vSl, L2.oNone, L2.oSome, L2.vInst, L2.instD, L2.isIns, L2.vNeg, L2.fIt, L2.fRng, L2.bName, L2.dC, L2.tYesD, L2.gAdd_i, L2.atI_0, L2.atI_1, L2.atI_2, L2.gAdd_ls, L2.gIn_l, List.all_cons, List.all_nil, List.any_cons, List.any_nil, L2.gMul_l, L2.gMul_r, L2.gMod_i, L2.gPow_40, L2.gMod_w, L2.gCmp_i, L2.gEq_ii, L2.gEq_ss, L2.isNon, L2.gIx_l, L2.gIx_t, L2.gLen_l, L2.asB_b, List.map_cons, List.map_nil, List.length_cons, List.length_nil, List.cons_append, List.nil_append, List.replicate, List.getElem?_cons_zero, List.getElem?_cons_succ, List.set_cons_zero, List.set_cons_succ, Option.bind_some, Option.bind_none, Option.map_some, Option.map_none, Option.join_some, Option.join_none, Nat.reduceAdd, Nat.reduceSub, Nat.reduceLeDiff, Int.reduceLT, Int.reduceEq, eq_self, Int.reduceNeg, Int.reduceLE, if_true, if_false, ite_true, ite_false, Bool.false_eq_true, decide_true, decide_false, Bool.not_true, Bool.not_false, Bool.and_true, Bool.true_and, Bool.or_true, Bool.true_or, Bool.or_false, Bool.false_or, Bool.and_false, Bool.false_and, String.reduceBEq, reduceCtorEq])
namespace P14
open PySem L2
theorem cellD_ok (ns : List Int) (k : Nat) (hk : k ≤ 1000) : ∃ v, F__law_cell [.lst (ns.map .int), .int k] = some (.leaf (.int v)) := by
  unfold F__law_cell
  walk_at "d"
  rw [List.length_map]
  by_cases h : k < ns.length
  · rw [condO_p (by simpa using h)]
    walk_at "d"
    obtain ⟨v, e, hm⟩ := atI_in (xs := ns.map Dt.int) (i := k) (by omega) (by rw [List.length_map]; omega)
    obtain ⟨x, _, rfl⟩ := List.mem_map.mp hm
    rw [e]
    exact ⟨x, rfl⟩
  · rw [condO_n (by simpa using h)]
    walk_at "d"
    rw [List.length_map]
    by_cases h0 : 0 < ns.length
    · rw [condO_p (by simpa using h0)]
      walk_at "d"
      rw [List.length_map, gMod_i (by omega)]
      walk_at "d"
      obtain ⟨v, e, hm⟩ := atI_in (xs := ns.map Dt.int) (i := (k : Int) % (ns.length : Nat)) (Int.emod_nonneg _ (by omega)) (by rw [List.length_map]; exact Int.emod_lt_of_pos _ (by omega))
      obtain ⟨x, _, rfl⟩ := List.mem_map.mp hm
      rw [e]
      walk_at "d"
      have m0 := Int.emod_nonneg x (show (999983 : Int) ≠ 0 by decide)
      have m1 := Int.emod_lt_of_pos x (show (0 : Int) < 999983 by decide)
      rw [gMul_r (by omega) (by omega)]
      walk_at "d"
      exact ⟨_, rfl⟩
    · rw [condO_n (by simpa using h0)]
      walk_at "d"
      rw [gMul_r (by omega) (by omega)]
      walk_at "d"
      exact ⟨_, rfl⟩
noncomputable def part (c j m : Int) : Int := match F__law_part [.int c, .int j, .int m] with | some (.leaf (.int v)) => v | _ => 0
theorem primes_at (j : Nat) : ∃ q : Int, atI [Dt.int 10007, .int 10009, .int 10037, .int 10039, .int 10061, .int 10067, .int 10069, .int 10079] ((j : Int) % 8) = some (.int q) ∧ 0 < q := by
  obtain ⟨k, hk, ek⟩ := emod_cases (j : Int) (n := 8) (by decide)
  rw [show ((8 : Nat) : Int) = 8 from rfl] at ek
  rw [ek]
  have q : k = 0 ∨ k = 1 ∨ k = 2 ∨ k = 3 ∨ k = 4 ∨ k = 5 ∨ k = 6 ∨ k = 7 := by omega
  rcases q with rfl | rfl | rfl | rfl | rfl | rfl | rfl | rfl <;> exact ⟨_, rfl, by decide⟩
theorem prt_ok (c : Int) (j : Nat) {m : Int} (hm : 0 < m) : F__law_part [.int c, .int j, .int m] = some (.leaf (.int (part c j m))) ∧ 0 ≤ part c j m ∧ part c j m < m := by
  obtain ⟨q, eq, hq⟩ := primes_at j
  have e : F__law_part [.int c, .int j, .int m] = some (.leaf (.int ((c * 48271 + 7919 * j) % q % m))) := by
    unfold F__law_part
    walk_at "d"
    rw [eq]
    walk_at "d"
    rw [gMod_i hq]
    walk_at "d"
    rw [gMod_i hm]
    rfl
  have e2 : part c j m = (c * 48271 + 7919 * j) % q % m := by unfold part; rw [e]
  rw [e2]
  exact ⟨e, Int.emod_nonneg _ (by omega), Int.emod_lt_of_pos _ hm⟩
theorem codes_letters : (Str.ofString "abcdefghijklmnopqrstuvwxyz").cps.toList = [97, 98, 99, 100, 101, 102, 103, 104, 105, 106, 107, 108, 109, 110, 111, 112, 113, 114, 115, 116, 117, 118, 119, 120, 121, 122] := by decide +kernel
noncomputable def letters : Str := "abcdefghijklmnopqrstuvwxyz"
theorem letters_at (i : Nat) (h : i < 26) : gIxA (.str letters) (.int i) = some (.leaf (.str ⟨#[97 + i]⟩)) := by
  have key : ∀ i < 26, ([97, 98, 99, 100, 101, 102, 103, 104, 105, 106, 107, 108, 109, 110, 111, 112, 113, 114, 115, 116, 117, 118, 119, 120, 121, 122] : List Nat)[i]? = some (97 + i) := by decide
  rw [gIx_s (small (by decide +kernel)), atI_nat', show letters.cps.toList = _ from codes_letters, key i h]
  rfl
noncomputable def nsz (b : Int) : Nat := (1 + part b 7 6).toNat
theorem nsz_is (b : Int) : ((nsz b : Nat) : Int) = 1 + part b 7 6 ∧ 1 ≤ nsz b ∧ nsz b ≤ 6 := by
  have h := prt_ok b 7 (m := 6) (by decide)
  unfold nsz
  have h1 := h.2.1
  have h2 := h.2.2
  have e : (((7 : Nat) : Int)) = 7 := rfl
  rw [e] at h1 h2
  omega
noncomputable def ncs (b : Int) : List Nat := (List.range (nsz b)).map fun i : Nat => 97 + (part b i 26).toNat
theorem ncs_len (b : Int) : (ncs b).length = nsz b := by simp [ncs]
noncomputable def npos (b : Int) : Nat := (part b 3 (nsz b)).toNat
noncomputable def nlet (b : Int) (k : Nat) : Nat := 97 + ((part b 4 26).toNat + k) % 26
noncomputable def nam (b : Int) (k : Nat) : Str := ⟨((ncs b).set (npos b) (nlet b k)).toArray⟩
theorem npos_lt (b : Int) : npos b < nsz b ∧ ((npos b : Nat) : Int) = part b 3 (nsz b) := by
  have h := prt_ok b 3 (m := nsz b) (by have := (nsz_is b).2.1; omega)
  have h1 := h.2.1
  have h2 := h.2.2
  have e : (((3 : Nat) : Int)) = 3 := rfl
  rw [e] at h1 h2
  unfold npos
  omega
theorem name_c (b : Int) : compL (bName 0) tYesD E__law_name_0 [none, some (.leaf (.int b)), some (.leaf (.str letters))] (rangeD 0 (nsz b)) = some (sgD (ncs b)) := by
  have key : ∀ n : Nat, compL (bName 0) tYesD E__law_name_0 [none, some (.leaf (.int b)), some (.leaf (.str letters))] (rangeD 0 n) = some ((rangeD 0 n).map fun d => match d with | .int i => .str ⟨#[97 + (part b i 26).toNat]⟩ | d => d) := fun n => by
    refine compL_map fun d hd => ?_
    obtain ⟨i, hi, rfl⟩ := mem_range hd
    refine ⟨_, rfl, rfl, ?_⟩
    rw [Int.zero_add]
    unfold E__law_name_0
    have h := prt_ok b i (m := 26) (by decide)
    walk_at "d"
    rw [h.1]
    walk_at "d"
    obtain ⟨v, hv⟩ : ∃ v : Nat, part b i 26 = v := ⟨(part b i 26).toNat, by omega⟩
    rw [hv, letters_at v (by omega)]
    rfl
  rw [key]
  unfold rangeD ncs sgD
  rw [List.map_map, List.map_map]
  exact congrArg some (List.map_congr_left fun i _ => by
    simp only [Function.comp_apply, Int.zero_add])
theorem sPut_lst {i j : Nat} {fk fe : De → Option Dt} {δ : De} {l : List Dt} {n : Int} {d : Dt} (h : δ[i]? = some (some (.lst l))) (hk : fk δ = some (.int n)) (he : fe δ = some d) (hn : n = j) (hj : j < l.length) :
    sPut i fk fe δ = some (.nx (δ.set i (some (.lst (l.set j d))))) := by
  unfold sPut
  rw [he, hk, h]
  show ((ixN l.length n).map fun j => Out.nx (δ.set i (some (.lst (l.set j d))))) = _
  subst hn
  unfold ixN
  rw [if_pos (by omega), if_pos (by omega)]
  rfl
theorem name_ok (b : Int) (k : Nat) (hk : k ≤ 100) : F__law_name [.int b, .int k] = some (.leaf (.str (nam b k))) := by
  have h4 := prt_ok b 4 (m := 26) (by decide)
  rw [show ((4 : Nat) : Int) = 4 from rfl] at h4
  obtain ⟨z1, z2, z3⟩ := nsz_is b
  obtain ⟨p1, p2⟩ := npos_lt b
  have h7 := prt_ok b 7 (m := 6) (by decide)
  have h3 := prt_ok b 3 (m := nsz b) (by omega)
  rw [show ((7 : Nat) : Int) = 7 from rfl] at h7
  rw [show ((3 : Nat) : Int) = 3 from rfl] at h3
  unfold F__law_name
  walk_at "d"
  rw [h7.1]
  walk_at "d"
  rw [← z1, rng1_n (by omega), Option.bind_some, show Str.ofString "abcdefghijklmnopqrstuvwxyz" = letters from rfl, name_c, Option.bind_some, mkL_of (by unfold sgD; rw [List.length_map, ncs_len]; omega)]
  obtain ⟨v, hv⟩ : ∃ v : Nat, part b 4 26 = v := ⟨(part b 4 26).toNat, by omega⟩
  rw [Option.map_some, thenO_nx, sSeq_d, sPut_lst (l := sgD (ncs b)) (n := part b 3 (nsz b)) (j := npos b) (d := .str ⟨#[nlet b k]⟩) ?a1 ?a2 ?a3 p2.symm ?a4]
  case a1 => rfl
  case a2 =>
    walk_at "d"
    rw [h3.1]
    rfl
  case a3 =>
    walk_at "d"
    rw [h4.1]
    walk_at "d"
    rw [hv, show ((v : Int) + (k : Int)) % 26 = (((v + k) % 26 : Nat) : Int) by omega, letters_at _ (by omega)]
    unfold nlet
    rw [hv]
    rfl
  case a4 =>
    unfold sgD
    rw [List.length_map, ncs_len]
    exact p1
  walk_at "d"
  rw [show (sgD (ncs b)).set (npos b) (.str ⟨#[nlet b k]⟩) = sgD ((ncs b).set (npos b) (nlet b k)) by unfold sgD; rw [List.map_set], show Str.ofString "" = ("" : Str) from rfl, join_sgD (by rw [List.length_set, ncs_len]; omega)]
  rfl
end P14

namespace P14
open PySem L2
theorem d2_at {g : Dt → Dt → Option T} {fa fb : De → Option Dt} {δ : De} {x y : Dt} (h1 : fa δ = some x) (h2 : fb δ = some y) : d2 g fa fb δ = g x y := by
  unfold d2
  rw [h1, h2]
  rfl
theorem toD_at {f : De → Option T} {δ : De} {t : T} (h : f δ = some t) : toD f δ = t.d := by
  unfold toD
  rw [h]
  rfl
theorem vComp_at {src : List (Option Nat)} {fi : De → Option (List Dt)} {bb : Dt → De → Option De} {ft : De → Option Bool} {fe : De → Option Dt} {δ : De} {ds ys : List Dt} (h1 : fi δ = some ds) (h2 : compL bb ft fe (dC src δ) ds = some ys) (h3 : ys.length ≤ 1000000) : vComp src fi bb ft fe δ = some (.lst ys) := by
  unfold vComp
  rw [h1, Option.bind_some, h2, Option.bind_some, if_pos (small h3)]
theorem call1_at {F : List Dt → Option T} {f : De → Option Dt} {δ : De} {x : Dt} (h : f δ = some x) : vCall F (aCons f aNil) δ = F [x] := by
  unfold vCall aCons aNil
  rw [h]
  rfl
theorem call2_at {F : List Dt → Option T} {f g : De → Option Dt} {δ : De} {x y : Dt} (h : f δ = some x) (h2 : g δ = some y) : vCall F (aCons f (aCons g aNil)) δ = F [x, y] := by
  unfold vCall aCons aNil
  rw [h, h2]
  rfl
theorem aCons_at {f : De → Option Dt} {fs : De → Option (List Dt)} {δ : De} {d : Dt} {ds : List Dt} (h1 : f δ = some d) (h2 : fs δ = some ds) : aCons f fs δ = some (d :: ds) := by
  unfold aCons
  rw [h1, Option.bind_some, h2]
  rfl
theorem vTup_at {fs : De → Option (List Dt)} {δ : De} {ds : List Dt} (h : fs δ = some ds) (hl : ds.length ≤ 1000) : vTup fs δ = some (.leaf (.tup ds)) := by
  unfold vTup
  rw [h]
  exact if_pos (small (by omega))
theorem toT_at {f : De → Option Dt} {δ : De} {d : Dt} (h : f δ = some d) : toT f δ = some (.leaf d) := by
  unfold toT
  rw [h]
  rfl
theorem call3_at {F : List Dt → Option T} {f g h : De → Option Dt} {δ : De} {x y z : Dt} (h1 : f δ = some x) (h2 : g δ = some y) (h3 : h δ = some z) : vCall F (aCons f (aCons g (aCons h aNil))) δ = F [x, y, z] := by
  unfold vCall
  rw [aCons_at h1 (aCons_at h2 (aCons_at h3 (show aNil δ = some [] from rfl)))]
  rfl
theorem dRt {m : Nat} {g : De → Option Out} {ds : List Dt} {t : T} (h : g (ds.map (fun d => some (T.leaf d)) ++ List.replicate (m - ds.length) none) = some (.rt t)) : runD m g ds = some t := by
  rw [runD_d, h]
  rfl
theorem ifs_t {c : De → Option Bool} {g1 r : De → Option Out} {δ : De} {t : T} (h : c δ = some true) (h1 : g1 δ = some (.rt t)) : sSeq (sIf c g1 sNil) r δ = some (.rt t) := by
  rw [sSeq_d, sIf_d, h, condO_t, h1]
  rfl
theorem ifs_f {c : De → Option Bool} {g1 r : De → Option Out} {δ : De} (h : c δ = some false) : sSeq (sIf c g1 sNil) r δ = r δ := by
  rw [sSeq_d, sIf_d, h, condO_f]
  rfl
theorem tB2_at {g : Dt → Dt → Option T} {fa fb : De → Option Dt} {δ : De} {x y : Dt} {b : Bool} (h1 : fa δ = some x) (h2 : fb δ = some y) (h : g x y = some (.leaf (.bl b))) : tB2 g fa fb δ = some b := by
  unfold tB2
  rw [d2_at h1 h2, h]
  rfl
theorem sRet_at {f : De → Option T} {δ : De} {t : T} (h : f δ = some t) : sRet f δ = some (.rt t) := by
  unfold sRet
  rw [h]
  rfl
theorem orE {f g : De → Option Bool} {δ : De} {a b : Bool} (h1 : f δ = some a) (h2 : a = false → g δ = some b) : fOr f g δ = some (a || b) := by
  rw [fOr_d, h1]
  cases a with
  | true => rfl
  | false => exact h2 rfl
theorem lst_at {fs : De → Option (List Dt)} {δ : De} {ds : List Dt} (h : fs δ = some ds) (hl : ds.length ≤ 1000) : toD (vLst fs) δ = some (.lst ds) := toD_at (t := .lst ds) (by rw [vLst_d, h, Option.bind_some, mkL_of (by omega)])
theorem tup_at {fs : De → Option (List Dt)} {δ : De} {ds : List Dt} (h : fs δ = some ds) (hl : ds.length ≤ 1000) : toD (vTup fs) δ = some (.tup ds) := toD_at (t := .leaf (.tup ds)) (vTup_at h hl)
theorem addL_at {fa fb : De → Option Dt} {δ : De} {l m : List Dt} (h1 : fa δ = some (.lst l)) (h2 : fb δ = some (.lst m)) (hl : l.length + m.length ≤ 1000) : toD (d2 gAdd fa fb) δ = some (.lst (l ++ m)) := toD_at (t := .lst (l ++ m)) ((d2_at h1 h2).trans (gAdd_ls (by omega)))
theorem set_at {i : Nat} {f : De → Option T} {δ : De} {t : T} (h : f δ = some t) : sSet i f δ = some (.nx (δ.set i (some t))) := by
  unfold sSet
  rw [h]
  rfl
theorem seqT {i : Nat} {F : De → Option Dt} {G : De → Option Out} {δ : De} {d : Dt} {r : Option Out} (h : F δ = some d) (k : G (δ.set i (some (.leaf d))) = r) : sSeq (sSet i (toT F)) G δ = r := by
  rw [seq_nx (set_at (toT_at h))]
  exact k
theorem prL (c j m : Int) (hj : 0 ≤ j) (hm : 0 < m) : ∃ v : Nat, (v : Int) < m ∧ F__law_part [.int c, .int j, .int m] = some (.leaf (.int v)) := by
  obtain ⟨h1, h2, h3⟩ := prt_ok c j.toNat (m := m) hm
  have e : ((j.toNat : Nat) : Int) = j := by omega
  rw [e] at h1 h2 h3
  refine ⟨(part c j m).toNat, by omega, ?_⟩
  rw [h1, show (((part c j m).toNat : Nat) : Int) = part c j m by omega]
theorem nmL (b k : Int) (h0 : 0 ≤ k) (h1 : k ≤ 100) : ∃ s : Str, s.length ≤ 6 ∧ F__law_name [.int b, .int k] = some (.leaf (.str s)) := by
  have h := name_ok b k.toNat (by omega)
  rw [show ((k.toNat : Nat) : Int) = k by omega] at h
  refine ⟨_, ?_, h⟩
  show (((ncs b).set (npos b) (nlet b k.toNat)).toArray).size ≤ 6
  rw [List.size_toArray, List.length_set, ncs_len]
  exact (nsz_is b).2.2
section
variable {δ : De} {f1 f2 f3 fb fk fi : De → Option Dt} {fs : De → Option (List Dt)} {c j m b k i : Int}
theorem pk (h1 : f1 δ = some (.int c)) (h2 : f2 δ = some (.int j)) (h3 : f3 δ = some (.int m)) (hj : 0 ≤ j) (hm : 0 < m) : ∃ v : Nat, (v : Int) < m ∧ toD (vCall F__law_part (aCons f1 (aCons f2 (aCons f3 aNil)))) δ = some (.int v) := by
  obtain ⟨v, hv, e⟩ := prL c j m hj hm
  exact ⟨v, hv, toD_at (t := .leaf (.int v)) ((call3_at h1 h2 h3).trans e)⟩
theorem nk (h1 : fb δ = some (.int b)) (h2 : fk δ = some (.int k)) (h0 : 0 ≤ k) (hk : k ≤ 100) : ∃ s : Str, s.length ≤ 6 ∧ toD (vCall F__law_name (aCons fb (aCons fk aNil))) δ = some (.str s) := by
  obtain ⟨s, hs, e⟩ := nmL b k h0 hk
  exact ⟨s, hs, toD_at (t := .leaf (.str s)) ((call2_at h1 h2).trans e)⟩
theorem addK (h1 : f1 δ = some (.int i)) (h2 : f2 δ = some (.int j)) : toD (d2 gAdd f1 f2) δ = some (.int (i + j)) := toD_at (t := .leaf (.int (i + j))) (d2_at h1 h2)
theorem ixT {v : Nat} {ds : List Dt} {d : Dt} (h1 : fs δ = some ds) (hl : ds.length ≤ 1000) (h2 : fi δ = some (.int v)) (h : ds[v]? = some d) : d2 gIxA (toD (vLst fs)) fi δ = some (.leaf d) := by
  rw [d2_at (lst_at h1 hl) h2, gIx_l, atI_nat', h]
  rfl
theorem ixL {v : Nat} {ds : List Dt} {d : Dt} (h1 : fs δ = some ds) (hl : ds.length ≤ 1000) (h2 : fi δ = some (.int v)) (h : ds[v]? = some d) : toD (d2 gIxA (toD (vLst fs)) fi) δ = some d := toD_at (t := .leaf d) (ixT h1 hl h2 h)
end
theorem ifsE {c : De → Option Bool} {g1 r : De → Option Out} {δ : De} {b : Bool} {P : Rw → Prop} (hc : c δ = some b) (h1 : b = true → ∃ q : Rw, g1 δ = some (.rt (.leaf q.d)) ∧ P q) (h2 : b = false → ∃ q : Rw, r δ = some (.rt (.leaf q.d)) ∧ P q) : ∃ q : Rw, sSeq (sIf c g1 sNil) r δ = some (.rt (.leaf q.d)) ∧ P q := by
  cases b with
  | true =>
    obtain ⟨q, e, p⟩ := h1 rfl
    exact ⟨q, ifs_t hc e, p⟩
  | false =>
    obtain ⟨q, e, p⟩ := h2 rfl
    exact ⟨q, (ifs_f hc).trans e, p⟩
theorem setE {i : Nat} {f : De → Option Dt} {g : De → Option Out} {δ : De} {d : Dt} {P : Rw → Prop} (h : f δ = some d) (h2 : ∃ q : Rw, g (δ.set i (some (.leaf d))) = some (.rt (.leaf q.d)) ∧ P q) : ∃ q : Rw, sSeq (sSet i (toT f)) g δ = some (.rt (.leaf q.d)) ∧ P q := by
  obtain ⟨q, e, p⟩ := h2
  exact ⟨q, seqT h e, p⟩
theorem retE {f : De → Option T} {δ : De} {q : Rw} {P : Rw → Prop} (h : f δ = some (.leaf q.d)) (p : P q) : ∃ q : Rw, sRet f δ = some (.rt (.leaf q.d)) ∧ P q := ⟨q, sRet_at h, p⟩
theorem runE {m : Nat} {g : De → Option Out} {ds : List Dt} {P : Rw → Prop} (δ : De) (hδ : ds.map (fun d => some (T.leaf d)) ++ List.replicate (m - ds.length) none = δ) (h : ∃ q : Rw, g δ = some (.rt (.leaf q.d)) ∧ P q) : ∃ q : Rw, runD m g ds = some (.leaf q.d) ∧ P q := by
  obtain ⟨q, e, p⟩ := h
  exact ⟨q, dRt (hδ ▸ e), p⟩
theorem andB {f g : De → Option Bool} {δ : De} {a b : Bool} (h1 : f δ = some a) (h2 : g δ = some b) : fAnd f g δ = some (a && b) := by
  unfold fAnd
  rw [h1, Option.bind_some, h2]
  cases a <;> rfl
theorem sign_at (v : Nat) (h : v < 8) : ∃ s : Str, gIxA (.str "+-*<=&|^") (.int v) = some (.leaf (.str s)) := by
  have q : v = 0 ∨ v = 1 ∨ v = 2 ∨ v = 3 ∨ v = 4 ∨ v = 5 ∨ v = 6 ∨ v = 7 := by omega
  rcases q with rfl | rfl | rfl | rfl | rfl | rfl | rfl | rfl <;> exact ⟨_, rfl⟩
theorem row_ok (c b : Int) (n0 n1 many : Nat) (h0 : n0 ≤ 50) (h1 : n1 ≤ 50) (hm : 0 < many) : ∃ r : Rw, F__law_row [.int c, .int b, .lst [.int n0, .int n1], .int many] = some (.leaf r.d) ∧ True := by
  unfold F__law_row
  refine runE [some (.leaf (.int c)), some (.leaf (.int b)), some (.leaf (.lst [.int n0, .int n1])), some (.leaf (.int many)), none, none, none, none, none, none] rfl ?_
  obtain ⟨v1, g1, e1⟩ := pk (δ := [some (.leaf (.int c)), some (.leaf (.int b)), some (.leaf (.lst [.int n0, .int n1])), some (.leaf (.int many)), none, none, none, none, none, none]) (f1 := vL 0) (f2 := kD (.int 1)) (f3 := kD (.int 8)) rfl rfl rfl (by decide) (by decide)
  obtain ⟨x, _, ex⟩ := nk (fb := vL 1) rfl (addK (f1 := kD (.int 10)) rfl e1) (by omega) (by omega)
  refine setE ex ?_
  obtain ⟨v2, g2, e2⟩ := pk (δ := [some (.leaf (.int c)), some (.leaf (.int b)), some (.leaf (.lst [.int n0, .int n1])), some (.leaf (.int many)), some (.leaf (.str x)), none, none, none, none, none]) (f1 := vL 0) (f2 := kD (.int 2)) (f3 := kD (.int 10)) rfl rfl rfl (by decide) (by decide)
  obtain ⟨y, _, ey⟩ := nk (fb := vL 1) rfl (addK (f1 := kD (.int 8)) rfl e2) (by omega) (by omega)
  obtain ⟨v3, g3, e3⟩ := pk (δ := [some (.leaf (.int c)), some (.leaf (.int b)), some (.leaf (.lst [.int n0, .int n1])), some (.leaf (.int many)), some (.leaf (.str x)), none, none, none, none, none]) (f1 := vL 0) (f2 := kD (.int 3)) (f3 := kD (.int 3)) rfl rfl rfl (by decide) (by decide)
  have ew : toD (d2 gMod (toD (d2 gMul (vB 0) (kD (.int 94906267)))) (toD (d2 gPow (kD (.int 2)) (kD (.int 40))))) [some (.leaf (.int c)), some (.leaf (.int b)), some (.leaf (.lst [.int n0, .int n1])), some (.leaf (.int many)), some (.leaf (.str x)), none, none, none, none, none] = some (.int (c * 94906267 % wide)) := by
    walk_at "d"
  obtain ⟨a, ha⟩ : ∃ a : Atm, ([.str x, .str y, .int (c * 94906267 % wide)] : List Dt)[v3]? = some a.d := by
    have q : v3 = 0 ∨ v3 = 1 ∨ v3 = 2 := by omega
    rcases q with rfl | rfl | rfl
    · exact ⟨.nm x, rfl⟩
    · exact ⟨.nm y, rfl⟩
    · exact ⟨.vl _, rfl⟩
  refine setE (ixL (aCons_at rfl (aCons_at ey (aCons_at ew rfl))) (by simp) e3 ha) ?_
  obtain ⟨kd, g4, e4⟩ := pk (δ := [some (.leaf (.int c)), some (.leaf (.int b)), some (.leaf (.lst [.int n0, .int n1])), some (.leaf (.int many)), some (.leaf (.str x)), some (.leaf a.d), none, none, none, none]) (f1 := vL 0) (f2 := kD (.int 0)) (f3 := kD (.int 14)) rfl rfl rfl (by decide) (by decide)
  refine setE e4 ?_
  have gl : ∀ {n : Int} {δ : De}, vB 6 δ = some (.int kd) → tB2 (gCmp fun i j => decide (i < j)) (vB 6) (kD (.int n)) δ = some (decide ((kd : Int) < n)) := fun h => tB2_at h rfl rfl
  have ix2 : ∀ {δ : De}, vB 6 δ = some (.int kd) → toD (d2 gMod (vB 6) (kD (.int 2))) δ = some (.int ((kd % 2 : Nat) : Int)) := fun h => toD_at (t := .leaf (.int ((kd % 2 : Nat) : Int))) ((d2_at h rfl).trans (by rw [gMod_i (by decide)]; simp))
  refine ifsE (andB (gl rfl) (tB2_at (x := .int n0) (y := .int 0) (b := decide ((0 : Int) < n0)) rfl rfl rfl)) (fun hb => ?_) fun _ => ?_
  · simp only [Bool.and_eq_true, decide_eq_true_eq] at hb
    obtain ⟨v, g5, e5⟩ := pk (δ := [some (.leaf (.int c)), some (.leaf (.int b)), some (.leaf (.lst [.int n0, .int n1])), some (.leaf (.int many)), some (.leaf (.str x)), some (.leaf a.d), some (.leaf (.int kd)), none, none, none]) (f1 := vL 0) (f2 := kD (.int 4)) (f3 := toD (d2 gIxA (vB 2) (kD (.int 0)))) (c := c) (j := 4) (m := n0) rfl rfl rfl (by decide) (by omega)
    obtain ⟨z, _, ez⟩ := nk (fb := vL 1) rfl e5 (by omega) (by omega)
    refine setE ez ?_
    have q : kd % 2 = 0 ∨ kd % 2 = 1 := by omega
    rcases q with h | h
    · exact retE (q := .load x z) (ixT (aCons_at (tup_at rfl (by simp)) (aCons_at (tup_at rfl (by simp)) rfl)) (by simp) (ix2 rfl) (by rw [h]; rfl)) trivial
    · exact retE (q := .store z a) (ixT (aCons_at (tup_at rfl (by simp)) (aCons_at (tup_at rfl (by simp)) rfl)) (by simp) (ix2 rfl) (by rw [h]; rfl)) trivial
  refine ifsE (andB (gl rfl) (tB2_at (x := .int n1) (y := .int 0) (b := decide ((0 : Int) < n1)) rfl rfl rfl)) (fun hb => ?_) fun _ => ?_
  · simp only [Bool.and_eq_true, decide_eq_true_eq] at hb
    obtain ⟨v, g5, e5⟩ := pk (δ := [some (.leaf (.int c)), some (.leaf (.int b)), some (.leaf (.lst [.int n0, .int n1])), some (.leaf (.int many)), some (.leaf (.str x)), some (.leaf a.d), some (.leaf (.int kd)), none, none, none]) (f1 := vL 0) (f2 := kD (.int 4)) (f3 := toD (d2 gIxA (vB 2) (kD (.int 1)))) (c := c) (j := 4) (m := n1) rfl rfl rfl (by decide) (by omega)
    obtain ⟨z, _, ez⟩ := nk (fb := vL 1) rfl (addK (f1 := kD (.int 6)) rfl e5) (by omega) (by omega)
    refine setE ez ?_
    have q : kd % 2 = 0 ∨ kd % 2 = 1 := by omega
    rcases q with h | h
    · exact retE (q := .take x z a) (ixT (aCons_at (tup_at rfl (by simp)) (aCons_at (tup_at rfl (by simp)) rfl)) (by simp) (ix2 rfl) (by rw [h]; rfl)) trivial
    · exact retE (q := .lay z a (.vl 7)) (ixT (aCons_at (tup_at rfl (by simp)) (aCons_at (tup_at rfl (by simp)) rfl)) (by simp) (ix2 rfl) (by rw [h]; rfl)) trivial
  refine ifsE (gl rfl) (fun hb => ?_) fun hb => ?_
  · obtain ⟨v, g5, e5⟩ := pk (δ := [some (.leaf (.int c)), some (.leaf (.int b)), some (.leaf (.lst [.int n0, .int n1])), some (.leaf (.int many)), some (.leaf (.str x)), some (.leaf a.d), some (.leaf (.int kd)), none, none, none]) (f1 := vL 0) (f2 := kD (.int 5)) (f3 := kD (.int 8)) rfl rfl rfl (by decide) (by decide)
    obtain ⟨sg, hs⟩ := sign_at v (by omega)
    exact retE (q := .op x sg a (.vl 5)) (vTup_at (aCons_at rfl (aCons_at rfl (aCons_at (toD_at (t := .leaf (.str sg)) ((d2_at rfl e5).trans hs)) (aCons_at rfl (aCons_at rfl rfl))))) (by simp)) trivial
  have hb9 : 9 ≤ kd := by
    have : (9 : Int) ≤ kd := by simpa using hb
    omega
  refine ifsE (tB2_at (x := .int kd) (y := .int 11) (b := decide ((11 : Int) < kd)) rfl rfl rfl) (fun hb => ?_) fun hb => ?_
  · obtain ⟨v, g5, e5⟩ := pk (δ := [some (.leaf (.int c)), some (.leaf (.int b)), some (.leaf (.lst [.int n0, .int n1])), some (.leaf (.int many)), some (.leaf (.str x)), some (.leaf a.d), some (.leaf (.int kd)), none, none, none]) (f1 := vL 0) (f2 := kD (.int 6)) (f3 := vL 3) (c := c) (j := 6) (m := many) rfl rfl rfl (by decide) (by omega)
    refine setE e5 ?_
    have q : kd = 12 ∨ kd = 13 := by simp at hb; omega
    rcases q with rfl | rfl
    · exact retE (q := .iff a v) (ixT (v := 0) (aCons_at (tup_at rfl (by simp)) (aCons_at (tup_at rfl (by simp)) rfl)) (by simp) rfl rfl) trivial
    · exact retE (q := .go v) (ixT (v := 1) (aCons_at (tup_at rfl (by simp)) (aCons_at (tup_at rfl (by simp)) rfl)) (by simp) rfl rfl) trivial
  · have q : kd = 9 ∨ kd = 10 ∨ kd = 11 := by simp at hb; omega
    rcases q with rfl | rfl | rfl
    · exact retE (q := .copy x a) (ixT (v := 0) (aCons_at (tup_at rfl (by simp)) (aCons_at (tup_at rfl (by simp)) (aCons_at (tup_at rfl (by simp)) rfl))) (by simp) rfl rfl) trivial
    · exact retE (q := .hear x) (ixT (v := 1) (aCons_at (tup_at rfl (by simp)) (aCons_at (tup_at rfl (by simp)) (aCons_at (tup_at rfl (by simp)) rfl))) (by simp) rfl rfl) trivial
    · exact retE (q := .say a) (ixT (v := 2) (aCons_at (tup_at rfl (by simp)) (aCons_at (tup_at rfl (by simp)) (aCons_at (tup_at rfl (by simp)) rfl))) (by simp) rfl rfl) trivial
end P14

namespace P14
open PySem L2
theorem eq_nilG {neg : Bool} (ds : List Dt) (h : deeps ds ≤ 50) : gEq neg (.lst ds) (.lst []) = some (.leaf (.bl (if neg then !ds.isEmpty else ds.isEmpty))) := by
  rw [gEq_of (b := peqs ds []) (eqD_l (by
    rw [decide_eq_true (by omega)]
    cases ds <;> simp [cmpbs]))]
  cases ds <;> rfl
theorem deep_atm (a : Atm) : deep a.d = 0 := by cases a <;> rfl
theorem deep_row (r : Rw) : deep r.d ≤ 1 := by cases r <;> simp [Rw.d, deep, deeps, deep_atm]
theorem deep_rows : ∀ rs : List Rw, deeps (rs.map Rw.d) ≤ 1
  | [] => by simp [deeps]
  | r :: rs => by
    simp only [List.map_cons, deeps]
    have := deep_row r
    have := deep_rows rs
    omega
noncomputable def dL (rs : List Rw) : Dt := .lst (rs.map Rw.d)
theorem eq_rows (rs : List Rw) : gEq false (dL rs) (.lst []) = some (.leaf (.bl rs.isEmpty)) := by
  unfold dL
  rw [eq_nilG _ (Nat.le_trans (deep_rows rs) (by decide))]
  simp
theorem sl_rows (rs : List Rw) (lo hi : Option Int) : ∃ q : List Rw, gSl (dL rs) lo hi = some (.lst (q.map Rw.d)) ∧ q.length ≤ rs.length := by
  refine ⟨(rs.drop (HT.sIx (rs.map Rw.d).length 0 lo)).take (HT.sIx (rs.map Rw.d).length (rs.map Rw.d).length hi - HT.sIx (rs.map Rw.d).length 0 lo), ?_, ?_⟩
  · show some (T.lst (cutD (rs.map Rw.d) lo hi)) = _
    unfold cutD
    rw [List.map_take, List.map_drop]
  · rw [List.length_take, List.length_drop]
    omega
theorem vSl_at {fa : De → Option Dt} {fl fh : De → Option (Option Int)} {δ : De} {rs : List Rw} {l h : Option Int} (h1 : fa δ = some (dL rs)) (h2 : fl δ = some l) (h3 : fh δ = some h) : ∃ q : List Rw, toD (vSl fa fl fh) δ = some (dL q) ∧ q.length ≤ rs.length := by
  obtain ⟨q, e, hq⟩ := sl_rows rs l h
  refine ⟨q, toD_at (t := .lst (q.map Rw.d)) ?_, hq⟩
  unfold vSl
  rw [h1, Option.bind_some, h2, Option.bind_some, h3, Option.bind_some]
  exact e
theorem oSome_at {f : De → Option Dt} {δ : De} {i : Int} (h : f δ = some (.int i)) : oSome f δ = some (some i) := by
  unfold oSome
  rw [h]
  rfl
theorem addR {fa fb : De → Option Dt} {δ : De} {p q : List Rw} (h1 : fa δ = some (dL p)) (h2 : fb δ = some (dL q)) (h : p.length + q.length ≤ 1000) : d2 gAdd fa fb δ = some (.lst ((p ++ q).map Rw.d)) := by
  rw [d2_at h1 h2, List.map_append]
  exact gAdd_l (small (by rw [List.length_map, List.length_map]; omega))
theorem oneR {f : De → Option Dt} {δ : De} {r : Rw} (h : f δ = some r.d) : toD (vLst (aCons f aNil)) δ = some (dL [r]) := lst_at (aCons_at h rfl) (by simp)
theorem lenR {f : De → Option Dt} {δ : De} {rs : List Rw} (h : f δ = some (dL rs)) : toD (vCall gLen (aCons f aNil)) δ = some (.int rs.length) := toD_at (t := .leaf (.int rs.length)) ((call1_at h).trans (by show some (T.leaf (.int (rs.map Rw.d).length)) = _; rw [List.length_map]))
theorem ixB {fa fi : De → Option Dt} {v : Nat} {ds : List Dt} {d : Dt} {δ : De} (h1 : fa δ = some (.lst ds)) (h2 : fi δ = some (.int v)) (h : ds[v]? = some d) : toD (d2 gIxA fa fi) δ = some d := toD_at (t := .leaf d) (by
  rw [d2_at h1 h2, gIx_l, atI_nat', h]
  rfl)
theorem setX {i : Nat} {f : De → Option Dt} {g : De → Option Out} {δ : De} {d : Dt} {P : T → Prop} (h : f δ = some d) (h2 : ∃ t, g (δ.set i (some (.leaf d))) = some (.rt t) ∧ P t) : ∃ t, sSeq (sSet i (toT f)) g δ = some (.rt t) ∧ P t := by
  obtain ⟨t, e, p⟩ := h2
  exact ⟨t, seqT h e, p⟩
theorem ifX {c : De → Option Bool} {g1 r : De → Option Out} {δ : De} {P : T → Prop} (hc : c δ = some false) (h : ∃ t, r δ = some (.rt t) ∧ P t) : ∃ t, sSeq (sIf c g1 sNil) r δ = some (.rt t) ∧ P t := by
  obtain ⟨t, e, p⟩ := h
  exact ⟨t, (ifs_f hc).trans e, p⟩
theorem runT {m : Nat} {g : De → Option Out} {ds : List Dt} {P : T → Prop} (δ : De) (hδ : ds.map (fun d => some (T.leaf d)) ++ List.replicate (m - ds.length) none = δ) (h : ∃ t, g δ = some (.rt t) ∧ P t) : ∃ t, runD m g ds = some t ∧ P t := by
  obtain ⟨t, e, p⟩ := h
  exact ⟨t, dRt (hδ ▸ e), p⟩
noncomputable def IsR (n : Nat) (t : T) : Prop := ∃ q : List Rw, t.d = some (dL q) ∧ q.length ≤ n
theorem spoilt_ok (rs : List Rw) (S : Dt) (b c : Int) (hl : rs.length ≤ 400) : ∃ t, F__law_spoilt [dL rs, S, .int b, .int c] = some t ∧ IsR (2 * rs.length + 1) t := by
  unfold F__law_spoilt
  refine runT [some (.leaf (dL rs)), some (.leaf S), some (.leaf (.int b)), some (.leaf (.int c)), none, none, none, none, none, none, none] rfl ?_
  cases hr : rs.isEmpty with
  | true =>
    refine ⟨.leaf (dL rs), ifs_t (tB2_at rfl (lst_at rfl (by simp)) (by rw [eq_rows, hr])) rfl, rs, rfl, by omega⟩
  | false =>
    have hpos : 0 < rs.length := by
      cases rs with
      | nil => cases hr
      | cons r rs => simp
    refine ifX (tB2_at rfl (lst_at rfl (by simp)) (by rw [eq_rows, hr])) ?_
    obtain ⟨v4, g4, e4⟩ := pk (δ := [some (.leaf (dL rs)), some (.leaf S), some (.leaf (.int b)), some (.leaf (.int c)), none, none, none, none, none, none, none]) (f1 := vL 3) (f2 := kD (.int 0)) rfl rfl (lenR (f := vB 0) rfl) (by decide) (by omega)
    refine setX e4 ?_
    obtain ⟨v5, g5, e5⟩ := pk (δ := [some (.leaf (dL rs)), some (.leaf S), some (.leaf (.int b)), some (.leaf (.int c)), some (.leaf (.int v4)), none, none, none, none, none, none]) (f1 := vL 3) (f2 := kD (.int 1)) (f3 := kD (.int 8)) rfl rfl rfl (by decide) (by decide)
    refine setX e5 ?_
    obtain ⟨p1, k1, d1⟩ := pk (δ := [some (.leaf (dL rs)), some (.leaf S), some (.leaf (.int b)), some (.leaf (.int c)), some (.leaf (.int v4)), some (.leaf (.int v5)), none, none, none, none, none]) (f1 := vL 3) (f2 := kD (.int 2)) (f3 := kD (.int 16)) rfl rfl rfl (by decide) (by decide)
    obtain ⟨x, _, ex⟩ := nk (fb := vL 2) rfl (addK (f1 := kD (.int 10)) rfl d1) (by omega) (by omega)
    obtain ⟨p2, k2, d2'⟩ := pk (δ := [some (.leaf (dL rs)), some (.leaf S), some (.leaf (.int b)), some (.leaf (.int c)), some (.leaf (.int v4)), some (.leaf (.int v5)), none, none, none, none, none]) (f1 := vL 3) (f2 := kD (.int 2)) (f3 := kD (.int 10)) rfl rfl rfl (by decide) (by decide)
    obtain ⟨y, _, ey⟩ := nk (fb := vL 2) rfl d2' (by omega) (by omega)
    refine setX (lst_at (aCons_at ex (aCons_at ey rfl)) (by simp)) ?_
    obtain ⟨p3, k3, d3⟩ := pk (δ := [some (.leaf (dL rs)), some (.leaf S), some (.leaf (.int b)), some (.leaf (.int c)), some (.leaf (.int v4)), some (.leaf (.int v5)), some (.leaf (.lst [.str x, .str y])), none, none, none, none]) (f1 := vL 3) (f2 := kD (.int 3)) (f3 := kD (.int 2)) rfl rfl rfl (by decide) (by decide)
    obtain ⟨z, ez⟩ : ∃ z : Str, ([.str x, .str y] : List Dt)[p3]? = some (.str z) := by
      have q : p3 = 0 ∨ p3 = 1 := by omega
      rcases q with rfl | rfl
      · exact ⟨x, rfl⟩
      · exact ⟨y, rfl⟩
    refine setX (ixB (fa := vB 6) rfl d3 ez) ?_
    obtain ⟨p4, k4, d4⟩ := pk (δ := [some (.leaf (dL rs)), some (.leaf S), some (.leaf (.int b)), some (.leaf (.int c)), some (.leaf (.int v4)), some (.leaf (.int v5)), some (.leaf (.lst [.str x, .str y])), some (.leaf (.str z)), none, none, none]) (f1 := vL 3) (f2 := kD (.int 4)) (f3 := kD (.int 70)) rfl rfl rfl (by decide) (by decide)
    refine setX (addK (lenR (f := vB 0) rfl) d4) ?_
    refine setX (lst_at (aCons_at (tup_at rfl (by simp)) (aCons_at (tup_at rfl (by simp)) (aCons_at (tup_at rfl (by simp)) (aCons_at (tup_at rfl (by simp)) rfl)))) (by simp)) ?_
    refine setX (addL_at (fa := vB 9) rfl (lst_at (aCons_at (tup_at rfl (by simp)) (aCons_at (tup_at rfl (by simp)) rfl)) (by simp)) (by simp)) ?_
    by_cases h6 : v5 = 6
    · subst h6
      obtain ⟨p5, k5, d5⟩ := pk (δ := [some (.leaf (dL rs)), some (.leaf S), some (.leaf (.int b)), some (.leaf (.int c)), some (.leaf (.int v4)), some (.leaf (.int 6)), some (.leaf (.lst [.str x, .str y])), some (.leaf (.str z)), some (.leaf (.int (rs.length + p4))), some (.leaf (.lst [.tup [.str "load", .str "x", .str z], .tup [.str "store", .str z, .int 5], .tup [.str "take", .str "y", .str z, .int 0], .tup [.str "lay", .str z, .int 1, .int 2], .tup [.str "if", .int 1, .int (rs.length + p4)], .tup [.str "go", .int (rs.length + p4)]])), none]) (f1 := vL 3) (f2 := kD (.int 5)) rfl rfl (lenR (f := vB 0) rfl) (by decide) (by omega)
      obtain ⟨p6, k6, d6⟩ := pk (δ := [some (.leaf (dL rs)), some (.leaf S), some (.leaf (.int b)), some (.leaf (.int c)), some (.leaf (.int v4)), some (.leaf (.int 6)), some (.leaf (.lst [.str x, .str y])), some (.leaf (.str z)), some (.leaf (.int (rs.length + p4))), some (.leaf (.lst [.tup [.str "load", .str "x", .str z], .tup [.str "store", .str z, .int 5], .tup [.str "take", .str "y", .str z, .int 0], .tup [.str "lay", .str z, .int 1, .int 2], .tup [.str "if", .int 1, .int (rs.length + p4)], .tup [.str "go", .int (rs.length + p4)]])), some (.leaf (.int p5))]) (f1 := vL 3) (f2 := kD (.int 6)) (f3 := kD (.int 4)) rfl rfl rfl (by decide) (by decide)
      obtain ⟨r, er⟩ : ∃ r : Rw, ([.tup [.str "say", .int 7], .tup [.str "if", .int 7, .int p5], .tup [.str "go", .int p5], .tup [.str "if", .str "x", .int p5]] : List Dt)[p6]? = some r.d := by
        have q : p6 = 0 ∨ p6 = 1 ∨ p6 = 2 ∨ p6 = 3 := by omega
        rcases q with rfl | rfl | rfl | rfl
        · exact ⟨.say (.vl 7), rfl⟩
        · exact ⟨.iff (.vl 7) p5, rfl⟩
        · exact ⟨.go p5, rfl⟩
        · exact ⟨.iff (.nm "x") p5, rfl⟩
      obtain ⟨q, eq, hq⟩ := vSl_at (δ := [some (.leaf (dL rs)), some (.leaf S), some (.leaf (.int b)), some (.leaf (.int c)), some (.leaf (.int v4)), some (.leaf (.int 6)), some (.leaf (.lst [.str x, .str y])), some (.leaf (.str z)), some (.leaf (.int (rs.length + p4))), some (.leaf (.lst [.tup [.str "load", .str "x", .str z], .tup [.str "store", .str z, .int 5], .tup [.str "take", .str "y", .str z, .int 0], .tup [.str "lay", .str z, .int 1, .int 2], .tup [.str "if", .int 1, .int (rs.length + p4)], .tup [.str "go", .int (rs.length + p4)]])), some (.leaf (.int p5))]) (fa := vB 0) (fl := oNone) (fh := oSome (toD (vNeg (kD (.int 1))))) rfl rfl rfl
      refine ⟨.lst ((q ++ [r]).map Rw.d), ifs_t (tB2_at rfl rfl rfl) ?_, q ++ [r], rfl, by simp; omega⟩
      refine seqT d5 ?_
      exact sRet_at (addR eq (oneR (ixL (aCons_at (tup_at rfl (by simp)) (aCons_at (tup_at rfl (by simp)) (aCons_at (tup_at rfl (by simp)) (aCons_at (tup_at rfl (by simp)) rfl)))) (by simp) d6 er)) (by simp; omega))
    · refine ifX (tB2_at (x := .int v5) (y := .int 6) rfl rfl (by rw [gEq_ii]; simp; omega)) ?_
      by_cases h7 : v5 = 7
      · subst h7
        exact ⟨.lst [], ifs_t (tB2_at rfl rfl rfl) (sRet_at (by rw [vLst_d]; rfl)), [], rfl, by simp⟩
      · refine ifX (tB2_at (x := .int v5) (y := .int 7) rfl rfl (by rw [gEq_ii]; simp; omega)) ?_
        obtain ⟨r, er⟩ : ∃ r : Rw, ([.tup [.str "load", .str "x", .str z], .tup [.str "store", .str z, .int 5], .tup [.str "take", .str "y", .str z, .int 0], .tup [.str "lay", .str z, .int 1, .int 2], .tup [.str "if", .int 1, .int (rs.length + p4)], .tup [.str "go", .int (rs.length + p4)]] : List Dt)[v5]? = some r.d := by
          have q : v5 = 0 ∨ v5 = 1 ∨ v5 = 2 ∨ v5 = 3 ∨ v5 = 4 ∨ v5 = 5 := by omega
          rcases q with rfl | rfl | rfl | rfl | rfl | rfl
          · exact ⟨.load "x" z, rfl⟩
          · exact ⟨.store z (.vl 5), rfl⟩
          · exact ⟨.take "y" z (.vl 0), rfl⟩
          · exact ⟨.lay z (.vl 1) (.vl 2), rfl⟩
          · exact ⟨.iff (.vl 1) (rs.length + p4), by simp [Rw.d, Atm.d]⟩
          · exact ⟨.go (rs.length + p4), by simp [Rw.d]⟩
        obtain ⟨q, eq, hq⟩ := vSl_at (δ := [some (.leaf (dL rs)), some (.leaf S), some (.leaf (.int b)), some (.leaf (.int c)), some (.leaf (.int v4)), some (.leaf (.int v5)), some (.leaf (.lst [.str x, .str y])), some (.leaf (.str z)), some (.leaf (.int (rs.length + p4))), some (.leaf (.lst [.tup [.str "load", .str "x", .str z], .tup [.str "store", .str z, .int 5], .tup [.str "take", .str "y", .str z, .int 0], .tup [.str "lay", .str z, .int 1, .int 2], .tup [.str "if", .int 1, .int (rs.length + p4)], .tup [.str "go", .int (rs.length + p4)]])), none]) (fa := vB 0) (fl := oNone) (fh := oSome (vB 4)) rfl rfl (oSome_at rfl)
        obtain ⟨q2, eq2, hq2⟩ := vSl_at (δ := [some (.leaf (dL rs)), some (.leaf S), some (.leaf (.int b)), some (.leaf (.int c)), some (.leaf (.int v4)), some (.leaf (.int v5)), some (.leaf (.lst [.str x, .str y])), some (.leaf (.str z)), some (.leaf (.int (rs.length + p4))), some (.leaf (.lst [.tup [.str "load", .str "x", .str z], .tup [.str "store", .str z, .int 5], .tup [.str "take", .str "y", .str z, .int 0], .tup [.str "lay", .str z, .int 1, .int 2], .tup [.str "if", .int 1, .int (rs.length + p4)], .tup [.str "go", .int (rs.length + p4)]])), none]) (fa := vB 0) (fl := oSome (toD (d2 gAdd (vB 4) (kD (.int 1))))) (fh := oNone) rfl (oSome_at (addK rfl rfl)) rfl
        refine ⟨.lst (((q ++ [r]) ++ q2).map Rw.d), sRet_at (addR (p := q ++ [r]) (q := q2) (toD_at (t := .lst ((q ++ [r]).map Rw.d)) (addR eq (oneR (ixB (fa := vB 9) rfl rfl er)) (by simp; omega))) eq2 (by simp; omega)), (q ++ [r]) ++ q2, rfl, by simp; omega⟩
end P14

namespace P14
open PySem L2
theorem ways_of_ok (n : Nat) (r : Rw) : F_ways_of [.int n, r.d] = some (.leaf (.tup ((r.outs n).map dI))) := by
  cases r <;> kernel_rfl
theorem ways_ok (c s : Dt) (rows : List Rw) (h : rows.length ≤ 1000) : F_ways [.tup [c, s, dR rows]] = some (.lst (rows.mapIdx fun k r => .tup ((r.outs k).map dI))) := by
  unfold F_ways
  (simp -implicitDefEqProofs only [L2.runD_d, L2.finO_rt, L2.sSeq_d, L2.thenO_nx, L2.thenO_rt, L2.sNil, L2.sSet, L2.sRet, L2.sRetV, L2.sIf_d, L2.condO_t, L2.condO_f, L2.sFor_d, L2.sFrz, L2.sPut, L2.toT, L2.toD, L2.T.d, L2.kD, L2.vL, L2.vB, L2.d2, L2.tB2, L2.fTru, L2.fNot, L2.fOr_d, L2.vNot, L2.vIf_d, L2.aNil, L2.aCons, L2.vTup_d, L2.vLst_d, L2.mkL_of, L2.mkTp_of, L2.vCall, L2.vMeth, L2.vComp_d, L2.vSl, L2.oNone, L2.oSome, L2.vInst, L2.instD, L2.isIns, L2.vNeg, L2.fIt, L2.fRng, L2.bName, L2.dC, L2.tYesD, L2.gAdd_i, L2.atI_0, L2.atI_1, L2.atI_2, L2.gAdd_ls, L2.gIn_l, List.all_cons, List.all_nil, List.any_cons, List.any_nil, L2.gMul_l, L2.gMul_r, L2.gMod_i, L2.gPow_40, L2.gMod_w, L2.gCmp_i, L2.gEq_ii, L2.gEq_ss, L2.isNon, L2.gIx_l, L2.gIx_t, L2.gLen_l, L2.asB_b, List.map_cons, List.map_nil, List.length_cons, List.length_nil, List.cons_append, List.nil_append, List.replicate, List.getElem?_cons_zero, List.getElem?_cons_succ, List.set_cons_zero, List.set_cons_succ, Option.bind_some, Option.bind_none, Option.map_some, Option.map_none, Option.join_some, Option.join_none, Nat.reduceAdd, Nat.reduceSub, Nat.reduceLeDiff, Int.reduceLT, Int.reduceEq, eq_self, Int.reduceNeg, Int.reduceLE, if_true, if_false, ite_true, ite_false, Bool.false_eq_true, decide_true, decide_false, Bool.not_true, Bool.not_false, Bool.and_true, Bool.true_and, Bool.or_true, Bool.true_or, Bool.or_false, Bool.false_or, Bool.and_false, Bool.false_and, String.reduceBEq, reduceCtorEq, L2.ne_copy_if, L2.ne_copy_go, L2.ne_copy_end, L2.ne_op_if, L2.ne_op_go, L2.ne_op_end, L2.ne_load_if, L2.ne_load_go, L2.ne_load_end, L2.ne_store_if, L2.ne_store_go, L2.ne_store_end, L2.ne_take_if, L2.ne_take_go, L2.ne_take_end, L2.ne_lay_if, L2.ne_lay_go, L2.ne_lay_end, L2.ne_hear_if, L2.ne_hear_go, L2.ne_hear_end, L2.ne_say_if, L2.ne_say_go, L2.ne_say_end, L2.ne_if_go, L2.ne_end_if, L2.ne_end_go])
  unfold enumD dR
  (simp -implicitDefEqProofs only [L2.runD_d, L2.finO_rt, L2.sSeq_d, L2.thenO_nx, L2.thenO_rt, L2.sNil, L2.sSet, L2.sRet, L2.sRetV, L2.sIf_d, L2.condO_t, L2.condO_f, L2.sFor_d, L2.sFrz, L2.sPut, L2.toT, L2.toD, L2.T.d, L2.kD, L2.vL, L2.vB, L2.d2, L2.tB2, L2.fTru, L2.fNot, L2.fOr_d, L2.vNot, L2.vIf_d, L2.aNil, L2.aCons, L2.vTup_d, L2.vLst_d, L2.mkL_of, L2.mkTp_of, L2.vCall, L2.vMeth, L2.vComp_d, L2.vSl, L2.oNone, L2.oSome, L2.vInst, L2.instD, L2.isIns, L2.vNeg, L2.fIt, L2.fRng, L2.bName, L2.dC, L2.tYesD, L2.gAdd_i, L2.atI_0, L2.atI_1, L2.atI_2, L2.gAdd_ls, L2.gIn_l, List.all_cons, List.all_nil, List.any_cons, List.any_nil, L2.gMul_l, L2.gMul_r, L2.gMod_i, L2.gPow_40, L2.gMod_w, L2.gCmp_i, L2.gEq_ii, L2.gEq_ss, L2.isNon, L2.gIx_l, L2.gIx_t, L2.gLen_l, L2.asB_b, List.map_cons, List.map_nil, List.length_cons, List.length_nil, List.cons_append, List.nil_append, List.replicate, List.getElem?_cons_zero, List.getElem?_cons_succ, List.set_cons_zero, List.set_cons_succ, Option.bind_some, Option.bind_none, Option.map_some, Option.map_none, Option.join_some, Option.join_none, Nat.reduceAdd, Nat.reduceSub, Nat.reduceLeDiff, Int.reduceLT, Int.reduceEq, eq_self, Int.reduceNeg, Int.reduceLE, if_true, if_false, ite_true, ite_false, Bool.false_eq_true, decide_true, decide_false, Bool.not_true, Bool.not_false, Bool.and_true, Bool.true_and, Bool.or_true, Bool.true_or, Bool.or_false, Bool.false_or, Bool.and_false, Bool.false_and, String.reduceBEq, reduceCtorEq, L2.ne_copy_if, L2.ne_copy_go, L2.ne_copy_end, L2.ne_op_if, L2.ne_op_go, L2.ne_op_end, L2.ne_load_if, L2.ne_load_go, L2.ne_load_end, L2.ne_store_if, L2.ne_store_go, L2.ne_store_end, L2.ne_take_if, L2.ne_take_go, L2.ne_take_end, L2.ne_lay_if, L2.ne_lay_go, L2.ne_lay_end, L2.ne_hear_if, L2.ne_hear_go, L2.ne_hear_end, L2.ne_say_if, L2.ne_say_go, L2.ne_say_end, L2.ne_if_go, L2.ne_end_if, L2.ne_end_go])
  rw [compL_enum (h := fun k r => .tup ((r.outs k).map dI)) 0 fun k a => ⟨_, rfl, by
    unfold E_ways_0
    (simp -implicitDefEqProofs only [L2.runD_d, L2.finO_rt, L2.sSeq_d, L2.thenO_nx, L2.thenO_rt, L2.sNil, L2.sSet, L2.sRet, L2.sRetV, L2.sIf_d, L2.condO_t, L2.condO_f, L2.sFor_d, L2.sFrz, L2.sPut, L2.toT, L2.toD, L2.T.d, L2.kD, L2.vL, L2.vB, L2.d2, L2.tB2, L2.fTru, L2.fNot, L2.fOr_d, L2.vNot, L2.vIf_d, L2.aNil, L2.aCons, L2.vTup_d, L2.vLst_d, L2.mkL_of, L2.mkTp_of, L2.vCall, L2.vMeth, L2.vComp_d, L2.vSl, L2.oNone, L2.oSome, L2.vInst, L2.instD, L2.isIns, L2.vNeg, L2.fIt, L2.fRng, L2.bName, L2.dC, L2.tYesD, L2.gAdd_i, L2.atI_0, L2.atI_1, L2.atI_2, L2.gAdd_ls, L2.gIn_l, List.all_cons, List.all_nil, List.any_cons, List.any_nil, L2.gMul_l, L2.gMul_r, L2.gMod_i, L2.gPow_40, L2.gMod_w, L2.gCmp_i, L2.gEq_ii, L2.gEq_ss, L2.isNon, L2.gIx_l, L2.gIx_t, L2.gLen_l, L2.asB_b, List.map_cons, List.map_nil, List.length_cons, List.length_nil, List.cons_append, List.nil_append, List.replicate, List.getElem?_cons_zero, List.getElem?_cons_succ, List.set_cons_zero, List.set_cons_succ, Option.bind_some, Option.bind_none, Option.map_some, Option.map_none, Option.join_some, Option.join_none, Nat.reduceAdd, Nat.reduceSub, Nat.reduceLeDiff, Int.reduceLT, Int.reduceEq, eq_self, Int.reduceNeg, Int.reduceLE, if_true, if_false, ite_true, ite_false, Bool.false_eq_true, decide_true, decide_false, Bool.not_true, Bool.not_false, Bool.and_true, Bool.true_and, Bool.or_true, Bool.true_or, Bool.or_false, Bool.false_or, Bool.and_false, Bool.false_and, String.reduceBEq, reduceCtorEq, L2.ne_copy_if, L2.ne_copy_go, L2.ne_copy_end, L2.ne_op_if, L2.ne_op_go, L2.ne_op_end, L2.ne_load_if, L2.ne_load_go, L2.ne_load_end, L2.ne_store_if, L2.ne_store_go, L2.ne_store_end, L2.ne_take_if, L2.ne_take_go, L2.ne_take_end, L2.ne_lay_if, L2.ne_lay_go, L2.ne_lay_end, L2.ne_hear_if, L2.ne_hear_go, L2.ne_hear_end, L2.ne_say_if, L2.ne_say_go, L2.ne_say_end, L2.ne_if_go, L2.ne_end_if, L2.ne_end_go])
    rw [ways_of_ok]
    (simp -implicitDefEqProofs only [L2.runD_d, L2.finO_rt, L2.sSeq_d, L2.thenO_nx, L2.thenO_rt, L2.sNil, L2.sSet, L2.sRet, L2.sRetV, L2.sIf_d, L2.condO_t, L2.condO_f, L2.sFor_d, L2.sFrz, L2.sPut, L2.toT, L2.toD, L2.T.d, L2.kD, L2.vL, L2.vB, L2.d2, L2.tB2, L2.fTru, L2.fNot, L2.fOr_d, L2.vNot, L2.vIf_d, L2.aNil, L2.aCons, L2.vTup_d, L2.vLst_d, L2.mkL_of, L2.mkTp_of, L2.vCall, L2.vMeth, L2.vComp_d, L2.vSl, L2.oNone, L2.oSome, L2.vInst, L2.instD, L2.isIns, L2.vNeg, L2.fIt, L2.fRng, L2.bName, L2.dC, L2.tYesD, L2.gAdd_i, L2.atI_0, L2.atI_1, L2.atI_2, L2.gAdd_ls, L2.gIn_l, List.all_cons, List.all_nil, List.any_cons, List.any_nil, L2.gMul_l, L2.gMul_r, L2.gMod_i, L2.gPow_40, L2.gMod_w, L2.gCmp_i, L2.gEq_ii, L2.gEq_ss, L2.isNon, L2.gIx_l, L2.gIx_t, L2.gLen_l, L2.asB_b, List.map_cons, List.map_nil, List.length_cons, List.length_nil, List.cons_append, List.nil_append, List.replicate, List.getElem?_cons_zero, List.getElem?_cons_succ, List.set_cons_zero, List.set_cons_succ, Option.bind_some, Option.bind_none, Option.map_some, Option.map_none, Option.join_some, Option.join_none, Nat.reduceAdd, Nat.reduceSub, Nat.reduceLeDiff, Int.reduceLT, Int.reduceEq, eq_self, Int.reduceNeg, Int.reduceLE, if_true, if_false, ite_true, ite_false, Bool.false_eq_true, decide_true, decide_false, Bool.not_true, Bool.not_false, Bool.and_true, Bool.true_and, Bool.or_true, Bool.true_or, Bool.or_false, Bool.false_or, Bool.and_false, Bool.false_and, String.reduceBEq, reduceCtorEq, L2.ne_copy_if, L2.ne_copy_go, L2.ne_copy_end, L2.ne_op_if, L2.ne_op_go, L2.ne_op_end, L2.ne_load_if, L2.ne_load_go, L2.ne_load_end, L2.ne_store_if, L2.ne_store_go, L2.ne_store_end, L2.ne_take_if, L2.ne_take_go, L2.ne_take_end, L2.ne_lay_if, L2.ne_lay_go, L2.ne_lay_end, L2.ne_hear_if, L2.ne_hear_go, L2.ne_hear_end, L2.ne_say_if, L2.ne_say_go, L2.ne_say_end, L2.ne_if_go, L2.ne_end_if, L2.ne_end_go])⟩]
  (simp -implicitDefEqProofs only [L2.runD_d, L2.finO_rt, L2.sSeq_d, L2.thenO_nx, L2.thenO_rt, L2.sNil, L2.sSet, L2.sRet, L2.sRetV, L2.sIf_d, L2.condO_t, L2.condO_f, L2.sFor_d, L2.sFrz, L2.sPut, L2.toT, L2.toD, L2.T.d, L2.kD, L2.vL, L2.vB, L2.d2, L2.tB2, L2.fTru, L2.fNot, L2.fOr_d, L2.vNot, L2.vIf_d, L2.aNil, L2.aCons, L2.vTup_d, L2.vLst_d, L2.mkL_of, L2.mkTp_of, L2.vCall, L2.vMeth, L2.vComp_d, L2.vSl, L2.oNone, L2.oSome, L2.vInst, L2.instD, L2.isIns, L2.vNeg, L2.fIt, L2.fRng, L2.bName, L2.dC, L2.tYesD, L2.gAdd_i, L2.atI_0, L2.atI_1, L2.atI_2, L2.gAdd_ls, L2.gIn_l, List.all_cons, List.all_nil, List.any_cons, List.any_nil, L2.gMul_l, L2.gMul_r, L2.gMod_i, L2.gPow_40, L2.gMod_w, L2.gCmp_i, L2.gEq_ii, L2.gEq_ss, L2.isNon, L2.gIx_l, L2.gIx_t, L2.gLen_l, L2.asB_b, List.map_cons, List.map_nil, List.length_cons, List.length_nil, List.cons_append, List.nil_append, List.replicate, List.getElem?_cons_zero, List.getElem?_cons_succ, List.set_cons_zero, List.set_cons_succ, Option.bind_some, Option.bind_none, Option.map_some, Option.map_none, Option.join_some, Option.join_none, Nat.reduceAdd, Nat.reduceSub, Nat.reduceLeDiff, Int.reduceLT, Int.reduceEq, eq_self, Int.reduceNeg, Int.reduceLE, if_true, if_false, ite_true, ite_false, Bool.false_eq_true, decide_true, decide_false, Bool.not_true, Bool.not_false, Bool.and_true, Bool.true_and, Bool.or_true, Bool.true_or, Bool.or_false, Bool.false_or, Bool.and_false, Bool.false_and, String.reduceBEq, reduceCtorEq, L2.ne_copy_if, L2.ne_copy_go, L2.ne_copy_end, L2.ne_op_if, L2.ne_op_go, L2.ne_op_end, L2.ne_load_if, L2.ne_load_go, L2.ne_load_end, L2.ne_store_if, L2.ne_store_go, L2.ne_store_end, L2.ne_take_if, L2.ne_take_go, L2.ne_take_end, L2.ne_lay_if, L2.ne_lay_go, L2.ne_lay_end, L2.ne_hear_if, L2.ne_hear_go, L2.ne_hear_end, L2.ne_say_if, L2.ne_say_go, L2.ne_say_end, L2.ne_if_go, L2.ne_end_if, L2.ne_end_go])
  rw [mkL_of (by rw [List.length_mapIdx]; omega)]
  (simp -implicitDefEqProofs only [L2.runD_d, L2.finO_rt, L2.sSeq_d, L2.thenO_nx, L2.thenO_rt, L2.sNil, L2.sSet, L2.sRet, L2.sRetV, L2.sIf_d, L2.condO_t, L2.condO_f, L2.sFor_d, L2.sFrz, L2.sPut, L2.toT, L2.toD, L2.T.d, L2.kD, L2.vL, L2.vB, L2.d2, L2.tB2, L2.fTru, L2.fNot, L2.fOr_d, L2.vNot, L2.vIf_d, L2.aNil, L2.aCons, L2.vTup_d, L2.vLst_d, L2.mkL_of, L2.mkTp_of, L2.vCall, L2.vMeth, L2.vComp_d, L2.vSl, L2.oNone, L2.oSome, L2.vInst, L2.instD, L2.isIns, L2.vNeg, L2.fIt, L2.fRng, L2.bName, L2.dC, L2.tYesD, L2.gAdd_i, L2.atI_0, L2.atI_1, L2.atI_2, L2.gAdd_ls, L2.gIn_l, List.all_cons, List.all_nil, List.any_cons, List.any_nil, L2.gMul_l, L2.gMul_r, L2.gMod_i, L2.gPow_40, L2.gMod_w, L2.gCmp_i, L2.gEq_ii, L2.gEq_ss, L2.isNon, L2.gIx_l, L2.gIx_t, L2.gLen_l, L2.asB_b, List.map_cons, List.map_nil, List.length_cons, List.length_nil, List.cons_append, List.nil_append, List.replicate, List.getElem?_cons_zero, List.getElem?_cons_succ, List.set_cons_zero, List.set_cons_succ, Option.bind_some, Option.bind_none, Option.map_some, Option.map_none, Option.join_some, Option.join_none, Nat.reduceAdd, Nat.reduceSub, Nat.reduceLeDiff, Int.reduceLT, Int.reduceEq, eq_self, Int.reduceNeg, Int.reduceLE, if_true, if_false, ite_true, ite_false, Bool.false_eq_true, decide_true, decide_false, Bool.not_true, Bool.not_false, Bool.and_true, Bool.true_and, Bool.or_true, Bool.true_or, Bool.or_false, Bool.false_or, Bool.and_false, Bool.false_and, String.reduceBEq, reduceCtorEq, L2.ne_copy_if, L2.ne_copy_go, L2.ne_copy_end, L2.ne_op_if, L2.ne_op_go, L2.ne_op_end, L2.ne_load_if, L2.ne_load_go, L2.ne_load_end, L2.ne_store_if, L2.ne_store_go, L2.ne_store_end, L2.ne_take_if, L2.ne_take_go, L2.ne_take_end, L2.ne_lay_if, L2.ne_lay_go, L2.ne_lay_end, L2.ne_hear_if, L2.ne_hear_go, L2.ne_hear_end, L2.ne_say_if, L2.ne_say_go, L2.ne_say_end, L2.ne_if_go, L2.ne_end_if, L2.ne_end_go])
  simp

noncomputable def unk (C S : List Str) : Rw → Option Str
  | .load _ c => if c ∈ C then none else some c
  | .store c _ => if c ∈ C then none else some c
  | .take _ f _ => if f ∈ S then none else some f
  | .lay f _ _ => if f ∈ S then none else some f
  | _ => none
noncomputable def wD : Option Str → Dt
  | none => .non
  | some w => .str w
theorem in_at {f1 f2 : De → Option Dt} {δ : De} {x : Str} {l : List Str} (h1 : f1 δ = some (.str x)) (h2 : f2 δ = some (.lst (l.map .str))) : tB2 (gInA false) f1 f2 δ = some (decide (x ∈ l)) := tB2_at h1 h2 (by rw [gIn_strs]; rfl)
theorem vIf_at {c : De → Option Bool} {f g : De → Option T} {δ : De} {b : Bool} {t : T} (hc : c δ = some b) (h1 : b = true → f δ = some t) (h2 : b = false → g δ = some t) : vIf c f g δ = some t := by
  rw [vIf_d, hc]
  cases b with
  | true => exact h1 rfl
  | false => exact h2 rfl
theorem word_at {g : De → Option T} {δ : De} {x : Str} {l : List Str} {i j : Nat} (h1 : vB i δ = some (.str x)) (h2 : vB j δ = some (.lst (l.map .str))) (h3 : vL i δ = some (.str x)) : sRet (vIf (tB2 (gInA false) (vB i) (vB j)) (toT (kD .non)) (toT (vL i))) δ = some (.rt (.leaf (wD (if x ∈ l then none else some x)))) := by
  refine sRet_at (vIf_at (in_at h1 h2) (fun h => ?_) fun h => ?_)
  · rw [if_pos (by simpa using h)]
    rfl
  · rw [if_neg (by simpa using h), toT_at h3]
    rfl
theorem unk_ok (C S : List Str) (r : Rw) : F_unknown_word [r.d, .lst (C.map .str), .lst (S.map .str)] = some (.leaf (wD (unk C S r))) := by
  unfold F_unknown_word
  refine dRt ?_
  cases r with
  | load x c => exact ifs_t rfl (seqT (d := .str c) rfl (word_at (g := fun _ => none) rfl rfl rfl))
  | store c a => exact ifs_t rfl (seqT (d := .str c) rfl (word_at (g := fun _ => none) rfl rfl rfl))
  | take x f a => exact (ifs_f rfl).trans (ifs_t rfl (seqT (d := .str f) rfl (word_at (g := fun _ => none) rfl rfl rfl)))
  | lay f a b => exact (ifs_f rfl).trans (ifs_t rfl (seqT (d := .str f) rfl (word_at (g := fun _ => none) rfl rfl rfl)))
  | _ => exact (ifs_f rfl).trans ((ifs_f rfl).trans rfl)
noncomputable def fU (C S : List Str) : Nat → List Rw → Option (Str × Nat)
  | _, [] => none
  | k, r :: rs => match unk C S r with
    | some w => some (w, k)
    | none => fU C S (k + 1) rs
structure Hd where
  x : Str
  n : Int
  b : Bool
noncomputable def hdD (h : Hd) : Dt := .tup [.str h.x, .int h.n, .bl h.b]
noncomputable def prg (cs ss : List Hd) (rows : List Rw) : Dt := .tup [.tup (cs.map hdD), .tup (ss.map hdD), dR rows]
noncomputable def xU (w : Str) (k : Nat) : T := .rse "Unknown" [("word", .str w), ("row", .int k)]
noncomputable def xF (k : Nat) : T := .rse "Falls" [("row", .int k)]
theorem forD_step {bb : Dt → De → Option De} {g : De → Option Out} {d : Dt} {r : List Dt} {δ δ1 : De} (h1 : bb d δ = some δ1) : forD bb g (d :: r) δ = (g δ1).bind fun o => match o with
    | .nx δ2 => forD bb g r δ2
    | .ct δ2 => forD bb g r δ2
    | .bk δ2 => some (.nx δ2)
    | .rt t => some (.rt t) := by
  rw [forD, h1]
  rfl
theorem unk_body (P : Option T) (C S : List Str) (k : Nat) (r : Rw) (y : Option T) : B_refuse_unknown_0 [P, some (.leaf (.lst (C.map .str))), some (.leaf (.lst (S.map .str))), some (.leaf (.int k)), some (.leaf r.d), y] =
    match unk C S r with
    | some w => some (.rt (xU w k))
    | none => some (.nx [P, some (.leaf (.lst (C.map .str))), some (.leaf (.lst (S.map .str))), some (.leaf (.int k)), some (.leaf r.d), some (.leaf .non)]) := by
  unfold B_refuse_unknown_0
  refine seqT (d := wD (unk C S r)) (toD_at (t := .leaf (wD (unk C S r))) ((call3_at rfl rfl rfl).trans (unk_ok C S r))) ?_
  cases unk C S r with
  | none => rfl
  | some w => rfl
theorem unk_loop (P : Option T) (C S : List Str) : ∀ (rs : List Rw) (k : Nat) (x3 x4 x5 : Option T), ∃ y3 y4 y5, forD (bTup 2 (bCons (bName 3) (bCons (bName 4) bNil))) B_refuse_unknown_0 (enumL k (rs.map Rw.d)) [P, some (.leaf (.lst (C.map .str))), some (.leaf (.lst (S.map .str))), x3, x4, x5] = match fU C S k rs with
    | some (w, n) => some (.rt (xU w n))
    | none => some (.nx [P, some (.leaf (.lst (C.map .str))), some (.leaf (.lst (S.map .str))), y3, y4, y5])
  | [], k, x3, x4, x5 => ⟨x3, x4, x5, rfl⟩
  | r :: rs, k, x3, x4, x5 => by
    obtain ⟨y3, y4, y5, e⟩ := unk_loop P C S rs (k + 1) (some (.leaf (.int k))) (some (.leaf r.d)) (some (.leaf .non))
    refine ⟨y3, y4, y5, ?_⟩
    show forD _ _ (.tup [.int k, r.d] :: enumL (k + 1) (rs.map Rw.d)) _ = _
    rw [forD_step (δ1 := [P, some (.leaf (.lst (C.map .str))), some (.leaf (.lst (S.map .str))), some (.leaf (.int k)), some (.leaf r.d), x5]) rfl, unk_body]
    unfold fU
    cases unk C S r with
    | some w => rfl
    | none => exact e
theorem heads_at {E : De → Option Dt} (hE : ∀ d, E [some (.leaf d)] = toD (d2 gIxA (vB 0) (kD (.int 0))) [some (.leaf d)]) (l : List Hd) : compL (bName 0) tYesD E [none] (l.map hdD) = some ((l.map (·.x)).map .str) := by
  induction l with
  | nil => rfl
  | cons h l ih =>
    simp only [List.map_cons, compL]
    show (some [some (T.leaf (hdD h))]).bind _ = _
    rw [Option.bind_some]
    show (some true).bind _ = _
    rw [Option.bind_some, if_pos rfl, hE, ih]
    rfl
theorem refU_ok (cs ss : List Hd) (rows : List Rw) (hc : cs.length ≤ 1000) (hs : ss.length ≤ 1000) : F_refuse_unknown [prg cs ss rows] = match fU (cs.map (·.x)) (ss.map (·.x)) 0 rows with
    | some (w, n) => some (xU w n)
    | none => some (.leaf .non) := by
  unfold F_refuse_unknown
  obtain ⟨y3, y4, y5, e⟩ := unk_loop (some (.leaf (prg cs ss rows))) (cs.map (·.x)) (ss.map (·.x)) rows 0 none none none
  have e2 : (sSeq (sSet 1 (toT (toD (vComp [none] (fIt (toD (d2 gIxA (vB 0) (kD (.int 0))))) (bName 0) tYesD E_refuse_unknown_0)))) (sSeq (sSet 2 (toT (toD (vComp [none] (fIt (toD (d2 gIxA (vB 0) (kD (.int 1))))) (bName 0) tYesD E_refuse_unknown_1))))
    (sFor (fRng enumD (aCons (toD (d2 gIxA (vB 0) (kD (.int 2)))) aNil)) (bTup 2 (bCons (bName 3) (bCons (bName 4) bNil))) B_refuse_unknown_0))) [some (.leaf (prg cs ss rows)), none, none, none, none, none] = match fU (cs.map (·.x)) (ss.map (·.x)) 0 rows with
    | some (w, n) => some (.rt (xU w n))
    | none => some (.nx [some (.leaf (prg cs ss rows)), some (.leaf (.lst ((cs.map (·.x)).map .str))), some (.leaf (.lst ((ss.map (·.x)).map .str))), y3, y4, y5]) := by
    refine seqT (d := .lst ((cs.map (·.x)).map .str)) (toD_at (t := .lst ((cs.map (·.x)).map .str)) (vComp_at (ds := cs.map hdD) rfl (heads_at (fun _ => rfl) cs) (by simp; omega))) ?_
    refine seqT (d := .lst ((ss.map (·.x)).map .str)) (toD_at (t := .lst ((ss.map (·.x)).map .str)) (vComp_at (ds := ss.map hdD) rfl (heads_at (fun _ => rfl) ss) (by simp; omega))) ?_
    exact e
  rw [runD_d]
  show finO ((sSeq _ _) [some (.leaf (prg cs ss rows)), none, none, none, none, none]) = _
  rw [e2]
  cases fU (cs.map (·.x)) (ss.map (·.x)) 0 rows with
  | none => rfl
  | some p => rfl
noncomputable def fF (n : Nat) : Nat → List Rw → Option Nat
  | _, [] => none
  | k, r :: rs => if (r.outs k).any (fun g => decide (n ≤ g)) then some k else fF n (k + 1) rs
theorem any_at (n : Nat) (k : Option T) : ∀ l : List Nat, compL (bName 0) tYesD E_refuse_falls_0 [k, some (.leaf (.int n))] (l.map dI) = some ((l.map fun g => decide (n ≤ g)).map .bl)
  | [] => rfl
  | g :: l => by
    simp only [List.map_cons, compL]
    show (some [some (T.leaf (dI g)), some (T.leaf (.int n))]).bind _ = _
    rw [Option.bind_some]
    show (some true).bind _ = _
    rw [Option.bind_some, if_pos rfl]
    have : E_refuse_falls_0 [some (T.leaf (dI g)), some (T.leaf (.int n))] = some (.bl (decide (n ≤ g))) := by
      show some (Dt.bl (decide ((n : Int) ≤ (g : Int)))) = _
      congr 2
      simp
    rw [this, Option.bind_some, any_at n k l]
    rfl
theorem asBls_map : ∀ l : List Bool, asBls (l.map .bl) = some l
  | [] => rfl
  | b :: l => by simp only [List.map_cons, asBls, asBls_map l]; rfl
theorem fal_body (P : Option T) (n k : Nat) (l : List Nat) (hl : l.length ≤ 1000) : B_refuse_falls_0 [P, some (.leaf (.int n)), some (.leaf (.int k)), some (.leaf (.tup (l.map dI)))] =
    if l.any (fun g => decide (n ≤ g)) then some (.rt (xF k)) else some (.nx [P, some (.leaf (.int n)), some (.leaf (.int k)), some (.leaf (.tup (l.map dI)))]) := by
  unfold B_refuse_falls_0
  have e : fTru (toD (vCall (gAll fun bs => bs.any id) (aCons (toD (vComp [none, some 1] (fIt (vB 3)) (bName 0) tYesD E_refuse_falls_0)) aNil))) [P, some (.leaf (.int n)), some (.leaf (.int k)), some (.leaf (.tup (l.map dI)))] = some (l.any fun g => decide (n ≤ g)) := by
    have e1 : toD (vComp [none, some 1] (fIt (vB 3)) (bName 0) tYesD E_refuse_falls_0) [P, some (.leaf (.int n)), some (.leaf (.int k)), some (.leaf (.tup (l.map dI)))] = some (.lst ((l.map fun g => decide (n ≤ g)).map .bl)) :=
      toD_at (t := .lst ((l.map fun g => decide (n ≤ g)).map .bl)) (vComp_at (ds := l.map dI) rfl (any_at n none l) (by simp; omega))
    have e2 : toD (vCall (gAll fun bs => bs.any id) (aCons (toD (vComp [none, some 1] (fIt (vB 3)) (bName 0) tYesD E_refuse_falls_0)) aNil)) [P, some (.leaf (.int n)), some (.leaf (.int k)), some (.leaf (.tup (l.map dI)))] = some (.bl (l.any fun g => decide (n ≤ g))) :=
      toD_at (t := .leaf (.bl (l.any fun g => decide (n ≤ g)))) ((call1_at e1).trans (by
        show ((asBls ((l.map fun g => decide (n ≤ g)).map .bl)).map _) = _
        rw [asBls_map, Option.map_some]
        dsimp only
        rw [List.any_map]
        rfl))
    unfold fTru
    rw [e2]
    rfl
  rw [sIf_d, e]
  cases l.any fun g => decide (n ≤ g) with
  | true => rfl
  | false => rfl
theorem outs_len (r : Rw) (k : Nat) : (r.outs k).length ≤ 2 := by cases r <;> simp [Rw.outs]
theorem fal_loop (P : Option T) (n : Nat) : ∀ (rs : List Rw) (k : Nat) (x2 x3 : Option T), ∃ y2 y3, forD (bTup 2 (bCons (bName 2) (bCons (bName 3) bNil))) B_refuse_falls_0 (enumL k (rs.mapIdx fun j r => .tup ((r.outs (k + j)).map dI))) [P, some (.leaf (.int n)), x2, x3] = match fF n k rs with
    | some j => some (.rt (xF j))
    | none => some (.nx [P, some (.leaf (.int n)), y2, y3])
  | [], k, x2, x3 => ⟨x2, x3, rfl⟩
  | r :: rs, k, x2, x3 => by
    obtain ⟨y2, y3, e⟩ := fal_loop P n rs (k + 1) (some (.leaf (.int k))) (some (.leaf (.tup ((r.outs k).map dI))))
    refine ⟨y2, y3, ?_⟩
    rw [List.mapIdx_cons]
    show forD _ _ (.tup [.int k, .tup ((r.outs (k + 0)).map dI)] :: enumL (k + 1) _) _ = _
    rw [forD_step (δ1 := [P, some (.leaf (.int n)), some (.leaf (.int k)), some (.leaf (.tup ((r.outs k).map dI)))]) rfl, fal_body P n k _ (Nat.le_trans (outs_len r k) (by decide))]
    unfold fF
    cases (r.outs k).any fun g => decide (n ≤ g) with
    | true => rfl
    | false =>
      rw [if_neg Bool.false_ne_true, if_neg Bool.false_ne_true]
      have : (rs.mapIdx fun j r => Dt.tup ((r.outs (k + (j + 1))).map dI)) = rs.mapIdx fun j r => Dt.tup ((r.outs (k + 1 + j)).map dI) := by
        congr 1
        funext j r
        rw [show k + (j + 1) = k + 1 + j by omega]
      rw [this]
      exact e
noncomputable def fFa (rows : List Rw) : Option Nat := if rows = [] then some 0 else fF rows.length 0 rows
theorem refF_ok (cs ss : List Hd) (rows : List Rw) (h : rows.length ≤ 1000) : F_refuse_falls [prg cs ss rows] = match fFa rows with
    | some j => some (xF j)
    | none => some (.leaf .non) := by
  unfold F_refuse_falls
  obtain ⟨y2, y3, e⟩ := fal_loop (some (.leaf (prg cs ss rows))) rows.length rows 0 none none
  have hl : toD (vCall gLen (aCons (toD (d2 gIxA (vB 0) (kD (.int 2)))) aNil)) [some (.leaf (prg cs ss rows)), none, none, none] = some (.int rows.length) := by
    show some (Dt.int (rows.map Rw.d).length) = _
    rw [List.length_map]
  have hw : toD (vCall F_ways (aCons (vL 0) aNil)) [some (.leaf (prg cs ss rows)), some (.leaf (.int rows.length)), none, none] = some (.lst (rows.mapIdx fun k r => .tup ((r.outs k).map dI))) :=
    toD_at (t := .lst (rows.mapIdx fun k r => .tup ((r.outs k).map dI))) ((call1_at rfl).trans (ways_ok _ _ rows h))
  rw [runD_d]
  show finO ((sSeq (sSet 1 (toT (toD (vCall gLen (aCons (toD (d2 gIxA (vB 0) (kD (.int 2)))) aNil))))) _) [some (.leaf (prg cs ss rows)), none, none, none]) = _
  rw [seqT hl rfl]
  unfold fFa
  by_cases h0 : rows = []
  · subst h0
    rfl
  · rw [if_neg h0, ifs_f (tB2_at (x := .int rows.length) (y := .int 0) (b := false) rfl rfl (by rw [gEq_ii]; simp; exact h0))]
    have e3 : sFor (fRng enumD (aCons (toD (vCall F_ways (aCons (vL 0) aNil))) aNil)) (bTup 2 (bCons (bName 2) (bCons (bName 3) bNil))) B_refuse_falls_0 [some (.leaf (prg cs ss rows)), some (.leaf (.int rows.length)), none, none] = match fF rows.length 0 rows with
        | some j => some (.rt (xF j))
        | none => some (.nx [some (.leaf (prg cs ss rows)), some (.leaf (.int rows.length)), y2, y3]) := by
      unfold sFor fRng
      rw [aCons_at hw rfl, Option.bind_some]
      simp only [Nat.zero_add] at e
      exact e
    show finO (sFor _ _ _ [some (.leaf (prg cs ss rows)), some (.leaf (.int rows.length)), none, none]) = _
    rw [e3]
    cases fF rows.length 0 rows with
    | none => rfl
    | some p => rfl
inductive Vd where
  | unk (w : Str) (k : Nat) | fal (k : Nat) | ok
noncomputable def vdt (C S : List Str) (rows : List Rw) : Vd := match fU C S 0 rows with
  | some (w, n) => .unk w n
  | none => match fFa rows with
    | some j => .fal j
    | none => .ok
noncomputable def Vd.t : Vd → T
  | .unk w k => xU w k
  | .fal k => xF k
  | .ok => .leaf (.bl true)
theorem look_ok (cs ss : List Hd) (rows : List Rw) (hc : cs.length ≤ 1000) (hs : ss.length ≤ 1000) (h : rows.length ≤ 1000) : F_look [prg cs ss rows] = some (vdt (cs.map (·.x)) (ss.map (·.x)) rows).t := by
  unfold F_look
  have e1 : sCX F_refuse_unknown (aCons (vL 0) aNil) [some (.leaf (prg cs ss rows))] = match fU (cs.map (·.x)) (ss.map (·.x)) 0 rows with
      | some (w, n) => some (.rt (xU w n))
      | none => some (.nx [some (.leaf (prg cs ss rows))]) := by
    show ((F_refuse_unknown [prg cs ss rows]).map _) = _
    rw [refU_ok cs ss rows hc hs]
    cases fU (cs.map (·.x)) (ss.map (·.x)) 0 rows with
    | none => rfl
    | some p => rfl
  have e2 : sCX F_refuse_falls (aCons (vL 0) aNil) [some (.leaf (prg cs ss rows))] = match fFa rows with
      | some j => some (.rt (xF j))
      | none => some (.nx [some (.leaf (prg cs ss rows))]) := by
    show ((F_refuse_falls [prg cs ss rows]).map _) = _
    rw [refF_ok cs ss rows h]
    cases fFa rows with
    | none => rfl
    | some p => rfl
  rw [runD_d]
  show finO ((sSeq _ _) [some (.leaf (prg cs ss rows))]) = _
  rw [sSeq_d, e1]
  unfold vdt
  cases fU (cs.map (·.x)) (ss.map (·.x)) 0 rows with
  | some p => rfl
  | none =>
    rw [thenO_nx, sSeq_d, e2]
    cases fFa rows with
    | none => rfl
    | some p => rfl
end P14

namespace P14
open PySem L2
theorem andE {f g : De → Option Bool} {δ : De} {a b : Bool} (h1 : f δ = some a) (h2 : a = true → g δ = some b) : fAnd f g δ = some (a && b) := by
  unfold fAnd
  rw [h1, Option.bind_some]
  cases a with
  | true => exact h2 rfl
  | false => rfl
theorem lstT {fs : De → Option (List Dt)} {δ : De} {ds : List Dt} (h : fs δ = some ds) (hl : ds.length ≤ 1000) : vLst fs δ = some (.lst ds) := by rw [vLst_d, h, Option.bind_some, mkL_of (by omega)]
theorem nin_at {f1 f2 : De → Option Dt} {δ : De} {x : Str} {l : List Str} (h1 : f1 δ = some (.str x)) (h2 : f2 δ = some (.lst (l.map .str))) : tB2 (gInA true) f1 f2 δ = some (!decide (x ∈ l)) := tB2_at h1 h2 (by rw [gIn_strs]; rfl)
theorem if_t {c : De → Option Bool} {g1 g2 : De → Option Out} {δ : De} (h : c δ = some true) : sIf c g1 g2 δ = g1 δ := by
  rw [sIf_d, h, condO_t]
theorem if_f {c : De → Option Bool} {g1 : De → Option Out} {δ : De} (h : c δ = some false) : sIf c g1 sNil δ = some (.nx δ) := by
  rw [sIf_d, h, condO_f]
  rfl
theorem ifs_n {c : De → Option Bool} {g1 r : De → Option Out} {δ δ1 : De} (h : c δ = some true) (h1 : g1 δ = some (.nx δ1)) : sSeq (sIf c g1 sNil) r δ = r δ1 := by
  rw [sSeq_d, sIf_d, h, condO_t, h1]
  rfl
theorem app_at {i : Nat} {f : De → Option Dt} {δ : De} {l : List Dt} {d : Dt} (h : δ[i]? = some (some (.lst l))) (h1 : f δ = some d) (hl : l.length < 1000) : s_append i f δ = some (.nx (δ.set i (some (.lst (l ++ [d]))))) := by
  unfold s_append
  rw [h]
  dsimp only
  rw [h1, Option.bind_some, if_pos (by unfold sizeLine; omega)]
theorem range_c (k n : Nat) : rangeD k (n + 1) = .int k :: rangeD ((k + 1 : Nat) : Int) n := by
  unfold rangeD
  rw [List.range_succ_eq_map, List.map_cons, List.map_map]
  congr 1
  refine List.map_congr_left fun i _ => ?_
  show Dt.int _ = Dt.int _
  congr 1
  show (k : Int) + ((i + 1 : Nat) : Int) = ((k + 1 : Nat) : Int) + (i : Int)
  omega
noncomputable def Rw.kd : Rw → Str
  | .copy _ _ => "copy" | .op _ _ _ _ => "op" | .load _ _ => "load" | .store _ _ => "store" | .take _ _ _ => "take" | .lay _ _ _ => "lay" | .hear _ => "hear" | .say _ => "say" | .iff _ _ => "if" | .go _ => "go" | .fin _ => "end"
noncomputable def dE (C S : List Str) (rows : List Rw) (x z : Option T) : De := [some (.leaf (.lst (C.map .str))), some (.leaf (.lst (S.map .str))), some (.leaf (dL rows)), x, z]
theorem row_at {C S : List Str} {rows : List Rw} {k : Nat} {r : Rw} {z : Option T} (h : rows[k]? = some r) : toD (d2 gIxA (vB 2) (vB 3)) (dE C S rows (some (.leaf (.int k))) z) = some r.d := ixB (ds := rows.map Rw.d) (v := k) rfl rfl (by rw [List.getElem?_map, h]; rfl)
theorem kd_at {C S : List Str} {rows : List Rw} {k : Nat} {r : Rw} {z : Option T} (h : rows[k]? = some r) : toD (d2 gIxA (toD (d2 gIxA (vB 2) (vB 3))) (kD (.int 0))) (dE C S rows (some (.leaf (.int k))) z) = some (.str (Rw.kd r)) := toD_at (t := .leaf (.str (Rw.kd r))) ((d2_at (row_at h) rfl).trans (by cases r <;> rfl))
theorem ret_at {C S : List Str} {rows : List Rw} {k : Nat} {w : Str} {z : Option T} {f : De → Option Dt} (h : f (dE C S rows (some (.leaf (.int k))) z) = some (.str w)) : sRet (vLst (aCons (kD (.str "unknown")) (aCons f (aCons (vL 3) aNil)))) (dE C S rows (some (.leaf (.int k))) z) = some (.rt (.lst [.str "unknown", .str w, .int k])) := sRet_at (lstT (aCons_at rfl (aCons_at h (aCons_at rfl rfl))) (by simp))
noncomputable abbrev fWd : De → Option Dt := toD (vCall F__law_word (aCons (toD (d2 gIxA (vB 2) (vB 3))) aNil))
noncomputable abbrev cnd (a b : Str) (i : Nat) : De → Option Bool := fAnd (tB2 (gInA false) (toD (d2 gIxA (toD (d2 gIxA (vB 2) (vB 3))) (kD (.int 0)))) (toD (vTup (aCons (kD (.str a)) (aCons (kD (.str b)) aNil))))) (tB2 (gInA true) fWd (vB i))
section
variable {C S l : List Str} {rows : List Rw} {k i : Nat} {r : Rw} {z : Option T} {a b c : Str}
theorem cnd_n (h : rows[k]? = some r) (hk : gInA false (.str (Rw.kd r)) (.tup [.str a, .str b]) = some (.leaf (.bl false))) : cnd a b i (dE C S rows (some (.leaf (.int k))) z) = some false :=
  andE (a := false) (b := true) (tB2_at (kd_at h) (tup_at (ds := [.str a, .str b]) rfl (by simp)) hk) nofun
theorem cnd_y (h : rows[k]? = some r) (hk : gInA false (.str (Rw.kd r)) (.tup [.str a, .str b]) = some (.leaf (.bl true))) (w : fWd (dE C S rows (some (.leaf (.int k))) z) = some (.str c)) (hv : vB i (dE C S rows (some (.leaf (.int k))) z) = some (.lst (l.map .str))) : cnd a b i (dE C S rows (some (.leaf (.int k))) z) = some (!decide (c ∈ l)) :=
  andE (a := true) (tB2_at (kd_at h) (tup_at (ds := [.str a, .str b]) rfl (by simp)) hk) fun _ => nin_at w hv
theorem wd_at (h : rows[k]? = some r) (hw : F__law_word [r.d] = some (.leaf (.str c))) : fWd (dE C S rows (some (.leaf (.int k))) z) = some (.str c) := toD_at (t := .leaf (.str c)) ((call1_at (row_at h)).trans hw)
theorem first_y {R : De → Option Out} (c1 : cnd a b i (dE C S rows (some (.leaf (.int k))) z) = some (!decide (c ∈ l))) (w : fWd (dE C S rows (some (.leaf (.int k))) z) = some (.str c)) (hR : R (dE C S rows (some (.leaf (.int k))) z) = some (.nx (dE C S rows (some (.leaf (.int k))) z))) : sSeq (sIf (cnd a b i) (sRet (vLst (aCons (kD (.str "unknown")) (aCons fWd (aCons (vL 3) aNil))))) sNil) R (dE C S rows (some (.leaf (.int k))) z) = match (if c ∈ l then none else some c : Option Str) with
    | some w => some (.rt (.lst [.str "unknown", .str w, .int k]))
    | none => some (.nx (dE C S rows (some (.leaf (.int k))) z)) := by
  by_cases hc : c ∈ l
  · rw [decide_eq_true hc] at c1
    rw [ifs_f c1, hR, if_pos hc]
  · rw [decide_eq_false hc] at c1
    rw [ifs_t c1 (ret_at w), if_neg hc]
theorem last_y (c1 : cnd a b i (dE C S rows (some (.leaf (.int k))) z) = some (!decide (c ∈ l))) (w : fWd (dE C S rows (some (.leaf (.int k))) z) = some (.str c)) : sIf (cnd a b i) (sRet (vLst (aCons (kD (.str "unknown")) (aCons fWd (aCons (vL 3) aNil))))) sNil (dE C S rows (some (.leaf (.int k))) z) = match (if c ∈ l then none else some c : Option Str) with
    | some w => some (.rt (.lst [.str "unknown", .str w, .int k]))
    | none => some (.nx (dE C S rows (some (.leaf (.int k))) z)) := by
  by_cases hc : c ∈ l
  · rw [decide_eq_true hc] at c1
    rw [if_f c1, if_pos hc]
  · rw [decide_eq_false hc] at c1
    rw [if_t c1, ret_at w, if_neg hc]
end
theorem due0 (C S : List Str) (rows : List Rw) (k : Nat) (r : Rw) (z : Option T) (h : rows[k]? = some r) : B__law_due_0 (dE C S rows (some (.leaf (.int k))) z) = match unk C S r with
    | some w => some (.rt (.lst [.str "unknown", .str w, .int k]))
    | none => some (.nx (dE C S rows (some (.leaf (.int k))) z)) := by
  unfold B__law_due_0
  cases r with
  | load x c => exact first_y (cnd_y h rfl (wd_at h rfl) rfl) (wd_at h rfl) (if_f (cnd_n h rfl))
  | store c a => exact first_y (cnd_y h rfl (wd_at h rfl) rfl) (wd_at h rfl) (if_f (cnd_n h rfl))
  | take x c a => exact (ifs_f (cnd_n h rfl)).trans (last_y (cnd_y h rfl (wd_at h rfl) rfl) (wd_at h rfl))
  | lay c a b => exact (ifs_f (cnd_n h rfl)).trans (last_y (cnd_y h rfl (wd_at h rfl) rfl) (wd_at h rfl))
  | _ => exact (ifs_f (cnd_n h rfl)).trans (if_f (cnd_n h rfl))
theorem at_tail {α : Type} {rows : List α} {r : α} {rs : List α} {k : Nat} (h : ∀ j q, (r :: rs)[j]? = some q → rows[k + j]? = some q) : rows[k]? = some r ∧ ∀ j q, rs[j]? = some q → rows[k + 1 + j]? = some q :=
  ⟨h 0 r rfl, fun j q e => by rw [show k + 1 + j = k + (j + 1) by omega]; exact h (j + 1) q e⟩
theorem loop0 (C S : List Str) (rows : List Rw) (z : Option T) : ∀ (rs : List Rw) (k : Nat) (x : Option T), (∀ j q, rs[j]? = some q → rows[k + j]? = some q) → ∃ y, forD (bName 3) B__law_due_0 (rangeD k rs.length) (dE C S rows x z) = match fU C S k rs with
    | some (w, n) => some (.rt (.lst [.str "unknown", .str w, .int n]))
    | none => some (.nx (dE C S rows y z))
  | [], k, x, _ => ⟨x, rfl⟩
  | r :: rs, k, x, h => by
    obtain ⟨h1, h2⟩ := at_tail h
    obtain ⟨y, e⟩ := loop0 C S rows z rs (k + 1) (some (.leaf (.int k))) h2
    refine ⟨y, ?_⟩
    rw [List.length_cons, range_c, forD_step (δ1 := dE C S rows (some (.leaf (.int k))) z) rfl, due0 C S rows k r z h1]
    unfold fU
    cases unk C S r with
    | some w => rfl
    | none => exact e

theorem max_at {C S : List Str} {rows : List Rw} {x : Option T} {m : Int} {ns : List Int} (n : Nat) (hn : rows.length = n) : tB2 (gCmp fun i j => decide (j ≤ i)) (toD (vCall gMaxL (aCons (vB 4) aNil))) (toD (vCall gLen (aCons (vB 2) aNil))) (dE C S rows x (some (.lst ((m :: ns).map .int)))) = some (decide ((n : Int) ≤ topI m ns)) := by
  refine tB2_at (x := .int (topI m ns)) (y := .int rows.length) (toD_at (t := .leaf (.int (topI m ns))) ((call1_at (x := .lst ((m :: ns).map .int)) rfl).trans ?_)) (lenR rfl) (by rw [hn]; rfl)
  show (match asIs ((m :: ns).map Dt.int) with | some (m :: ns) => some (T.leaf (.int (topI m ns))) | _ => none) = _
  rw [show asIs ((m :: ns).map Dt.int) = some (m :: ns) from asIs_map _]
section
variable {C S : List Str} {rows : List Rw} {k : Nat} {r : Rw} {z : Option T} {a : Str} {b neg : Bool}
theorem hd_at (h : rows[k]? = some r) (hk : gEq neg (.str (Rw.kd r)) (.str a) = some (.leaf (.bl b))) : tB2 (gEq neg) (toD (d2 gIxA (toD (d2 gIxA (vB 2) (vB 3))) (kD (.int 0)))) (kD (.str a)) (dE C S rows (some (.leaf (.int k))) z) = some b := tB2_at (kd_at h) rfl hk
theorem fin_y {m : Int} {ns : List Int} {t : Bool} (h : rows[k]? = some r) (hk : gEq true (.str (Rw.kd r)) (.str "end") = some (.leaf (.bl true))) (ht : (rows.length : Int) ≤ topI m ns ↔ t = true) : sIf (fAnd (tB2 (gEq true) (toD (d2 gIxA (toD (d2 gIxA (vB 2) (vB 3))) (kD (.int 0)))) (kD (.str "end"))) (tB2 (gCmp fun i j => decide (j ≤ i)) (toD (vCall gMaxL (aCons (vB 4) aNil))) (toD (vCall gLen (aCons (vB 2) aNil))))) (sRet (vLst (aCons (kD (.str "falls")) (aCons (vL 3) aNil)))) sNil (dE C S rows (some (.leaf (.int k))) (some (.lst ((m :: ns).map .int)))) = if t then some (.rt (.lst [.str "falls", .int k])) else some (.nx (dE C S rows (some (.leaf (.int k))) (some (.lst ((m :: ns).map .int))))) := by
  have c := andE (a := true) (hd_at (C := C) (S := S) (z := some (.lst ((m :: ns).map .int))) h hk) fun _ => max_at (C := C) (S := S) (x := some (.leaf (.int k))) (m := m) (ns := ns) rows.length rfl
  rw [show decide ((rows.length : Int) ≤ topI m ns) = t from Bool.eq_iff_iff.mpr (decide_eq_true_iff.trans ht)] at c
  cases t with
  | true => exact (if_t c).trans (sRet_at (lstT (aCons_at rfl (aCons_at rfl rfl)) (by simp)))
  | false => exact if_f c
theorem fin_n (h : rows[k]? = some r) (hk : gEq true (.str (Rw.kd r)) (.str "end") = some (.leaf (.bl false))) : sIf (fAnd (tB2 (gEq true) (toD (d2 gIxA (toD (d2 gIxA (vB 2) (vB 3))) (kD (.int 0)))) (kD (.str "end"))) (tB2 (gCmp fun i j => decide (j ≤ i)) (toD (vCall gMaxL (aCons (vB 4) aNil))) (toD (vCall gLen (aCons (vB 2) aNil))))) (sRet (vLst (aCons (kD (.str "falls")) (aCons (vL 3) aNil)))) sNil (dE C S rows (some (.leaf (.int k))) z) = some (.nx (dE C S rows (some (.leaf (.int k))) z)) :=
  if_f (andE (a := false) (b := true) (hd_at h hk) nofun)
theorem at_i {i : Int} {d : Dt} (h : rows[k]? = some r) (hd : gIxA r.d (.int i) = some (.leaf d)) : toD (d2 gIxA (toD (d2 gIxA (vB 2) (vB 3))) (kD (.int i))) (dE C S rows (some (.leaf (.int k))) z) = some d := toD_at (t := .leaf d) ((d2_at (row_at h) rfl).trans hd)
theorem set4 {R : De → Option Out} {o : Option Out} (h : R (dE C S rows (some (.leaf (.int k))) (some (.lst ([((k : Int) + 1)].map .int)))) = o) : sSeq (sSet 4 (vLst (aCons (toD (d2 gAdd (vB 3) (kD (.int 1)))) aNil))) R (dE C S rows (some (.leaf (.int k))) z) = o := (seq_nx (set_at (t := .lst ([((k : Int) + 1)].map .int)) (lstT (aCons_at (addK rfl rfl) rfl) (by simp)))).trans h
end
theorem due1 (C S : List Str) (rows : List Rw) (k : Nat) (r : Rw) (z : Option T) (h : rows[k]? = some r) : ∃ y, B__law_due_1 (dE C S rows (some (.leaf (.int k))) z) = if (r.outs k).any (fun g => decide (rows.length ≤ g)) then some (.rt (.lst [.str "falls", .int k])) else some (.nx (dE C S rows (some (.leaf (.int k))) y)) := by
  unfold B__law_due_1
  cases r with
  | iff a g =>
    exact ⟨_, set4 ((ifs_n (hd_at h rfl) (app_at rfl (at_i (d := .int g) h rfl) (by simp))).trans ((ifs_f (hd_at h rfl)).trans (fin_y (m := k + 1) (ns := [(g : Int)]) h rfl (by
      simp only [Rw.outs, List.any_cons, List.any_nil, Bool.or_false, topI]
      simp only [decide_eq_true_eq, Bool.or_eq_true]
      split <;> omega))))⟩
  | go g =>
    exact ⟨_, set4 ((ifs_f (hd_at h rfl)).trans ((ifs_n (hd_at h rfl) (set_at (lstT (aCons_at (at_i (d := .int g) h rfl) rfl) (by simp)))).trans (fin_y (m := g) (ns := []) h rfl (by
      simp only [Rw.outs, List.any_cons, List.any_nil, Bool.or_false, topI]
      simp only [decide_eq_true_eq]
      omega))))⟩
  | fin a => exact ⟨_, set4 ((ifs_f (hd_at h rfl)).trans ((ifs_f (hd_at h rfl)).trans (fin_n h rfl)))⟩
  | _ =>
    exact ⟨_, set4 ((ifs_f (hd_at h rfl)).trans ((ifs_f (hd_at h rfl)).trans (fin_y (m := k + 1) (ns := []) h rfl (by
      simp only [Rw.outs, List.any_cons, List.any_nil, Bool.or_false, topI]
      simp only [decide_eq_true_eq]
      omega))))⟩
theorem loop1 (C S : List Str) (rows : List Rw) : ∀ (rs : List Rw) (k : Nat) (x z : Option T), (∀ j q, rs[j]? = some q → rows[k + j]? = some q) → ∃ y u, forD (bName 3) B__law_due_1 (rangeD k rs.length) (dE C S rows x z) = match fF rows.length k rs with
    | some n => some (.rt (.lst [.str "falls", .int n]))
    | none => some (.nx (dE C S rows y u))
  | [], k, x, z, _ => ⟨x, z, rfl⟩
  | r :: rs, k, x, z, h => by
    obtain ⟨h1, h2⟩ := at_tail h
    obtain ⟨z1, e1⟩ := due1 C S rows k r z h1
    obtain ⟨y, u, e⟩ := loop1 C S rows rs (k + 1) (some (.leaf (.int k))) z1 h2
    refine ⟨y, u, ?_⟩
    rw [List.length_cons, range_c, forD_step (δ1 := dE C S rows (some (.leaf (.int k))) z) rfl, e1]
    unfold fF
    cases (r.outs k).any fun g => decide (rows.length ≤ g) with
    | true => rfl
    | false => exact e
noncomputable def Vd.l : Vd → List Dt
  | .unk w k => [.str "unknown", .str w, .int k]
  | .fal k => [.str "falls", .int k]
  | .ok => [.str "good"]
theorem rng_at {C S : List Str} {rows : List Rw} {x z : Option T} (h : rows.length ≤ 1000) : fRng rng1 (aCons (toD (vCall gLen (aCons (vB 2) aNil))) aNil) (dE C S rows x z) = some (rangeD ((0 : Nat) : Int) rows.length) := by
  unfold fRng
  rw [aCons_at (lenR rfl) rfl, Option.bind_some, rng1_n (by omega)]
  rfl
theorem due_ok (C S : List Str) (rows : List Rw) (h : rows.length ≤ 1000) : F__law_due [.lst (C.map .str), .lst (S.map .str), dL rows] = some (.lst (vdt C S rows).l) := by
  unfold F__law_due
  refine dRt ?_
  show sSeq _ _ (dE C S rows none none) = _
  obtain ⟨y, e0⟩ := loop0 C S rows none rows 0 none fun j q e => by rw [Nat.zero_add]; exact e
  have s0 : sFor (fRng rng1 (aCons (toD (vCall gLen (aCons (vB 2) aNil))) aNil)) (bName 3) B__law_due_0 (dE C S rows none none) = forD (bName 3) B__law_due_0 (rangeD ((0 : Nat) : Int) rows.length) (dE C S rows none none) := by
    rw [sFor_d, rng_at h, Option.bind_some]
  unfold vdt
  rw [sSeq_d, s0, e0]
  cases fU C S 0 rows with
  | some p => rfl
  | none =>
    obtain ⟨y1, u, e1⟩ := loop1 C S rows rows 0 y none fun j q e => by rw [Nat.zero_add]; exact e
    have s1 : sFor (fRng rng1 (aCons (toD (vCall gLen (aCons (vB 2) aNil))) aNil)) (bName 3) B__law_due_1 (dE C S rows y none) = forD (bName 3) B__law_due_1 (rangeD ((0 : Nat) : Int) rows.length) (dE C S rows y none) := by
      rw [sFor_d, rng_at h, Option.bind_some]
    rw [thenO_nx, sSeq_d, s1, e1]
    unfold fFa
    by_cases h0 : rows = []
    · subst h0
      rfl
    · rw [if_neg h0]
      cases fF rows.length 0 rows with
      | some j => rfl
      | none =>
        rw [thenO_nx, ifs_f (tB2_at (x := dL rows) (y := .lst []) (b := false) rfl (lst_at rfl (by simp)) (by
          rw [eq_rows]
          cases rows with
          | nil => exact absurd rfl h0
          | cons r rs => rfl))]
        exact sRet_at (lstT (ds := [.str "good"]) (aCons_at rfl rfl) (by simp))
theorem told_ok (cs ss : List Hd) (rows : List Rw) (hc : cs.length ≤ 1000) (hs : ss.length ≤ 1000) (h : rows.length ≤ 1000) : ∃ t, F__law_told [prg cs ss rows] = some t ∧ t.d = some (.lst (vdt (cs.map (·.x)) (ss.map (·.x)) rows).l) := by
  unfold F__law_told
  have e := look_ok cs ss rows hc hs h
  refine runT [some (.leaf (prg cs ss rows)), none, none, none] rfl ?_
  have s : sTry F_look (aCons (vL 0) aNil) 2 3 1 [some (.leaf (prg cs ss rows)), some (.leaf .non), some (.leaf .non), none] = some (match (vdt (cs.map (·.x)) (ss.map (·.x)) rows).t with
      | .rse c l => .nx [some (.leaf (prg cs ss rows)), some (.exc c l), some (.leaf .non), none]
      | t => .nx [some (.leaf (prg cs ss rows)), some (.leaf .non), some t, none]) := by
    show ((F_look [prg cs ss rows]).map _) = _
    rw [e]
    cases vdt (cs.map (·.x)) (ss.map (·.x)) rows <;> rfl
  generalize vdt (cs.map (·.x)) (ss.map (·.x)) rows = v at s ⊢
  generalize prg cs ss rows = p at s ⊢
  have go : ∀ (R : De → Option Out) (δ1 : De) (t : T), sTry F_look (aCons (vL 0) aNil) 2 3 1 [some (.leaf p), some (.leaf .non), some (.leaf .non), none] = some (.nx δ1) → R δ1 = some (.rt t) → sSeq (sSet 1 (toT (kD .non))) (sSeq (sSet 2 (toT (kD .non))) (sSeq (sTry F_look (aCons (vL 0) aNil) 2 3 1) R)) [some (.leaf p), none, none, none] = some (.rt t) := fun R δ1 t h1 h2 =>
    seqT (d := .non) rfl (seqT (d := .non) rfl ((seq_nx h1).trans h2))
  cases v with
  | unk w k => exact ⟨_, go _ _ _ s rfl, rfl⟩
  | fal k => exact ⟨_, go _ _ _ s rfl, rfl⟩
  | ok => exact ⟨_, go _ _ _ s rfl, rfl⟩
theorem made_ok (s : Str) (n : Int) : F__law_made [.str s, .int n] = some (.leaf (.bl true)) := by
  unfold F__law_made
  refine dRt ?_
  have n1 : gEq true (.str s) (.str s) = some (.leaf (.bl false)) := by
    show some (T.leaf (.bl (!decide (s = s)))) = _
    simp
  have n2 : gEq true (.int n) (.int n) = some (.leaf (.bl false)) := by
    show some (T.leaf (.bl (!decide (n = n)))) = _
    simp
  have y1 : gEq false (.str s) (.str s) = some (.leaf (.bl true)) := by
    rw [gEq_ss]
    simp
  have e : vXmk "Unknown" ["word", "row"] (aCons (vL 0) (aCons (vL 1) aNil)) [some (.leaf (.str s)), some (.leaf (.int n)), none] = some (.exc "Unknown" [("word", .str s), ("row", .int n)]) := rfl
  refine (seq_nx (set_at e)).trans ?_
  refine (ifs_f (orE (tB2_at (x := .str s) rfl rfl n1) fun _ => orE (tB2_at (x := .int n) rfl rfl n2) fun _ => orE (tB2_at (x := .int n) rfl rfl n2) fun _ => tB2_at (x := .int n) rfl rfl n2)).trans ?_
  refine sRet_at ?_
  unfold vAnd
  rw [toD_at ((d2_at (x := .str s) rfl rfl).trans y1), toD_at ((d2_at (x := .str s) rfl rfl).trans y1)]
  rfl
theorem look1 : F_look [prg [] [] [.fin (.vl 3)]] = some (.leaf (.bl true)) := (look_ok [] [] [.fin (.vl 3)] (by simp) (by simp) (by simp)).trans rfl
end P14

namespace P14
open PySem L2
theorem call4_at {F : List Dt → Option T} {f g h k : De → Option Dt} {δ : De} {x y z u : Dt} (h1 : f δ = some x) (h2 : g δ = some y) (h3 : h δ = some z) (h4 : k δ = some u) : vCall F (aCons f (aCons g (aCons h (aCons k aNil)))) δ = F [x, y, z, u] := by
  unfold vCall
  rw [aCons_at h1 (aCons_at h2 (aCons_at h3 (aCons_at h4 (show aNil δ = some [] from rfl))))]
  rfl
theorem ck {δ : De} {f1 f2 : De → Option Dt} {ns : List Int} {k : Int} (h1 : f1 δ = some (.lst (ns.map .int))) (h2 : f2 δ = some (.int k)) (h0 : 0 ≤ k) (hk : k ≤ 1000) : ∃ v : Int, toD (vCall F__law_cell (aCons f1 (aCons f2 aNil))) δ = some (.int v) := by
  obtain ⟨v, e⟩ := cellD_ok ns k.toNat (by omega)
  rw [show ((k.toNat : Nat) : Int) = k by omega] at e
  exact ⟨v, toD_at (t := .leaf (.int v)) ((call2_at h1 h2).trans e)⟩
theorem comp_any {α : Type} {f : α → Dt} {E : De → Option Dt} {rest : De} : ∀ (ds : List Dt), (∀ d ∈ ds, ∃ y, E (some (.leaf d) :: rest) = some (f y)) → ∃ ys : List α, compL (bName 0) tYesD E (none :: rest) ds = some (ys.map f) ∧ ys.length = ds.length
  | [], _ => ⟨[], rfl, rfl⟩
  | d :: ds, h => by
    obtain ⟨y, e⟩ := h d (.head _)
    obtain ⟨ys, e2, hl⟩ := comp_any (f := f) (E := E) ds fun d hd => h d (.tail _ hd)
    refine ⟨y :: ys, ?_, by simp [hl]⟩
    rw [compL]
    show ((some (some (T.leaf d) :: rest)).bind _) = _
    rw [Option.bind_some]
    show (some true).bind _ = _
    rw [Option.bind_some, if_pos rfl, e, Option.bind_some, e2]
    rfl
theorem comp_rng {α : Type} {f : α → Dt} {E : De → Option Dt} {src : List (Option Nat)} {rest δ : De} {fi : De → Option Dt} (n : Nat) (hn : n ≤ 1000) (hi : fi δ = some (.int n)) (hs : dC src δ = none :: rest) (h : ∀ k : Nat, k < n → ∃ y, E (some (.leaf (.int k)) :: rest) = some (f y)) : ∃ ys : List α, vComp src (fRng rng1 (aCons fi aNil)) (bName 0) tYesD E δ = some (.lst (ys.map f)) ∧ ys.length = n := by
  obtain ⟨ys, e, hl⟩ := comp_any (f := f) (E := E) (rest := rest) (rangeD 0 n) fun d hd => by
    obtain ⟨k, hk, rfl⟩ := mem_range hd
    rw [Int.zero_add]
    exact h k hk
  rw [range_len] at hl
  refine ⟨ys, vComp_at ?_ (by rw [hs]; exact e) (by simp; omega), hl⟩
  unfold fRng
  rw [aCons_at hi rfl, Option.bind_some, rng1_n (by omega)]
noncomputable def L7 (ns : List Int) (c b : Int) (n0 n1 m : Nat) (C S : List Str) (t x : Option T) : De := [some (.leaf (.lst (ns.map .int))), some (.leaf (.int c)), some (.leaf (.int b)), some (.leaf (.lst [.int n0, .int n1])), some (.leaf (.int m)), some (.leaf (.lst (C.map .str))), some (.leaf (.lst (S.map .str))), t, x, none, none, none, none]
theorem body_ok (ns : List Int) (c b : Int) (n0 n1 m : Nat) (C S : List Str) (n k : Nat) (t : T) (h : IsR n t) (hn : n ≤ 400) (hk : k ≤ 10) : ∃ t', B_law_0 (L7 ns c b n0 n1 m C S (some t) (some (.leaf (.int k)))) = some (.nx (L7 ns c b n0 n1 m C S (some t') (some (.leaf (.int k))))) ∧ IsR (2 * n + 1) t' := by
  obtain ⟨q, hq, hl⟩ := h
  obtain ⟨v, ev⟩ := ck (δ := L7 ns c b n0 n1 m C S (some (.leaf (dL q))) (some (.leaf (.int k)))) (f1 := vL 0) (ns := ns) rfl (addK (f1 := kD (.int 2)) (f2 := vB 8) rfl rfl) (by omega) (by omega)
  obtain ⟨t', e, q', h1, h2⟩ := spoilt_ok q (.lst [.int n0, .int n1]) b v (by omega)
  refine ⟨t', ?_, q', h1, by omega⟩
  unfold B_law_0 sFrz
  show (t.d.bind fun d => sSet 7 _ (L7 ns c b n0 n1 m C S (some (.leaf d)) (some (.leaf (.int k))))) = _
  rw [hq, Option.bind_some, set_at (t := t') ((call4_at (x := dL q) (y := .lst [.int n0, .int n1]) (z := .int b) rfl rfl rfl ev).trans e)]
  rfl
theorem loop_ok (ns : List Int) (c b : Int) (n0 n1 m : Nat) (C S : List Str) (v : Nat) (hv : v < 3) (rows : List Rw) (hr : rows.length ≤ 61) : ∃ q x, IsR 250 q ∧ forD (bName 8) B_law_0 (rangeD 0 v) (L7 ns c b n0 n1 m C S (some (.lst (rows.map Rw.d))) none) = some (.nx (L7 ns c b n0 n1 m C S (some q) x)) := by
  have h0 : IsR 61 (.lst (rows.map Rw.d)) := ⟨rows, rfl, hr⟩
  obtain ⟨t1, e1, h1⟩ := body_ok ns c b n0 n1 m C S 61 0 _ h0 (by decide) (by decide)
  obtain ⟨t2, e2, h2⟩ := body_ok ns c b n0 n1 m C S 123 1 _ h1 (by decide) (by decide)
  have w : ∀ {a d : Nat} {t : T}, a ≤ d → IsR a t → IsR d t := fun h ⟨q, x, y⟩ => ⟨q, x, Nat.le_trans y h⟩
  have q : v = 0 ∨ v = 1 ∨ v = 2 := by omega
  rcases q with rfl | rfl | rfl
  · exact ⟨_, _, w (by decide) h0, rfl⟩
  · refine ⟨_, some (.leaf (.int ((0 : Nat) : Int))), w (by decide) h1, ?_⟩
    show forD _ _ [.int ((0 : Nat) : Int)] _ = _
    rw [forD_step (δ1 := L7 ns c b n0 n1 m C S (some (.lst (rows.map Rw.d))) (some (.leaf (.int ((0 : Nat) : Int))))) rfl, e1]
    rfl
  · refine ⟨_, some (.leaf (.int ((1 : Nat) : Int))), w (by decide) h2, ?_⟩
    show forD _ _ [.int ((0 : Nat) : Int), .int ((1 : Nat) : Int)] _ = _
    rw [forD_step (δ1 := L7 ns c b n0 n1 m C S (some (.lst (rows.map Rw.d))) (some (.leaf (.int ((0 : Nat) : Int))))) rfl, e1]
    rw [Option.bind_some]
    show forD (bName 8) B_law_0 [.int ((1 : Nat) : Int)] _ = _
    rw [forD_step (δ1 := L7 ns c b n0 n1 m C S (some t1) (some (.leaf (.int ((1 : Nat) : Int))))) rfl, e2]
    rfl
theorem mod_at {δ : De} {f g : De → Option Dt} {i j : Int} (h1 : f δ = some (.int i)) (h2 : g δ = some (.int j)) (hj : 0 < j) : toD (d2 gMod f g) δ = some (.int (i % j)) := toD_at (t := .leaf (.int (i % j))) ((d2_at h1 h2).trans (gMod_i hj))
theorem heads1 (C : List Str) (hC : ∀ s ∈ C, s.length ≤ 6) : compL (bName 0) tYesD E_law_3 [none] (C.map .str) = some ((C.map fun s => (⟨s, 5, decide ((s.length : Int) % 2 = 1)⟩ : Hd)).map hdD) := by
  induction C with
  | nil => rfl
  | cons s C ih =>
    simp only [List.map_cons, compL]
    show (some [some (T.leaf (.str s))]).bind _ = _
    rw [Option.bind_some]
    show (some true).bind _ = _
    rw [Option.bind_some, if_pos rfl, ih fun s hs => hC s (.tail _ hs)]
    have l : toD (vCall gLen (aCons (vB 0) aNil)) [some (T.leaf (.str s))] = some (.int s.length) := toD_at (t := .leaf (.int s.length)) ((call1_at (x := .str s) rfl).trans (if_pos (small (by have := hC s (.head _); omega))))
    have e : E_law_3 [some (T.leaf (.str s))] = some (hdD ⟨s, 5, decide ((s.length : Int) % 2 = 1)⟩) := tup_at (aCons_at rfl (aCons_at rfl (aCons_at (toD_at (t := .leaf (.bl (decide ((s.length : Int) % 2 = 1)))) ((d2_at (mod_at (i := s.length) l rfl (by decide)) rfl).trans gEq_ii)) rfl))) (by simp)
    rw [e]
    rfl
theorem heads2 (S : List Str) : ∃ ss : List Hd, compL (bTup 2 (bCons (bName 0) (bCons (bName 1) bNil))) tYesD E_law_4 [none, none] (enumL 0 (S.map .str)) = some (ss.map hdD) ∧ ss.map (·.x) = S := by
  refine ⟨S.mapIdx fun k s => ⟨s, 1 + (k : Int) % 8, decide ((k : Int) % 2 = 0)⟩, ?_, ?_⟩
  · rw [compL_enum (fe := E_law_4) (h := fun k s => hdD ⟨s, 1 + (k : Int) % 8, decide ((k : Int) % 2 = 0)⟩) 0 fun k a => ⟨_, rfl, tup_at (aCons_at rfl (aCons_at (addK rfl (mod_at (i := (k : Int)) rfl rfl (by decide))) (aCons_at (toD_at (t := .leaf (.bl (decide ((k : Int) % 2 = 0)))) ((d2_at (mod_at (i := (k : Int)) rfl rfl (by decide)) rfl).trans gEq_ii)) rfl))) (by simp)⟩]
    congr 1
    apply List.ext_getElem? fun i => ?_
    simp only [List.getElem?_map, List.getElem?_mapIdx, Nat.zero_add, Option.map_map]
    rfl
  · apply List.ext_getElem? fun i => ?_
    simp only [List.getElem?_map, List.getElem?_mapIdx, Option.map_map]
    cases S[i]? <;> rfl
noncomputable abbrev Sm := {s : Str // s.length ≤ 6}
noncomputable abbrev Sm.d (s : Sm) : Dt := .str s.1
theorem sm_map (l : List Sm) : l.map Sm.d = (l.map (·.1)).map .str := by rw [List.map_map]; rfl
theorem sm_le (l : List Sm) : ∀ s ∈ l.map (·.1), s.length ≤ 6 := fun s hs => by
  obtain ⟨u, _, rfl⟩ := List.mem_map.mp hs
  exact u.2
theorem frzS {i : Nat} {g : De → Option Out} {R : De → Option Out} {δ : De} {t : T} {d : Dt} {δ1 : De} (h : δ[i]? = some (some t)) (hd : t.d = some d) (hg : g (δ.set i (some (.leaf d))) = some (.nx δ1)) : sSeq (sFrz i g) R δ = R δ1 := by
  refine seq_nx ?_
  unfold sFrz
  rw [h]
  dsimp only
  rw [hd]
  exact hg
theorem vB_t {i : Nat} {δ : De} {t : T} (h : δ[i]? = some (some t)) : vB i δ = t.d := by
  unfold vB
  rw [h]
theorem vd_flat (v : Vd) : v.l.all flatD = true := by cases v <;> rfl
end P14

namespace P14
open PySem L2
theorem many_ok (ns : List Int) (c b : Int) (n0 n1 : Nat) (R : De → Option Out) : ∃ m : Nat, 0 < m ∧ m ≤ 60 ∧ sSeq (sSet 4 (toT (toD (d2 gAdd (kD (.int 1)) (toD (vCall F__law_part (aCons (vL 1) (aCons (kD (.int 2)) (aCons (kD (.int 9)) aNil)))))))))
    (sSeq (sIf (tB2 (gEq false) (toD (vCall F__law_part (aCons (vL 1) (aCons (kD (.int 3)) (aCons (kD (.int 8)) aNil))))) (kD (.int 1))) (sSet 4 (toT (toD (d2 gAdd (kD (.int 1)) (toD (vCall F__law_part (aCons (vL 1) (aCons (kD (.int 4)) (aCons (kD (.int 59)) aNil))))))))) sNil) R) [some (.leaf (.lst (ns.map .int))), some (.leaf (.int c)), some (.leaf (.int b)), some (.leaf (.lst [.int n0, .int n1])), none, none, none, none, none, none, none, none, none] = R [some (.leaf (.lst (ns.map .int))), some (.leaf (.int c)), some (.leaf (.int b)), some (.leaf (.lst [.int n0, .int n1])), some (.leaf (.int m)), none, none, none, none, none, none, none, none] := by
  obtain ⟨v, hv, e⟩ := pk (δ := [some (.leaf (.lst (ns.map .int))), some (.leaf (.int c)), some (.leaf (.int b)), some (.leaf (.lst [.int n0, .int n1])), none, none, none, none, none, none, none, none, none]) (f1 := vL 1) (f2 := kD (.int 2)) (f3 := kD (.int 9)) rfl rfl rfl (by decide) (by decide)
  have g1 : toD (d2 gAdd (kD (.int 1)) (toD (vCall F__law_part (aCons (vL 1) (aCons (kD (.int 2)) (aCons (kD (.int 9)) aNil)))))) [some (.leaf (.lst (ns.map .int))), some (.leaf (.int c)), some (.leaf (.int b)), some (.leaf (.lst [.int n0, .int n1])), none, none, none, none, none, none, none, none, none] = some (.int ((1 + v : Nat) : Int)) := (addK (i := 1) (j := v) rfl e).trans (by congr 2)
  obtain ⟨u, hu, e2⟩ := pk (δ := [some (.leaf (.lst (ns.map .int))), some (.leaf (.int c)), some (.leaf (.int b)), some (.leaf (.lst [.int n0, .int n1])), some (.leaf (.int ((1 + v : Nat) : Int))), none, none, none, none, none, none, none, none]) (f1 := vL 1) (f2 := kD (.int 3)) (f3 := kD (.int 8)) rfl rfl rfl (by decide) (by decide)
  have g2 : tB2 (gEq false) (toD (vCall F__law_part (aCons (vL 1) (aCons (kD (.int 3)) (aCons (kD (.int 8)) aNil))))) (kD (.int 1)) [some (.leaf (.lst (ns.map .int))), some (.leaf (.int c)), some (.leaf (.int b)), some (.leaf (.lst [.int n0, .int n1])), some (.leaf (.int ((1 + v : Nat) : Int))), none, none, none, none, none, none, none, none] = some (decide ((u : Int) = 1)) := tB2_at e2 rfl gEq_ii
  by_cases h : (u : Int) = 1
  · rw [decide_eq_true h] at g2
    obtain ⟨w, hw, e3⟩ := pk (δ := [some (.leaf (.lst (ns.map .int))), some (.leaf (.int c)), some (.leaf (.int b)), some (.leaf (.lst [.int n0, .int n1])), some (.leaf (.int ((1 + v : Nat) : Int))), none, none, none, none, none, none, none, none]) (f1 := vL 1) (f2 := kD (.int 4)) (f3 := kD (.int 59)) rfl rfl rfl (by decide) (by decide)
    have g3 : toD (d2 gAdd (kD (.int 1)) (toD (vCall F__law_part (aCons (vL 1) (aCons (kD (.int 4)) (aCons (kD (.int 59)) aNil)))))) [some (.leaf (.lst (ns.map .int))), some (.leaf (.int c)), some (.leaf (.int b)), some (.leaf (.lst [.int n0, .int n1])), some (.leaf (.int ((1 + v : Nat) : Int))), none, none, none, none, none, none, none, none] = some (.int ((1 + w : Nat) : Int)) := (addK (i := 1) (j := w) rfl e3).trans (by congr 2)
    exact ⟨1 + w, by omega, by omega, seqT g1 ((ifs_n g2 (set_at (toT_at g3))).trans rfl)⟩
  · rw [decide_eq_false h] at g2
    exact ⟨1 + v, by omega, by omega, seqT g1 ((ifs_f g2).trans rfl)⟩
theorem last_ok (ns : List Int) (c b : Int) (n0 n1 m : Nat) (C S : List Str) (t x : Option T) : ∃ r : Rw, toD (d2 gIxA (toD (vLst (aCons (toD (vTup (aCons (kD (.str "end")) (aCons (kD (.int 0)) aNil)))) (aCons (toD (vTup (aCons (kD (.str "go")) (aCons (toD (vCall F__law_part (aCons (vL 1) (aCons (kD (.int 6)) (aCons (toD (d2 gAdd (vB 4) (kD (.int 1)))) aNil))))) aNil)))) (aCons (toD (vTup (aCons (kD (.str "end")) (aCons (kD (.int 7)) aNil)))) aNil))))) (toD (vCall F__law_part (aCons (vL 1) (aCons (kD (.int 7)) (aCons (kD (.int 3)) aNil)))))) (L7 ns c b n0 n1 m C S t x) = some r.d := by
  obtain ⟨v, hv, e⟩ := pk (δ := L7 ns c b n0 n1 m C S t x) (f1 := vL 1) (f2 := kD (.int 6)) (c := c) (j := 6) (m := (m : Int) + 1) rfl rfl (addK (f1 := vB 4) (f2 := kD (.int 1)) rfl rfl) (by decide) (by omega)
  obtain ⟨u, hu, e2⟩ := pk (δ := L7 ns c b n0 n1 m C S t x) (f1 := vL 1) (f2 := kD (.int 7)) (f3 := kD (.int 3)) (c := c) rfl rfl rfl (by decide) (by decide)
  obtain ⟨r, er⟩ : ∃ r : Rw, ([.tup [.str "end", .int 0], .tup [.str "go", .int v], .tup [.str "end", .int 7]] : List Dt)[u]? = some r.d := by
    have q : u = 0 ∨ u = 1 ∨ u = 2 := by omega
    rcases q with rfl | rfl | rfl
    · exact ⟨.fin (.vl 0), rfl⟩
    · exact ⟨.go v, rfl⟩
    · exact ⟨.fin (.vl 7), rfl⟩
  exact ⟨r, ixL (aCons_at (tup_at rfl (by simp)) (aCons_at (tup_at (aCons_at rfl (aCons_at e rfl)) (by simp)) (aCons_at (tup_at rfl (by simp)) rfl))) (by simp) e2 er⟩
theorem main (ns : List Int) (h : ns.length ≤ 63) : F_law [.lst (ns.map .int)] = some (.leaf (.bl true)) := by
  unfold F_law
  refine dRt ?_
  show sSeq _ _ [some (.leaf (.lst (ns.map .int))), none, none, none, none, none, none, none, none, none, none, none, none] = _
  obtain ⟨c, ec⟩ := ck (δ := [some (.leaf (.lst (ns.map .int))), none, none, none, none, none, none, none, none, none, none, none, none]) (f1 := vL 0) (f2 := kD (.int 0)) (ns := ns) rfl rfl (by decide) (by decide)
  refine seqT ec ?_
  obtain ⟨b, eb⟩ := ck (δ := [some (.leaf (.lst (ns.map .int))), some (.leaf (.int c)), none, none, none, none, none, none, none, none, none, none, none]) (f1 := vL 0) (f2 := kD (.int 1)) (ns := ns) rfl rfl (by decide) (by decide)
  refine seqT eb ?_
  obtain ⟨n0, h0, a0⟩ := pk (δ := [some (.leaf (.lst (ns.map .int))), some (.leaf (.int c)), some (.leaf (.int b)), none, none, none, none, none, none, none, none, none, none]) (f1 := vL 1) (f2 := kD (.int 0)) (f3 := kD (.int 7)) rfl rfl rfl (by decide) (by decide)
  obtain ⟨n1, h1, a1⟩ := pk (δ := [some (.leaf (.lst (ns.map .int))), some (.leaf (.int c)), some (.leaf (.int b)), none, none, none, none, none, none, none, none, none, none]) (f1 := vL 1) (f2 := kD (.int 1)) (f3 := kD (.int 5)) rfl rfl rfl (by decide) (by decide)
  refine seqT (lst_at (aCons_at a0 (aCons_at a1 rfl)) (by simp)) ?_
  obtain ⟨m, m0, m1, em0⟩ := many_ok ns c b n0 n1 _
  refine em0.trans ?_
  obtain ⟨Cm, eC, lC⟩ := comp_rng (f := Sm.d) (E := E_law_0) (src := [none, some 2]) (rest := [some (.leaf (.int b))]) (δ := [some (.leaf (.lst (ns.map .int))), some (.leaf (.int c)), some (.leaf (.int b)), some (.leaf (.lst [.int n0, .int n1])), some (.leaf (.int m)), none, none, none, none, none, none, none, none]) (fi := toD (d2 gIxA (vB 3) (kD (.int 0)))) n0 (by omega) rfl rfl fun k hk => by
    obtain ⟨s, hs, e⟩ := nk (δ := [some (.leaf (.int k)), some (.leaf (.int b))]) (fb := vL 1) (fk := vL 0) (b := b) (k := k) rfl rfl (by omega) (by omega)
    exact ⟨⟨s, hs⟩, e⟩
  rw [sm_map] at eC
  have hC := sm_le Cm
  have lC' : (Cm.map (·.1)).length = n0 := by rw [List.length_map, lC]
  generalize Cm.map (·.1) = C at eC hC lC'
  refine seqT (toD_at eC) ?_
  obtain ⟨Sm', eS, lS⟩ := comp_rng (f := Sm.d) (E := E_law_1) (src := [none, some 2]) (rest := [some (.leaf (.int b))]) (δ := [some (.leaf (.lst (ns.map .int))), some (.leaf (.int c)), some (.leaf (.int b)), some (.leaf (.lst [.int n0, .int n1])), some (.leaf (.int m)), some (.leaf (.lst (C.map .str))), none, none, none, none, none, none, none]) (fi := toD (d2 gIxA (vB 3) (kD (.int 1)))) n1 (by omega) rfl rfl fun k hk => by
    obtain ⟨s, hs, e⟩ := nk (δ := [some (.leaf (.int k)), some (.leaf (.int b))]) (fb := vL 1) (b := b) rfl (addK (f1 := kD (.int 6)) (f2 := vB 0) (i := 6) (j := k) rfl rfl) (by omega) (by omega)
    exact ⟨⟨s, hs⟩, e⟩
  rw [sm_map] at eS
  have lS' : (Sm'.map (·.1)).length = n1 := by rw [List.length_map, lS]
  generalize Sm'.map (·.1) = S at eS lS'
  refine seqT (toD_at eS) ?_
  obtain ⟨rows, eR, lR⟩ := comp_rng (f := Rw.d) (E := E_law_2) (src := [none, some 0, some 2, some 3, some 4]) (rest := [some (.leaf (.lst (ns.map .int))), some (.leaf (.int b)), some (.leaf (.lst [.int n0, .int n1])), some (.leaf (.int m))]) (δ := [some (.leaf (.lst (ns.map .int))), some (.leaf (.int c)), some (.leaf (.int b)), some (.leaf (.lst [.int n0, .int n1])), some (.leaf (.int m)), some (.leaf (.lst (C.map .str))), some (.leaf (.lst (S.map .str))), none, none, none, none, none, none]) (fi := vL 4) m (by omega) rfl rfl fun k hk => by
    obtain ⟨v, e⟩ := ck (δ := [some (.leaf (.int k)), some (.leaf (.lst (ns.map .int))), some (.leaf (.int b)), some (.leaf (.lst [.int n0, .int n1])), some (.leaf (.int m))]) (f1 := vL 1) (ns := ns) rfl (addK (f1 := kD (.int 5)) (f2 := vB 0) (i := 5) (j := k) rfl rfl) (by omega) (by omega)
    obtain ⟨r, er, -⟩ := row_ok v b n0 n1 m (by omega) (by omega) m0
    exact ⟨r, toD_at (t := .leaf r.d) ((call4_at e rfl rfl rfl).trans er)⟩
  refine (seq_nx (set_at eR)).trans ?_
  obtain ⟨r, er⟩ := last_ok ns c b n0 n1 m C S (some (.lst (rows.map Rw.d))) none
  refine (seq_nx (app_at (l := rows.map Rw.d) (δ := L7 ns c b n0 n1 m C S (some (.lst (rows.map Rw.d))) none) rfl er (by simp; omega))).trans ?_
  rw [show rows.map Rw.d ++ [r.d] = (rows ++ [r]).map Rw.d by simp]
  have lR' : (rows ++ [r]).length ≤ 61 := by simp; omega
  generalize rows ++ [r] = rows' at lR'
  show sSeq _ _ (L7 ns c b n0 n1 m C S (some (.lst (rows'.map Rw.d))) none) = _
  obtain ⟨v, hv, ev⟩ := pk (δ := L7 ns c b n0 n1 m C S (some (.lst (rows'.map Rw.d))) none) (f1 := vL 1) (f2 := kD (.int 5)) (f3 := kD (.int 3)) (c := c) rfl rfl rfl (by decide) (by decide)
  obtain ⟨t, x, ⟨q, hq, lq⟩, ef⟩ := loop_ok ns c b n0 n1 m C S v (by omega) rows' lR'
  refine (seq_nx (δ' := L7 ns c b n0 n1 m C S (some t) x) ?_).trans ?_
  · rw [sFor_d]
    unfold fRng
    rw [aCons_at ev rfl, Option.bind_some, rng1_n (by omega), Option.bind_some]
    exact ef
  obtain ⟨cs, ecs, hcs⟩ : ∃ cs : List Hd, compL (bName 0) tYesD E_law_3 [none] (C.map .str) = some (cs.map hdD) ∧ cs.map (·.x) = C := ⟨_, heads1 C hC, by rw [List.map_map]; exact List.map_id _⟩
  obtain ⟨ss, ess, hss⟩ := heads2 S
  have lcs : cs.length ≤ 6 := by rw [← List.length_map (f := (·.x)), hcs]; omega
  have lss : ss.length ≤ 6 := by rw [← List.length_map (f := (·.x)), hss]; omega
  refine seqT (d := .lst (cs.map hdD)) (toD_at (t := .lst (cs.map hdD)) (vComp_at (ds := C.map .str) rfl ecs (by simp; omega))) ?_
  refine seqT (d := .lst (ss.map hdD)) (toD_at (t := .lst (ss.map hdD)) (vComp_at (ds := enumL 0 (S.map .str)) rfl ess (by simp; omega))) ?_
  refine seqT (d := prg cs ss q) (tup_at (aCons_at rfl (aCons_at rfl (aCons_at (toD_at (t := .leaf (dR q)) ((call1_at (x := dL q) ((vB_t rfl).trans hq)).trans rfl)) rfl))) (by simp)) ?_
  refine (frzS rfl hq (set_at (toT_at (d := .lst (vdt C S q).l) (toD_at (t := .lst (vdt C S q).l) ((call3_at rfl rfl rfl).trans (due_ok C S q (by omega))))))).trans ?_
  obtain ⟨s, hs, es⟩ := nk (δ := [some (.leaf (.lst (ns.map .int))), some (.leaf (.int c)), some (.leaf (.int b)), some (.leaf (.lst [.int n0, .int n1])), some (.leaf (.int m)), some (.leaf (.lst (C.map .str))), some (.leaf (.lst (S.map .str))), some (.leaf (dL q)), x, some (.leaf (.lst (cs.map hdD))), some (.leaf (.lst (ss.map hdD))), some (.leaf (prg cs ss q)), some (.leaf (.lst (vdt C S q).l))]) (fb := vL 2) (fk := kD (.int 3)) (b := b) rfl rfl (by decide) (by decide)
  obtain ⟨w, hw, ew⟩ := pk (δ := [some (.leaf (.lst (ns.map .int))), some (.leaf (.int c)), some (.leaf (.int b)), some (.leaf (.lst [.int n0, .int n1])), some (.leaf (.int m)), some (.leaf (.lst (C.map .str))), some (.leaf (.lst (S.map .str))), some (.leaf (dL q)), x, some (.leaf (.lst (cs.map hdD))), some (.leaf (.lst (ss.map hdD))), some (.leaf (prg cs ss q)), some (.leaf (.lst (vdt C S q).l))]) (f1 := vL 1) (f2 := kD (.int 6)) (f3 := kD (.int 60)) (c := c) rfl rfl rfl (by decide) (by decide)
  have em : fNot (fTru (toD (vCall F__law_made (aCons (toD (vCall F__law_name (aCons (vL 2) (aCons (kD (.int 3)) aNil)))) (aCons (toD (vCall F__law_part (aCons (vL 1) (aCons (kD (.int 6)) (aCons (kD (.int 60)) aNil))))) aNil))))) [some (.leaf (.lst (ns.map .int))), some (.leaf (.int c)), some (.leaf (.int b)), some (.leaf (.lst [.int n0, .int n1])), some (.leaf (.int m)), some (.leaf (.lst (C.map .str))), some (.leaf (.lst (S.map .str))), some (.leaf (dL q)), x, some (.leaf (.lst (cs.map hdD))), some (.leaf (.lst (ss.map hdD))), some (.leaf (prg cs ss q)), some (.leaf (.lst (vdt C S q).l))] = some false := by
    unfold fNot fTru
    rw [toD_at (t := .leaf (.bl true)) ((call2_at es ew).trans (made_ok s w))]
    rfl
  refine (ifs_f em).trans ?_
  obtain ⟨u, eu, hu⟩ := told_ok cs ss q (by omega) (by omega) (by omega)
  rw [hcs, hss] at hu
  have et : toD (vCall F__law_told (aCons (vL 11) aNil)) [some (.leaf (.lst (ns.map .int))), some (.leaf (.int c)), some (.leaf (.int b)), some (.leaf (.lst [.int n0, .int n1])), some (.leaf (.int m)), some (.leaf (.lst (C.map .str))), some (.leaf (.lst (S.map .str))), some (.leaf (dL q)), x, some (.leaf (.lst (cs.map hdD))), some (.leaf (.lst (ss.map hdD))), some (.leaf (prg cs ss q)), some (.leaf (.lst (vdt C S q).l))] = some (.lst (vdt C S q).l) := (toD_at ((call1_at rfl).trans eu)).trans hu
  have el : toD (vCX F_look (aCons (toD (vTup (aCons (toD (vTup aNil)) (aCons (toD (vTup aNil)) (aCons (toD (vTup (aCons (toD (vTup (aCons (kD (.str "end")) (aCons (kD (.int 3)) aNil)))) aNil))) aNil))))) aNil)) [some (.leaf (.lst (ns.map .int))), some (.leaf (.int c)), some (.leaf (.int b)), some (.leaf (.lst [.int n0, .int n1])), some (.leaf (.int m)), some (.leaf (.lst (C.map .str))), some (.leaf (.lst (S.map .str))), some (.leaf (dL q)), x, some (.leaf (.lst (cs.map hdD))), some (.leaf (.lst (ss.map hdD))), some (.leaf (prg cs ss q)), some (.leaf (.lst (vdt C S q).l))] = some (.bl true) := toD_at (t := .leaf (.bl true)) (by
    show ((F_look [prg [] [] [.fin (.vl 3)]]).bind notX) = _
    rw [look1]
    rfl)
  refine (ifs_f (orE (tB2_at et rfl (gEq_self (vd_flat _))) fun _ => tB2_at el rfl rfl)).trans ?_
  exact sRet_at ((d2_at et rfl).trans (gEq_self (vd_flat _)))
end P14

namespace P14
open PySem L2
noncomputable def sp_law (K : PySem.W.Frag) : Sp := fun vs H Q _ => ∃ (a : Addr) (ns : List Int), vs = [.ref a] ∧ SqL K H a (ns.map V.int) ∧ ns.length ≤ 63 ∧ Only H ∧ ∀ H', Q (.bl true) H'
theorem law_sp {K : PySem.W.Frag} {vs : List V} {H : Hp} {Q : VK} {E : XK} (h : sp_law K vs H Q E) : spD K 1 F_law vs H Q E := by
  obtain ⟨a, ns, rfl, hS, hl, hO, q⟩ := h
  refine ⟨H, [.lst (ns.map .int)], .leaf (.bl true), Same.refl H, rfl, ?_, main ns hl, fun v H' F' S st o _ => ?_⟩
  · simp only [Reps, Rep]
    exact ⟨_, [], rfl, ⟨a, _, rfl, hS, Reps.map (fun _ => rep_int) ns⟩, rfl⟩
  · have o : Rep K F' (.bl true) v := o
    simp only [Rep] at o
    subst o
    exact q H'
theorem all_mk {l : PySem.W.OpenLaw} {w : World} {K : PySem.W.Frag} {h : Heap} {mg : Str → Option Value} {fa : Addr} (X : K.In h) (G : h.Ns mainGlobals mg) (hfa : mg "law" = some (.ref fa))
    {D_ : Addr} (ad_ : PySem.W.nsIn K mainGlobals "DimError" = some (some (.ref D_))) (xs_ : (PySem.W.subIn K (.ref D_) (.type "BaseException") == some true) = true) (xl_ : ((PySem.W.clsIn K D_).isSome && PySem.W.typeIn K (.ref D_) == some (.type "type")) = true)
    {C_BadLine : Addr} (x_BadLine : AtX K "BadLine" s_BadLine____init__ ["at"] C_BadLine D_)
    {C_Falls : Addr} (x_Falls : AtX K "Falls" s_Falls____init__ ["row"] C_Falls D_)
    {C_NoLabel : Addr} (x_NoLabel : AtX K "NoLabel" s_NoLabel____init__ ["word"] C_NoLabel D_)
    {C_Twice : Addr} (x_Twice : AtX K "Twice" s_Twice____init__ ["word"] C_Twice D_)
    {C_Unknown : Addr} (x_Unknown : AtX K "Unknown" s_Unknown____init__ ["word", "row"] C_Unknown D_)
    (xn_ : [D_, C_BadLine, C_Falls, C_NoLabel, C_Twice, C_Unknown].Nodup)
    (a0 : AtF K "_law_cell" s__law_cell)
    (a1 : AtF K "_law_word" s__law_word)
    (a2 : AtF K "_law_due" s__law_due)
    (a8 : AtF K "_law_made" s__law_made)
    (a9 : AtF K "_law_part" s__law_part)
    (a10 : AtF K "_law_name" s__law_name)
    (a11 : AtF K "_law_row" s__law_row)
    (a12 : AtF K "_law_spoilt" s__law_spoilt)
    (a13 : AtF K "_law_whole" s__law_whole)
    (a14 : AtF K "ways_of" s_ways_of)
    (a15 : AtF K "ways" s_ways)
    (a16 : AtF K "refuse_falls" s_refuse_falls)
    (a17 : AtF K "unknown_word" s_unknown_word)
    (a18 : AtF K "refuse_unknown" s_refuse_unknown)
    (a19 : AtF K "look" s_look)
    (a20 : AtF K "_law_told" s__law_told)
    (a21 : AtF K "law" s_law)
    (z_ValueError : PySem.W.nsIn K mainGlobals "ValueError" = some none)
    (z_any : PySem.W.nsIn K mainGlobals "any" = some none)
    (z_bool : PySem.W.nsIn K mainGlobals "bool" = some none)
    (z_enumerate : PySem.W.nsIn K mainGlobals "enumerate" = some none)
    (z_int : PySem.W.nsIn K mainGlobals "int" = some none)
    (z_isinstance : PySem.W.nsIn K mainGlobals "isinstance" = some none)
    (z_len : PySem.W.nsIn K mainGlobals "len" = some none)
    (z_max : PySem.W.nsIn K mainGlobals "max" = some none)
    (z_range : PySem.W.nsIn K mainGlobals "range" = some none)
    (z_tuple : PySem.W.nsIn K mainGlobals "tuple" = some none)
    {d_CELL_PLACES : Addr} {o_CELL_PLACES : Obj} {m_CELL_PLACES : Nat} {t0_CELL_PLACES : Tok} {t1_CELL_PLACES : Tok} {a0_CELL_PLACES : Tok} {a1_CELL_PLACES : Tok} (b_CELL_PLACES : PySem.W.nsIn K mainGlobals "CELL_PLACES" = some (some (.ref d_CELL_PLACES))) (l_CELL_PLACES : K.lookup d_CELL_PLACES = some o_CELL_PLACES) (e_CELL_PLACES : o_CELL_PLACES.ExactDict) (f_CELL_PLACES : o_CELL_PLACES.data = .dict #[⟨PyData.keyHash w.params "load", .str "load" t0_CELL_PLACES, .int 2 a0_CELL_PLACES⟩, ⟨PyData.keyHash w.params "store", .str "store" t1_CELL_PLACES, .int 1 a1_CELL_PLACES⟩] m_CELL_PLACES) (z_CELL_PLACES : (d_CELL_PLACES == sysModules) = false)
    {d_SHELF_PLACES : Addr} {o_SHELF_PLACES : Obj} {m_SHELF_PLACES : Nat} {t0_SHELF_PLACES : Tok} {t1_SHELF_PLACES : Tok} {a0_SHELF_PLACES : Tok} {a1_SHELF_PLACES : Tok} (b_SHELF_PLACES : PySem.W.nsIn K mainGlobals "SHELF_PLACES" = some (some (.ref d_SHELF_PLACES))) (l_SHELF_PLACES : K.lookup d_SHELF_PLACES = some o_SHELF_PLACES) (e_SHELF_PLACES : o_SHELF_PLACES.ExactDict) (f_SHELF_PLACES : o_SHELF_PLACES.data = .dict #[⟨PyData.keyHash w.params "take", .str "take" t0_SHELF_PLACES, .int 2 a0_SHELF_PLACES⟩, ⟨PyData.keyHash w.params "lay", .str "lay" t1_SHELF_PLACES, .int 1 a1_SHELF_PLACES⟩] m_SHELF_PLACES) (z_SHELF_PLACES : (d_SHELF_PLACES == sysModules) = false)
    (kd_bool : KindsD K "bool")
    (kd_int : KindsD K "int")
    : ∃ fd : FuncData, (∀ (s : Shared) (v : Value), BindsTo s fd ⟨[v], []⟩ [("_law_script", v)]) ∧ ∀ base : Heap, K.In base → base.Ns mainGlobals mg → FnOk l.prog w K mg base CX0 6 fa fd ["_law_script"] (sp_law K) := by
  obtain ⟨f21, oc21, od21, an21, sl21, kV21, dc21, pm21, cd21, ct21, a21, l21, c21, k21⟩ := a21
  have e := hfa.symm.trans (PySem.W.mg_of X G a21)
  cases e
  have T : Txt l.prog w K mg := { n_ValueError := PySem.W.mg_none_of X G z_ValueError, n_any := PySem.W.mg_none_of X G z_any, n_bool := PySem.W.mg_none_of X G z_bool, n_enumerate := PySem.W.mg_none_of X G z_enumerate, n_int := PySem.W.mg_none_of X G z_int, n_isinstance := PySem.W.mg_none_of X G z_isinstance, n_len := PySem.W.mg_none_of X G z_len, n_max := PySem.W.mg_none_of X G z_max, n_range := PySem.W.mg_none_of X G z_range, n_tuple := PySem.W.mg_none_of X G z_tuple, g_CELL_PLACES := sdic_mk [("load", t0_CELL_PLACES, .int 2, .int 2 a0_CELL_PLACES), ("store", t1_CELL_PLACES, .int 1, .int 1 a1_CELL_PLACES)] (PySem.W.mg_of X G b_CELL_PLACES) l_CELL_PLACES e_CELL_PLACES f_CELL_PLACES z_CELL_PLACES (show (["load", "store"] : List Str).Nodup by decide +kernel) (by simp [RelV]) (fun F => reps_of (.cons (rep_int) (.cons (rep_int) .nil))), g_SHELF_PLACES := sdic_mk [("take", t0_SHELF_PLACES, .int 2, .int 2 a0_SHELF_PLACES), ("lay", t1_SHELF_PLACES, .int 1, .int 1 a1_SHELF_PLACES)] (PySem.W.mg_of X G b_SHELF_PLACES) l_SHELF_PLACES e_SHELF_PLACES f_SHELF_PLACES z_SHELF_PLACES (show (["take", "lay"] : List Str).Nodup by decide +kernel) (by simp [RelV]) (fun F => reps_of (.cons (rep_int) (.cons (rep_int) .nil))), xw := XW.of (L := [("BadLine", C_BadLine), ("Falls", C_Falls), ("NoLabel", C_NoLabel), ("Twice", C_Twice), ("Unknown", C_Unknown)]) X G ad_ ⟨xs_, xl_⟩ xn_ (by simp only [List.forall_mem_cons]; exact ⟨x_BadLine.w, x_Falls.w, x_NoLabel.w, x_Twice.w, x_Unknown.w, nofun⟩), k_bool := kd_bool, k_int := kd_int }
  refine ⟨PySem.W.fnOf "law" "law" (defArgs s_law) (defBody s_law) (defScope s_law) .none kV21 dc21 pm21 an21 cd21 ct21, fun s v => .of_eq rfl, fun base _ _ => ?_⟩
  have h__law_cell := ok__law_cell (base := base) T (a0.df X G fun _ _ _ _ _ _ => el2 fun _ _ => rfl) 
  have h__law_word := ok__law_word (base := base) T (a1.df X G fun _ _ _ _ _ _ => el1 fun _ => rfl) 
  have h__law_due := ok__law_due T (a2.df X G fun _ _ _ _ _ _ => el3 fun _ _ _ => rfl) h__law_word
  have h_BadLine____init__ := ok_BadLine____init__ (P := l.prog) (w := w) (base := base) (x_BadLine.dx X G ad_ fun _ _ _ _ _ _ => el2 fun _ _ => rfl)
  have h_Falls____init__ := ok_Falls____init__ (P := l.prog) (w := w) (base := base) (x_Falls.dx X G ad_ fun _ _ _ _ _ _ => el2 fun _ _ => rfl)
  have h_NoLabel____init__ := ok_NoLabel____init__ (P := l.prog) (w := w) (base := base) (x_NoLabel.dx X G ad_ fun _ _ _ _ _ _ => el2 fun _ _ => rfl)
  have h_Twice____init__ := ok_Twice____init__ (P := l.prog) (w := w) (base := base) (x_Twice.dx X G ad_ fun _ _ _ _ _ _ => el2 fun _ _ => rfl)
  have h_Unknown____init__ := ok_Unknown____init__ (P := l.prog) (w := w) (base := base) (x_Unknown.dx X G ad_ fun _ _ _ _ _ _ => el3 fun _ _ _ => rfl)
  have h__law_made := ok__law_made T (a8.df X G fun _ _ _ _ _ _ => el2 fun _ _ => rfl) h_BadLine____init__ h_Falls____init__ h_NoLabel____init__ h_Twice____init__ h_Unknown____init__
  have h__law_part := ok__law_part (base := base) T (a9.df X G fun _ _ _ _ _ _ => el3 fun _ _ _ => rfl) 
  have h__law_name := ok__law_name T (a10.df X G fun _ _ _ _ _ _ => el2 fun _ _ => rfl) h__law_part
  have h__law_row := ok__law_row T (a11.df X G fun _ _ _ _ _ _ => el4 fun _ _ _ _ => rfl) h__law_name h__law_part
  have h__law_spoilt := ok__law_spoilt T (a12.df X G fun _ _ _ _ _ _ => el4 fun _ _ _ _ => rfl) h__law_name h__law_part
  have h__law_whole := ok__law_whole (base := base) T (a13.df X G fun _ _ _ _ _ _ => el1 fun _ => rfl) 
  have h_ways_of := ok_ways_of (base := base) T (a14.df X G fun _ _ _ _ _ _ => el2 fun _ _ => rfl) 
  have h_ways := ok_ways T (a15.df X G fun _ _ _ _ _ _ => el1 fun _ => rfl) h_ways_of
  have h_refuse_falls := ok_refuse_falls T (a16.df X G fun _ _ _ _ _ _ => el1 fun _ => rfl) h_Falls____init__ h_ways
  have h_unknown_word := ok_unknown_word (base := base) T (a17.df X G fun _ _ _ _ _ _ => el3 fun _ _ _ => rfl) 
  have h_refuse_unknown := ok_refuse_unknown T (a18.df X G fun _ _ _ _ _ _ => el1 fun _ => rfl) h_Unknown____init__ h_unknown_word
  have h_look := ok_look T (a19.df X G fun _ _ _ _ _ _ => el1 fun _ => rfl) h_refuse_falls h_refuse_unknown
  have h__law_told := ok__law_told T (a20.df X G fun _ _ _ _ _ _ => el1 fun _ => rfl) h__law_whole h_look
  exact (ok_law T (fun_mk (st := s_law) l21 c21 k21) h__law_cell h__law_due h__law_made h__law_name h__law_part h__law_row h__law_spoilt h__law_told h_look).imp fun vs H Q E z => law_sp z
theorem walk {l : PySem.W.OpenLaw} {q : Program} {loose : List Str} {XP : (Str → Option Value) → Heap → Prop} {YP : World → Heap → Prop} {d : DefRec} {K : Params → PySem.W.Frag} (hn : l.most = some 63) (hdf : d.params.defaults = [])
    (hY : ∀ (w : World) (h : Heap), YP w h → (K w.params).In h) (hT0 : ∀ w : World, tabsK (K w.params) = [])
    (F : ∀ (w : World) (mg : Str → Option Value) (fa : Addr) (h : Heap), (K w.params).In h → h.Ns mainGlobals mg → mg d.name = some (.ref fa) →
      ∃ fd : FuncData, (∀ (s : Shared) (u : Value), BindsTo s fd ⟨[u], []⟩ [("_law_script", u)]) ∧ ∀ base : Heap, (K w.params).In base → base.Ns mainGlobals mg → FnOk l.prog w (K w.params) mg base CX0 6 fa fd ["_law_script"] (sp_law (K w.params))) :
    PySem.W.WalkO q loose XP YP l.row.toRowW d [] (fun f vs => PySem.call f vs) :=
  L2.walk_of (n := 63) (k := 6) (x := "_law_script") (CX := fun _ => CX0) (sp := fun w => sp_law (K w.params)) hn (by decide) hdf ⟨rfl, by decide, by decide⟩ hY hT0 F (fun _ _ a ns hl hO hS => ⟨a, ns, rfl, hS, hl, hO, fun _ => rfl⟩) fun _ _ _ _ _ z => z
end P14
open PySem PySem.W PyProof.Rows
set_option maxRecDepth 100000 in
set_option maxHeartbeats 0 in
theorem PySem.Challenge.cw_dimhouse_k14_programs_in_order_holds : PySem.Challenge.rw_dimhouse_k14_programs_in_order.Holds := by
  w_on; o_law
  refine holds_open (q := P14.seen) (loose := [PySem.Str.ofString "CELL_PLACES", PySem.Str.ofString "SHELF_PLACES"]) (Xt := fun s => xlAt P14.seen [] s && recOk (RowW.records (OpenRow.toRowW PySem.Challenge.rw_dimhouse_k14_programs_in_order.row)) s) (XP := XL P14.seen []) (Yf := Hook.obs P14.hook) (Ya := Hook.val P14.hook) (YP := Hook.says P14.hook) (N := 4214) ?hl (Hook.of P14.hook) (Hook.keeps P14.hook) (fun s e => xl_of s (Bool.and_eq_true_iff.mp e).1) XL.keeps (by rfl) (by rfl) (by rfl) (fun s e => recFacts_of (Bool.and_eq_true_iff.mp e).2) (by rfl) (by first | assumption | decide +kernel) (by decide +kernel) ⟨rfl, rfl, rfl, rfl, rfl, by decide +kernel⟩ ?hw ?hc
  case hl => exact LeftO.of_split "special-get-raises" fun w => P14.map_two (P14.run_false w) (P14.run_true w)
  case hw => w_witness2
  delta P14.hook
  k_fill
  refine P14.walk (l := PySem.Challenge.rw_dimhouse_k14_programs_in_order) rfl rfl (fun w h Y => PySem.W.kIn_of Y) (fun w => by kernel_rfl) ?F
  case F =>
    intro w mg fa h KX G hmg
    refine' P14.all_mk KX G hmg ?ad_ ?xs_ ?xl_ ?x_BadLine ?x_Falls ?x_NoLabel ?x_Twice ?x_Unknown ?xn_ ?a0 ?a1 ?a2 ?a8 ?a9 ?a10 ?a11 ?a12 ?a13 ?a14 ?a15 ?a16 ?a17 ?a18 ?a19 ?a20 ?a21 ?z_ValueError ?z_any ?z_bool ?z_enumerate ?z_int ?z_isinstance ?z_len ?z_max ?z_range ?z_tuple ?b_CELL_PLACES ?l_CELL_PLACES ?e_CELL_PLACES ?f_CELL_PLACES ?z_CELL_PLACES ?b_SHELF_PLACES ?l_SHELF_PLACES ?e_SHELF_PLACES ?f_SHELF_PLACES ?z_SHELF_PLACES ?kd_bool ?kd_int
    (case ad_ => k_is)
    (case xs_ => kernel_rfl)
    (case xl_ => kernel_rfl)
    (case x_BadLine => ((refine' L2.AtX.mk (q := _) ?zq ?za ?zl ?zi ?zf ?zs ?zg ?zn ?zk ?z1 ?z2 ?z3 ?zlf ?zcf ?zkf ?zna; (case zq => exact rfl); (case za => k_is); (case zl => k_is); (case zi => k_is); (case zf => k_is); (case zs => k_is); (case zg => k_is); (case zn => k_is); (case zk => k_is); (case z1 => k_is); (case z2 => k_is); (case z3 => k_is); (case zlf => k_is); (case zcf => k_is); (case zkf => k_is); (case zna => (simp only [List.forall_mem_cons]; first | exact ⟨by k_is, by k_is, nofun⟩ | exact ⟨by k_is, nofun⟩)))))
    (case x_Falls => ((refine' L2.AtX.mk (q := _) ?zq ?za ?zl ?zi ?zf ?zs ?zg ?zn ?zk ?z1 ?z2 ?z3 ?zlf ?zcf ?zkf ?zna; (case zq => exact rfl); (case za => k_is); (case zl => k_is); (case zi => k_is); (case zf => k_is); (case zs => k_is); (case zg => k_is); (case zn => k_is); (case zk => k_is); (case z1 => k_is); (case z2 => k_is); (case z3 => k_is); (case zlf => k_is); (case zcf => k_is); (case zkf => k_is); (case zna => (simp only [List.forall_mem_cons]; first | exact ⟨by k_is, by k_is, nofun⟩ | exact ⟨by k_is, nofun⟩)))))
    (case x_NoLabel => ((refine' L2.AtX.mk (q := _) ?zq ?za ?zl ?zi ?zf ?zs ?zg ?zn ?zk ?z1 ?z2 ?z3 ?zlf ?zcf ?zkf ?zna; (case zq => exact rfl); (case za => k_is); (case zl => k_is); (case zi => k_is); (case zf => k_is); (case zs => k_is); (case zg => k_is); (case zn => k_is); (case zk => k_is); (case z1 => k_is); (case z2 => k_is); (case z3 => k_is); (case zlf => k_is); (case zcf => k_is); (case zkf => k_is); (case zna => (simp only [List.forall_mem_cons]; first | exact ⟨by k_is, by k_is, nofun⟩ | exact ⟨by k_is, nofun⟩)))))
    (case x_Twice => ((refine' L2.AtX.mk (q := _) ?zq ?za ?zl ?zi ?zf ?zs ?zg ?zn ?zk ?z1 ?z2 ?z3 ?zlf ?zcf ?zkf ?zna; (case zq => exact rfl); (case za => k_is); (case zl => k_is); (case zi => k_is); (case zf => k_is); (case zs => k_is); (case zg => k_is); (case zn => k_is); (case zk => k_is); (case z1 => k_is); (case z2 => k_is); (case z3 => k_is); (case zlf => k_is); (case zcf => k_is); (case zkf => k_is); (case zna => (simp only [List.forall_mem_cons]; first | exact ⟨by k_is, by k_is, nofun⟩ | exact ⟨by k_is, nofun⟩)))))
    (case x_Unknown => ((refine' L2.AtX.mk (q := _) ?zq ?za ?zl ?zi ?zf ?zs ?zg ?zn ?zk ?z1 ?z2 ?z3 ?zlf ?zcf ?zkf ?zna; (case zq => exact rfl); (case za => k_is); (case zl => k_is); (case zi => k_is); (case zf => k_is); (case zs => k_is); (case zg => k_is); (case zn => k_is); (case zk => k_is); (case z1 => k_is); (case z2 => k_is); (case z3 => k_is); (case zlf => k_is); (case zcf => k_is); (case zkf => k_is); (case zna => (simp only [List.forall_mem_cons]; first | exact ⟨by k_is, by k_is, nofun⟩ | exact ⟨by k_is, nofun⟩)))))
    (case xn_ => decide)
    (case a0 => ((refine' L2.AtF.mk ?za ?zl ?zc ?zk; (case za => k_is); (case zl => k_is); (case zc => k_is); (case zk => k_is))))
    (case a1 => ((refine' L2.AtF.mk ?za ?zl ?zc ?zk; (case za => k_is); (case zl => k_is); (case zc => k_is); (case zk => k_is))))
    (case a2 => ((refine' L2.AtF.mk ?za ?zl ?zc ?zk; (case za => k_is); (case zl => k_is); (case zc => k_is); (case zk => k_is))))
    (case a8 => ((refine' L2.AtF.mk ?za ?zl ?zc ?zk; (case za => k_is); (case zl => k_is); (case zc => k_is); (case zk => k_is))))
    (case a9 => ((refine' L2.AtF.mk ?za ?zl ?zc ?zk; (case za => k_is); (case zl => k_is); (case zc => k_is); (case zk => k_is))))
    (case a10 => ((refine' L2.AtF.mk ?za ?zl ?zc ?zk; (case za => k_is); (case zl => k_is); (case zc => k_is); (case zk => k_is))))
    (case a11 => ((refine' L2.AtF.mk ?za ?zl ?zc ?zk; (case za => k_is); (case zl => k_is); (case zc => k_is); (case zk => k_is))))
    (case a12 => ((refine' L2.AtF.mk ?za ?zl ?zc ?zk; (case za => k_is); (case zl => k_is); (case zc => k_is); (case zk => k_is))))
    (case a13 => ((refine' L2.AtF.mk ?za ?zl ?zc ?zk; (case za => k_is); (case zl => k_is); (case zc => k_is); (case zk => k_is))))
    (case a14 => ((refine' L2.AtF.mk ?za ?zl ?zc ?zk; (case za => k_is); (case zl => k_is); (case zc => k_is); (case zk => k_is))))
    (case a15 => ((refine' L2.AtF.mk ?za ?zl ?zc ?zk; (case za => k_is); (case zl => k_is); (case zc => k_is); (case zk => k_is))))
    (case a16 => ((refine' L2.AtF.mk ?za ?zl ?zc ?zk; (case za => k_is); (case zl => k_is); (case zc => k_is); (case zk => k_is))))
    (case a17 => ((refine' L2.AtF.mk ?za ?zl ?zc ?zk; (case za => k_is); (case zl => k_is); (case zc => k_is); (case zk => k_is))))
    (case a18 => ((refine' L2.AtF.mk ?za ?zl ?zc ?zk; (case za => k_is); (case zl => k_is); (case zc => k_is); (case zk => k_is))))
    (case a19 => ((refine' L2.AtF.mk ?za ?zl ?zc ?zk; (case za => k_is); (case zl => k_is); (case zc => k_is); (case zk => k_is))))
    (case a20 => ((refine' L2.AtF.mk ?za ?zl ?zc ?zk; (case za => k_is); (case zl => k_is); (case zc => k_is); (case zk => k_is))))
    (case a21 => ((refine' L2.AtF.mk ?za ?zl ?zc ?zk; (case za => k_is); (case zl => k_is); (case zc => k_is); (case zk => k_is))))
    (case z_ValueError => k_is)
    (case z_any => k_is)
    (case z_bool => k_is)
    (case z_enumerate => k_is)
    (case z_int => k_is)
    (case z_isinstance => k_is)
    (case z_len => k_is)
    (case z_max => k_is)
    (case z_range => k_is)
    (case z_tuple => k_is)
    (case b_CELL_PLACES => k_is)
    (case l_CELL_PLACES => k_is)
    (case e_CELL_PLACES => exact ⟨rfl, rfl, rfl⟩)
    (case f_CELL_PLACES => rfl)
    (case z_CELL_PLACES => rfl)
    (case b_SHELF_PLACES => k_is)
    (case l_SHELF_PLACES => k_is)
    (case e_SHELF_PLACES => exact ⟨rfl, rfl, rfl⟩)
    (case f_SHELF_PLACES => rfl)
    (case z_SHELF_PLACES => rfl)
    (case kd_bool => exact fun d hd => by cases d <;> first | (cases hd; done) | k_is | rfl)
    (case kd_int => exact fun d hd => by cases d <;> first | (cases hd; done) | k_is | rfl)
