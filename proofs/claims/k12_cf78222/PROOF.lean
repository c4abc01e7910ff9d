import PyProof.Rows.All
import Wide.All
import OpenK.AllK
import Wide.FinOn
import Lean
import PyProof.EqAt
import PyProof.EqKinds
import PyProof.TupleCall
import PySem.Challenge.RW_dimhouse_k12_written_and_read
set_option Elab.async false
set_option linter.all false
set_option maxRecDepth 100000
namespace P12
open PySem PySem.W PyProof.Rows
section
local macro_rules | `(tactic| o_head $_) => `(tactic| exact (by assumption : ∀ p : Prop, p) _)
set_option maxRecDepth 100000 in
set_option maxHeartbeats 0 in
theorem pre (h0 : ∀ p : Prop, p) : PySem.Challenge.rw_dimhouse_k12_written_and_read.row.Holds := by
  k_head
end
def seen : Program := { PySem.Challenge.pw_dimhouse_k12_written_and_read with main := { PySem.Challenge.pw_dimhouse_k12_written_and_read.main with body := [1, 2, 3, 4, 6, 7, 8, 9, 10, 11, 12, 13, 14, 15, 16, 18, 19, 20, 21, 22, 23, 24, 25, 26, 27, 28, 29, 30, 31, 32, 33, 34, 35, 36, 37, 38, 39, 41, 42, 43, 44, 45, 46, 47, 48, 49, 50, 51].filterMap fun i => PySem.Challenge.pw_dimhouse_k12_written_and_read.main.body[i]? } }
noncomputable abbrev hook : Hook := kHook P12.pre.heap_1 [2, 3, 15, 22, 23, 24, 25, 28, 35, 37, 38, 40, 41, 42, 43, 44, 47, 54, 56, 57, 59, 60, 61, 62, 63, 66, 73, 75, 76, 78, 79, 80, 81, 82, 85, 88, 89, 90, 92, 93, 95, 96, 97, 99, 100, 102, 103, 104, 106, 107, 109, 110, 111, 113, 114, 116, 117, 118, 119, 120, 121, 122, 123, 124, 125, 126, 127, 128, 129, 130, 131, 132, 133, 134, 135, 136, 137, 138, 140, 141, 143, 144, 145, 147, 148, 150, 151, 152, 155, 156, 157, 159, 160, 162, 163, 164, 166, 167, 169, 170, 171, 173, 174, 176, 177, 178, 180, 181, 183, 184, 185, 187, 188, 190, 191, 192, 194, 195, 197, 198, 199, 202, 203, 204, 207, 208, 209, 211, 212, 214, 215, 216, 219, 220, 221, 224, 225, 226, 229, 230, 231, 233, 234, 236, 237, 238, 240, 241, 243, 244, 245, 248, 249, 250, 252, 253, 255, 256, 257, 259, 260, 262, 263, 264, 267, 268, 269, 272, 273, 274, 277, 278, 279, 282, 283, 284, 286, 287, 289, 290, 291, 293, 294, 296, 297] (fun _ => by kernel_rfl)
theorem map_two {α β γ : Type} {x : Option α} {f : α → β} {g : α → γ} {a : β} {b : γ} (h : x.map f = some a) (h' : x.map g = some b) : x.map (fun s => (f s, g s)) = some (a, b) := by
  cases x with
  | none => cases h
  | some s => simp only [Option.map_some, Option.some.injEq] at h h' ⊢; rw [h, h']
set_option maxRecDepth 100000 in
set_option maxHeartbeats 0 in
theorem run_false (w : World) : (fencedOpening treeTable PySem.Challenge.rw_dimhouse_k12_written_and_read.row.prog w 4620).map (fun s₀ => (topFrom treeTable PySem.Challenge.rw_dimhouse_k12_written_and_read.row.prog (w.withFollow "special-get-raises" false) 4620 s₀).map (fun s => (openSeen seen [PySem.Str.ofString "WANTED"] (importedModules PySem.Challenge.rw_dimhouse_k12_written_and_read.row.prog.main.body) (fun s => xlAt seen [] s && recOk (RowW.records (OpenRow.toRowW PySem.Challenge.rw_dimhouse_k12_written_and_read.row)) s) true s, Hook.obs hook s))) = some (some (openGood seen [PySem.Str.ofString "WANTED"], Hook.val hook (w.withFollow "special-get-raises" false))) := by
  kernel_rfl
set_option maxRecDepth 100000 in
set_option maxHeartbeats 0 in
theorem run_true (w : World) : (fencedOpening treeTable PySem.Challenge.rw_dimhouse_k12_written_and_read.row.prog w 4620).map (fun s₀ => (topFrom treeTable PySem.Challenge.rw_dimhouse_k12_written_and_read.row.prog (w.withFollow "special-get-raises" true) 4620 s₀).map (fun s => (openSeen seen [PySem.Str.ofString "WANTED"] (importedModules PySem.Challenge.rw_dimhouse_k12_written_and_read.row.prog.main.body) (fun s => xlAt seen [] s && recOk (RowW.records (OpenRow.toRowW PySem.Challenge.rw_dimhouse_k12_written_and_read.row)) s) true s, Hook.obs hook s))) = some (some (openGood seen [PySem.Str.ofString "WANTED"], Hook.val hook (w.withFollow "special-get-raises" true))) := by
  kernel_rfl
end P12
theorem bS {α β : Type} {x : Option α} {f : α → Option β} {b : β} (h : x.bind f = some b) : ∃ a, x = some a ∧ f a = some b := Option.bind_eq_some_iff.mp h
theorem mS {α β : Type} {x : Option α} {f : α → β} {b : β} (h : x.map f = some b) : ∃ a, x = some a ∧ f a = b := Option.map_eq_some_iff.mp h
namespace L2
open PySem PySem.Spec PyProof.Rows
noncomputable abbrev Key := Sum Int Str
noncomputable def keyIs : Key → Value → Bool
  | .inl k, v => Value.isInt k v
  | .inr x, v => Value.isStrOf x v
noncomputable def keyH (w : World) : Key → Int
  | .inl k => hashInt k
  | .inr x => hashStr w x
theorem keyIs_shape : ∀ {k : Key} {v : Value}, keyIs k v = true → (∃ i t, k = Sum.inl i ∧ v = Value.int i t) ∨ (∃ x t, k = Sum.inr x ∧ v = Value.str x t)
  | .inl i, v, h => by
    obtain ⟨t, e⟩ := Value.isInt_shape (k := i) (v := v) h
    exact .inl ⟨i, t, rfl, e⟩
  | .inr x, v, h => by
    obtain ⟨t, e⟩ := Value.isStrOf_shape (x := x) (v := v) h
    exact .inr ⟨x, t, rfl, e⟩
theorem keyIs_int (i : Int) (t : Tok) : keyIs (.inl i) (.int i t) = true := by simp [keyIs, Value.isInt]
theorem keyIs_str (x : Str) (t : Tok) : keyIs (.inr x) (.str x t) = true := by simp [keyIs, Value.isStrOf]
theorem key_ll (a b : Int) : decide ((Sum.inl a : Key) = Sum.inl b) = (a == b) := by
  by_cases e : a = b
  · subst e; simp
  · have h : ¬ (Sum.inl a : Key) = Sum.inl b := fun q => e (Sum.inl.inj q)
    rw [decide_eq_false h]
    exact (beq_eq_false_iff_ne.mpr e).symm
theorem key_rr (a b : Str) : decide ((Sum.inr a : Key) = Sum.inr b) = decide (a = b) := by
  by_cases e : a = b
  · subst e; simp
  · have h : ¬ (Sum.inr a : Key) = Sum.inr b := fun q => e (Sum.inr.inj q)
    rw [decide_eq_false h, decide_eq_false e]
theorem key_lr (a : Int) (b : Str) : decide ((Sum.inl a : Key) = Sum.inr b) = false := decide_eq_false (fun q => nomatch q)
theorem key_rl (a : Str) (b : Int) : decide ((Sum.inr a : Key) = Sum.inl b) = false := decide_eq_false (fun q => nomatch q)
noncomputable def mixKind (prog : Program) (w : World) : PySem.KeyKind prog w Key where
  is := keyIs
  hash := keyH w
  inj := fun v a b ha hb => by
    rcases keyIs_shape ha with ⟨i, t, rfl, rfl⟩ | ⟨x, t, rfl, rfl⟩
    · rcases keyIs_shape hb with ⟨j, u, rfl, e⟩ | ⟨y, u, rfl, e⟩
      · injection e with e1 _; rw [e1]
      · exact nomatch e
    · rcases keyIs_shape hb with ⟨j, u, rfl, e⟩ | ⟨y, u, rfl, e⟩
      · exact nomatch e
      · injection e with e1 _; rw [e1]
  byValue := fun k v h => by
    rcases keyIs_shape h with ⟨i, t, rfl, rfl⟩ | ⟨x, t, rfl, rfl⟩ <;> rfl
  pyHash := fun hv h => by
    rcases keyIs_shape hv with ⟨i, t, rfl, rfl⟩ | ⟨x, t, rfl, rfl⟩
    · exact wpAny_pyHash_int h
    · exact wpAny_pyHash_str h
  eqBool := fun hu hv h => by
    rcases keyIs_shape hu with ⟨i, t, rfl, rfl⟩ | ⟨x, t, rfl, rfl⟩
    · rcases keyIs_shape hv with ⟨j, u, rfl, rfl⟩ | ⟨y, u, rfl, rfl⟩
      · rw [key_ll] at h; exact wpAny_eqBool_int h
      · rw [key_lr] at h; exact SeqAt.EqAt.int_str i t y u _ _ _ _ h
    · rcases keyIs_shape hv with ⟨j, u, rfl, rfl⟩ | ⟨y, u, rfl, rfl⟩
      · rw [key_rl] at h; exact SeqAt.EqAt.str_int x t j u _ _ _ _ h
      · rw [key_rr] at h; exact wpAny_eqBool_str h
  «strs» := fun k x t v h => by
    rcases keyIs_shape h with ⟨i, u, rfl, e⟩ | ⟨y, u, rfl, e⟩
    · exact nomatch e
    · injection e with e1 _
      subst e1
      cases v <;> rfl
theorem mixKind_int (prog : Program) (w : World) (i : Int) (t : Tok) : (mixKind prog w).is (.inl i) (.int i t) = true := keyIs_int i t
theorem mixKind_str (prog : Program) (w : World) (x : Str) (t : Tok) : (mixKind prog w).is (.inr x) (.str x t) = true := keyIs_str x t
end L2
namespace L2
open PySem PySem.Spec PyProof.Rows
inductive V where
  | non | bl (b : Bool) | int (i : Int) | str (x : Str) | byt (b : Array UInt8) | flt (b : UInt64) | ref (a : Addr) | ty (n : String)
  deriving DecidableEq
noncomputable def RelV : V → Value → Prop
  | .non, u => u = Value.none
  | .bl b, u => u = Value.bool b
  | .int i, u => ∃ t, u = Value.int i t
  | .str x, u => ∃ t, u = Value.str x t
  | .byt b, u => ∃ t, u = Value.bytes b t
  | .flt b, u => ∃ t, u = Value.float b t
  | .ref a, u => u = Value.ref a
  | .ty n, u => u = Value.type n
noncomputable abbrev Vals : List V → List Value → Prop := Paired RelV
theorem Vals.length {xs : List V} {us : List Value} (r : Vals xs us) : xs.length = us.length := Paired.length r
theorem Vals.get : ∀ {xs : List V} {us : List Value} {i : Nat} {x : V}, Vals xs us → xs[i]? = some x → ∃ u, us[i]? = some u ∧ RelV x u
  | _, _, _, _, .nil, e => by simp at e
  | _, _, 0, _, .cons r _, e => by simp at e; subst e; exact ⟨_, rfl, r⟩
  | _, _, i + 1, x, .cons _ t, e => by
    obtain ⟨u, h1, h2⟩ := Vals.get (i := i) (x := x) t (by simpa using e)
    exact ⟨u, by simpa using h1, h2⟩
theorem Vals.set {x : V} {u : Value} (r : RelV x u) : ∀ {xs : List V} {us : List Value} (i : Nat), Vals xs us → Vals (xs.set i x) (us.set i u)
  | _, _, _, .nil => .nil
  | _, _, 0, .cons _ t => .cons r t
  | _, _, i + 1, .cons q t => .cons q (Vals.set r i t)
theorem Vals.append : ∀ {xs ys : List V} {us ws : List Value}, Vals xs us → Vals ys ws → Vals (xs ++ ys) (us ++ ws)
  | _, _, _, _, .nil, s => s
  | _, _, _, _, .cons r t, s => .cons r (Vals.append t s)
theorem Vals.take : ∀ {xs : List V} {us : List Value} (n : Nat), Vals xs us → Vals (xs.take n) (us.take n)
  | _, _, 0, _ => .nil
  | _, _, _ + 1, .nil => .nil
  | _, _, n + 1, .cons r t => .cons r (Vals.take n t)
theorem Vals.drop : ∀ {xs : List V} {us : List Value} (n : Nat), Vals xs us → Vals (xs.drop n) (us.drop n)
  | _, _, 0, r => r
  | _, _, _ + 1, .nil => .nil
  | _, _, n + 1, .cons _ t => Vals.drop n t
noncomputable def RelO : Option V → Option Value → Prop
  | some v, some u => RelV v u
  | none, none => True
  | _, _ => False
noncomputable def KV {κ : Type} : List (κ × V) → List (κ × Value) → Prop := Paired fun (p : κ × V) (q : κ × Value) => p.1 = q.1 ∧ RelV p.2 q.2
noncomputable def kV : Key → V
  | .inl i => .int i
  | .inr x => .str x
inductive HO where
  | lst (xs : List V)
  | tup (xs : List V)
  | dK (kvs : List (Key × V)) | dT (kvs : List (List Key × V))
  | set (S : Int → Bool) (n : Nat)
  | ins (C dx : Addr) (fs : List (Str × V))
  | own (x : Addr)
  | xd (fs : List (Str × V))
  | met (f x : Addr)
  | rng (lo hi : Int)
  | frz (o : Obj) (u : HO)
  | tbl (ps : Array Value)
  | ext (φ : Heap → Prop)
noncomputable abbrev Hp := Addr → Option HO
noncomputable def upd (H : Hp) (a : Addr) (o : HO) : Hp := fun b => if b = a then some o else H b
theorem upd_same {H : Hp} {a : Addr} {o : HO} : upd H a o a = some o := by unfold upd; rw [if_pos rfl]
theorem upd_ne {H : Hp} {a b : Addr} {o : HO} (h : b ≠ a) : upd H a o b = H b := by unfold upd; rw [if_neg h]
theorem ne_of {H : Hp} {a b : Addr} {o u : HO} (h : H a = some o) (h' : H b = some u) (d : o ≠ u) : a ≠ b := by
  intro e; subst e; rw [h] at h'; exact d (Option.some.inj h')
theorem ne_of_none {H : Hp} {a b : Addr} {o : HO} (h : H a = some o) (h' : H b = none) : a ≠ b := by
  intro e; subst e; rw [h] at h'; cases h'
section
variable (P : Program) (w : World)
noncomputable def ObjOk (H : Hp) (h : Heap) (a : Addr) : HO → Prop
  | .lst xs => xs.length ≤ sizeLine ∧ ∃ (its : List Value) (n : Nat), Vals xs its ∧ h.get? a = some { cls := .type "list", data := .seq its.toArray n }
  | .tup xs => xs.length ≤ sizeLine ∧ ∃ its : List Value, Vals xs its ∧ IsTup h a its.toArray
  | .dK kvs => kvs.length ≤ sizeLine ∧ (a == sysModules) = false ∧ ∃ vs, KV kvs vs ∧ h.DictOf (mixKind P w) a vs
  | .dT kvs => kvs.length ≤ sizeLine ∧ (a == sysModules) = false ∧ ∃ xs : List (List Key × Addr × Value),
      Paired (fun (p : List Key × V) (q : List Key × Addr × Value) => p.1 = q.1 ∧ H q.2.1 = some (.tup (p.1.map kV)) ∧ RelV p.2 q.2.2) kvs xs ∧
      ∃ o es ep, h.get? a = some o ∧ o.ExactDict ∧ o.data = .dict es ep ∧ es.toList = xs.map (entryOfKey (tupleKind (mixKind P w))) ∧ (xs.map (·.1)).Nodup
  | .set S n => h.SetOf (intKind P w) a S n
  | .ins C dx fs => H dx = some (.own a) ∧ fs.length ≤ 1000 ∧ dx ≠ a ∧ h.get? a = some (PySem.W.instObj C dx) ∧
      ∃ mA, h.Ns1 dx mA ∧ (∀ f, RelO (fs.lookup f) (mA f)) ∧ PySem.Within mA (fs.map (·.1))
  | .own _ => ∃ o, h.get? a = some o
  | .xd fs => ∃ mA, h.Ns1 a mA ∧ ∀ f, RelO (fs.lookup f) (mA f)
  | .rng lo hi => ∃ t u v, h.get? a = some { cls := .type "range", data := .fields #[.int lo t, .int hi u, .int 1 v] }
  | .frz o u => h.get? a = some o ∧ ObjOk H h a u
  | .tbl ps => h.get? a = some { cls := .none, data := .fields ps }
  | .met f x => h.get? a = some (PySem.W.methodObj (.ref f) (.ref x))
  | .ext φ => φ h ∧ (∃ o, h.get? a = some o) ∧ ∀ h1 h2 : Heap, φ h1 → (∀ o, h1.get? a = some o → h2.get? a = some o) → φ h2
noncomputable def HOk (H : Hp) (h : Heap) : Prop := ∀ a o, H a = some o → ObjOk P w H h a o
end
section
variable {P : Program} {w : World} {H H' : Hp} {h h' : Heap} {a : Addr} {o : HO}
theorem ObjOk.lt (x : ObjOk P w H h a o) : a < h.objs.size := by
  cases o with
  | lst xs => obtain ⟨_, _, _, _, e⟩ := x; exact Heap.lt_size e
  | tup xs => obtain ⟨_, _, _, p⟩ := x; exact p.lt
  | dK kvs => obtain ⟨_, _, _, _, o, _, _, e, _⟩ := x; exact Heap.lt_size e
  | dT kvs => obtain ⟨_, _, _, _, o, _, _, e, _⟩ := x; exact Heap.lt_size e
  | set S n => obtain ⟨o, _, _, _, e, _⟩ := x; exact Heap.lt_size e
  | ins C dx fs => obtain ⟨_, _, _, e, _⟩ := x; exact Heap.lt_size e
  | own y => obtain ⟨_, e⟩ := x; exact Heap.lt_size e
  | xd fs => obtain ⟨_, ⟨_, _, _, e, _⟩, _⟩ := x; exact Heap.lt_size e
  | rng lo hi => obtain ⟨_, _, _, e⟩ := x; exact Heap.lt_size e
  | frz ob u => obtain ⟨e, _⟩ := x; exact Heap.lt_size e
  | tbl ps => exact Heap.lt_size (show h.get? a = some _ from x)
  | met f y => exact Heap.lt_size (show h.get? a = some _ from x)
  | ext φ => obtain ⟨_, ⟨_, e⟩, _⟩ := x; exact Heap.lt_size e
theorem Paired.mapP {α β : Type} {F G : α → β → Prop} : ∀ {l₁ : List α} {l₂ : List β}, Paired F l₁ l₂ → (∀ a b, F a b → G a b) → Paired G l₁ l₂
  | _, _, .nil, _ => .nil
  | _, _, .cons r t, f => .cons (f _ _ r) (Paired.mapP t f)
theorem ObjOk.stay (x : ObjOk P w H h a o) (k : ∀ b u, (b = a ∨ H b = some (.own a)) → h.get? b = some u → h'.get? b = some u)
    (ho : ∀ b, H b = some (.own a) → H' b = some (.own a)) (ht : ∀ b xs, H b = some (.tup xs) → H' b = some (.tup xs)) : ObjOk P w H' h' a o := by
  induction o with
  | lst xs => obtain ⟨z, its, n, r, e⟩ := x; exact ⟨z, its, n, r, k _ _ (.inl rfl) e⟩
  | tup xs => obtain ⟨z, its, r, ob, e, c⟩ := x; exact ⟨z, its, r, ob, k _ _ (.inl rfl) e, c⟩
  | dK kvs => obtain ⟨z, y, vs, r, ob, es, ep, e, c⟩ := x; exact ⟨z, y, vs, r, ob, es, ep, k _ _ (.inl rfl) e, c⟩
  | dT kvs =>
    obtain ⟨z, y, xs, r, ob, es, ep, e, c⟩ := x
    exact ⟨z, y, xs, Paired.mapP r fun p q z => ⟨z.1, ht _ _ z.2.1, z.2.2⟩, ob, es, ep, k _ _ (.inl rfl) e, c⟩
  | set S n => obtain ⟨ob, es, ep, t, e, c⟩ := x; exact ⟨ob, es, ep, t, k _ _ (.inl rfl) e, c⟩
  | ins C dx fs =>
    obtain ⟨d, z, ne, e, mA, ⟨od, es, ep, e2, c⟩, r⟩ := x
    exact ⟨ho _ d, z, ne, k _ _ (.inl rfl) e, mA, ⟨od, es, ep, k _ _ (.inr d) e2, c⟩, r⟩
  | own y => obtain ⟨ob, e⟩ := x; exact ⟨ob, k _ _ (.inl rfl) e⟩
  | xd fs => obtain ⟨mA, ⟨od, es, ep, e, c⟩, r⟩ := x; exact ⟨mA, ⟨od, es, ep, k _ _ (.inl rfl) e, c⟩, r⟩
  | rng lo hi => obtain ⟨t, u, v, e⟩ := x; exact ⟨t, u, v, k _ _ (.inl rfl) e⟩
  | frz ob u ih => obtain ⟨e, q⟩ := x; exact ⟨k _ _ (.inl rfl) e, ih q⟩
  | tbl ps =>
    have e : h.get? a = some { cls := .none, data := .fields ps } := x
    show h'.get? a = some { cls := .none, data := .fields ps }
    exact k a _ (.inl rfl) e
  | met f y =>
    have e : h.get? a = some (PySem.W.methodObj (.ref f) (.ref y)) := x
    show h'.get? a = some (PySem.W.methodObj (.ref f) (.ref y))
    exact k a _ (.inl rfl) e
  | ext φ => obtain ⟨p, ⟨o, e⟩, st⟩ := x; exact ⟨st _ _ p fun o q => k _ _ (.inl rfl) q, ⟨o, k _ _ (.inl rfl) e⟩, st⟩
theorem HOk.lt (x : HOk P w H h) (e : H a = some o) : a < h.objs.size := (x a o e).lt
theorem HOk.fresh (x : HOk P w H h) (e : h.objs.size ≤ a) : H a = none := by
  cases q : H a with
  | none => rfl
  | some u => exact absurd (Nat.lt_of_lt_of_le (x.lt q) e) (Nat.lt_irrefl _)
theorem HOk.kept (x : HOk P w H h) (k : ∀ b u, h.get? b = some u → h'.get? b = some u) : HOk P w H h' := fun a o e =>
  (x a o e).stay (fun b u _ q => k b u q) (fun _ q => q) fun _ _ q => q
theorem HOk.laid (x : HOk P w H h) (k : ∀ b u, h.get? b = some u → h'.get? b = some u) (hp : h.objs.size ≤ a) (new : ObjOk P w (upd H a o) h' a o) : HOk P w (upd H a o) h' := fun b u e => by
  have hn := x.fresh hp
  by_cases hb : b = a
  · subst hb; rw [upd_same] at e; cases e; exact new
  · rw [upd_ne hb] at e
    exact (x b u e).stay (fun c v _ q => k c v q) (fun c q => by rw [upd_ne (ne_of_none q hn)]; exact q) fun c xs q => by rw [upd_ne (ne_of_none q hn)]; exact q
end
noncomputable def Rd (H : Hp) (a : Addr) (u : HO) : Prop := H a = some u ∨ ∃ o, H a = some (.frz o u)
theorem Rd.ok {P : Program} {w : World} {H : Hp} {h : Heap} {a : Addr} {u : HO} (r : Rd H a u) (x : HOk P w H h) : ObjOk P w H h a u := by
  rcases r with r | ⟨o, r⟩
  · exact x a u r
  · obtain ⟨_, q⟩ := x a _ r
    exact q
noncomputable def Mut : Option HO → Prop
  | some (.lst _) => True
  | some (.dK _) => True
  | some (.dT _) => True
  | some (.set _ _) => True
  | some (.ins _ _ _) => True
  | some (.ext _) => True
  | _ => False
section
variable {P : Program} {w : World} {H : Hp} {h h' : Heap} {x e : Addr} {o' : HO}
theorem HOk.write (ok : HOk P w H h) (mu : Mut (H x)) (he : e = x ∨ H e = some (.own x)) (k : ∀ b u, b ≠ e → h.get? b = some u → h'.get? b = some u) (heo : ∃ u, h'.get? e = some u)
    (new : ObjOk P w (upd H x o') h' x o') : HOk P w (upd H x o') h' := fun b u q => by
  have nown : ∀ c y, H c = some (.own y) → c ≠ x := fun c y r z => by subst z; rw [r] at mu; exact mu
  have ntup : ∀ c xs, H c = some (.tup xs) → c ≠ x := fun c xs r z => by subst z; rw [r] at mu; exact mu
  by_cases hb : b = x
  · subst hb; rw [upd_same] at q; cases q; exact new
  · rw [upd_ne hb] at q
    by_cases hbe : b = e
    · have q' : H b = some (.own x) := by
        rcases he with z | z
        · exact absurd (hbe.trans z) hb
        · rw [hbe]; exact z
      rw [q] at q'; cases q'
      obtain ⟨v, hv⟩ := heo
      exact ⟨v, by rw [hbe]; exact hv⟩
    · refine (ok b u q).stay (fun c v hc r => k c v ?_ r) (fun c r => by rw [upd_ne (nown c b r)]; exact r) fun c xs r => by rw [upd_ne (ntup c xs r)]; exact r
      rcases hc with rfl | hc
      · exact hbe
      · rintro rfl
        rcases he with z | z
        · exact nown c b hc z
        · rw [hc] at z; cases z; exact hb rfl
end
structure Un (fs ex : List Addr) (H H' : Hp) (h h' : Heap) : Prop where
  keep : ∀ b o, h.get? b = some o → H b = none → b ∉ fs → b ∉ ex → h'.get? b = some o
  slot : ∀ b o, h.get? b = some o → H b = none → b ∈ fs → b ∉ ex → ∃ sl, h'.get? b = some { o with slots := sl }
  free : ∀ b o, h.get? b = some o → H b = none → b ∉ ex → H' b = none
  there : ∀ b o, h.get? b = some o → b ∉ ex → ∃ o', h'.get? b = some o'
  tups : ∀ b xs, H b = some (.tup xs) → H' b = some (.tup xs)
  frzs : ∀ b o u, H b = some (.frz o u) → H' b = some (.frz o u)
  tbls : ∀ b ps, H b = some (.tbl ps) → ∃ more, H' b = some (.tbl (ps ++ more))
section
variable {fs fs' ex ex' : List Addr} {H H1 H2 : Hp} {h h1 h2 h' : Heap} {a x e : Addr} {o : HO}
theorem Un.any (u : Un fs ex H H1 h h1) {b : Addr} {ob : Obj} (q : h.get? b = some ob) (n : H b = none) (hx : b ∉ ex) : ∃ sl, h1.get? b = some { ob with slots := sl } := by
  by_cases hb : b ∈ fs
  · exact u.slot b ob q n hb hx
  · exact ⟨ob.slots, u.keep b ob q n hb hx⟩
theorem Un.kept (k : ∀ b u, h.get? b = some u → h'.get? b = some u) : Un fs ex H H h h' :=
  ⟨fun b ob q _ _ _ => k b ob q, fun b ob q _ _ _ => ⟨ob.slots, k b ob q⟩, fun _ _ _ n _ => n, fun b ob q _ => ⟨ob, k b ob q⟩, fun _ _ q => q, fun _ _ _ q => q, fun _ ps q => ⟨#[], by rw [q]; simp⟩⟩
theorem Un.refl : Un fs ex H H h h := Un.kept fun _ _ q => q
theorem Un.laid (k : ∀ b u, h.get? b = some u → h'.get? b = some u) (hp : h.objs.size ≤ a) (hn : H a = none) : Un fs ex H (upd H a o) h h' where
  keep := fun b u q _ _ _ => k b u q
  slot := fun b u q _ _ _ => ⟨u.slots, k b u q⟩
  free := fun b u q n _ => by rw [upd_ne (Nat.ne_of_lt (Nat.lt_of_lt_of_le (Heap.lt_size q) hp))]; exact n
  there := fun b u q _ => ⟨u, k b u q⟩
  tups := fun b xs q => by rw [upd_ne (ne_of_none q hn)]; exact q
  frzs := fun b u xs q => by rw [upd_ne (ne_of_none q hn)]; exact q
  tbls := fun b ps q => ⟨#[], by rw [upd_ne (ne_of_none q hn), q]; simp⟩
theorem Un.write (mu : Mut (H x)) (he : e = x ∨ H e = some (.own x)) (k : ∀ b u, b ≠ e → h.get? b = some u → h'.get? b = some u) (heo : ∃ u, h'.get? e = some u) : Un fs ex H (upd H x o) h h' := by
  have hx : ∀ b, H b = none → b ≠ x := fun b n z => by subst z; rw [n] at mu; exact mu
  have hb : ∀ b, H b = none → b ≠ e := fun b n z => by
    subst z
    rcases he with r | r
    · exact hx b n r
    · rw [n] at r; cases r
  have hm : ∀ b u, H b = some u → ¬ Mut (some u) → b ≠ x := fun b u q nm z => by subst z; rw [q] at mu; exact nm mu
  refine ⟨fun b u q n _ _ => k b u (hb b n) q, fun b u q n _ _ => ⟨u.slots, k b u (hb b n) q⟩, fun b u q n _ => by rw [upd_ne (hx b n)]; exact n, fun b u q _ => ?_,
    fun b xs q => by rw [upd_ne (hm b _ q fun z => z)]; exact q, fun b u xs q => by rw [upd_ne (hm b _ q fun z => z)]; exact q, fun b ps q => ⟨#[], by rw [upd_ne (hm b _ q fun z => z), q]; simp⟩⟩
  by_cases hbe : b = e
  · subst hbe; exact heo
  · exact ⟨u, k b u hbe q⟩
end
noncomputable def trk (h : Heap) (H : Hp) : List Addr := (List.range h.objs.size).filter fun a => (H a).isSome
noncomputable def hidT (h : Heap) (H : Hp) : Heap := PySem.W.hideAll h (trk h H)
theorem hidT_size (h : Heap) (H : Hp) : (hidT h H).objs.size = h.objs.size := PySem.W.hideAll_size _ _
theorem hidT_get {h : Heap} {H : Hp} {b : Addr} {o : Obj} (e : h.get? b = some o) (n : H b = none) : (hidT h H).get? b = some o :=
  PySem.W.hideAll_get _ e fun hm => by
    have q : (H b).isSome = true := (List.mem_filter.mp hm).2
    rw [n] at q; simp at q
theorem of_hidT {h : Heap} {H : Hp} {b : Addr} {o : Obj} (e : (hidT h H).get? b = some o) : h.get? b = some o ∧ H b = none := by
  have e' : h.get? b = some o := PySem.W.of_hideAll (trk h H) e
  refine ⟨e', ?_⟩
  cases q : H b with
  | none => rfl
  | some x =>
    have hm : b ∈ trk h H := List.mem_filter.mpr ⟨List.mem_range.mpr (Heap.lt_size e'), by simp [q]⟩
    have z : (hidT h H).get? b = none := PySem.W.hideAll_none (trk h H) hm
    rw [z] at e; cases e
end L2
namespace L2
open PySem PySem.Spec PyProof.Rows
structure Mod (K : PySem.W.Frag) (mg : Str → Option Value) (base : Heap) : Prop where
  kin : K.In base
  glob : base.Ns mainGlobals mg
  blt : ∃ mb, base.Ns builtinsNs mb ∧ ∀ x : Str, x ≠ "__name__" → mb x = bootBuiltins x
  nolimit : base.NoLimit
structure Cx where
  prog : Program
  w : World
  K : PySem.W.Frag
  mg : Str → Option Value
  base : Heap
  A : Around
  N : List Str
  s₀ : Shared
  H₀ : Hp
  env : Env
  outer : List Env
  stack : List Env
  ex : List Addr
  fn : Str → Bool
  calm : Bool
  pn : List (Addr × Obj)
  xe : Value → Shared → Prop
noncomputable def frs (l : List Env) : List Addr := l.filterMap (·.frame)
noncomputable abbrev Cx.fs (X : Cx) : List Addr := frs X.outer
noncomputable def Vis (sc : Scope) (x : Str) : Prop := sc.names.lookup x = some .local ∨ sc.names.lookup x = some .cell ∨ sc.names.lookup x = some .free
noncomputable def Loc (sc : Scope) (x : Str) : Prop := sc.names.lookup x = some .local ∨ sc.names.lookup x = some .cell
noncomputable def Look (env : Env) (h : Heap) (m : Str → Option Value) (x : Str) (u : Value) : Prop :=
  (env.kindOf x = some .local ∧ m x = some u) ∨ ((env.kindOf x = some .cell ∨ env.kindOf x = some .free) ∧ ∃ c, env.cells.lookup x = some c ∧ h.IsCell c (some u))
structure Cx.Ok (X : Cx) : Prop where
  mod : Mod X.K X.mg X.base
  kind : X.env.scope.kind = .function
  glob : X.env.globals = mainGlobals
  blt : X.env.builtins = builtinsNs
  above : X.s₀.heap.objs.size ≤ X.env.locals
  inj : ∀ x y c, X.env.cells.lookup x = some c → X.env.cells.lookup y = some c → x = y
  has : ∀ x, (X.env.kindOf x = some .cell ∨ X.env.kindOf x = some .free) → ∃ c, X.env.cells.lookup x = some c
  cab : ∀ x c, X.fn x = true → X.env.cells.lookup x = some c → X.s₀.heap.objs.size ≤ c
  hd : X.calm = true → X.A.handled = none
  frames : X.A.frames = some X.stack
  stk : X.stack = X.outer ∨ (X.stack = X.env :: X.outer ∧ X.env.frame = some X.env.locals)
  exf : ∀ b ∈ X.ex, b ≠ X.env.locals ∧ ∀ x c, X.env.cells.lookup x = some c → c ≠ b
  bs : ∀ b o, X.base.get? b = some o → X.s₀.heap.get? b = some o ∧ X.H₀ b = none
  bsz : X.base.objs.size ≤ X.s₀.heap.objs.size
  noex : ∀ b o, X.base.get? b = some o → b ∉ X.ex
  exfs : ∀ b ∈ X.ex, b ∉ X.fs
  funs : X.s₀.heap.FunFrames X.base X.outer
  frf : ∀ b ∈ X.fs, X.H₀ b = none
structure Inv (X : Cx) (pins : List (Addr × Obj)) (σ : List (Option V)) (H : Hp) (s : Shared) : Prop where
  ok : X.Ok
  os : s.os = X.s₀.os
  bare : AllBare s.gens
  base : Un X.fs X.ex X.H₀ H X.s₀.heap s.heap
  loc : ∃ m, s.heap.Ns X.env.locals m ∧ ∀ (i : Nat) (x : Str) (v : V), X.N[i]? = some x → σ[i]? = some (some v) → Vis X.env.scope x → ∃ u, RelV v u ∧ Look X.env s.heap m x u
  cell : ∀ x c, X.env.cells.lookup x = some c → ∃ v, s.heap.IsCell c v
  free : H X.env.locals = none
  freeC : ∀ x c, X.env.cells.lookup x = some c → H c = none
  pin : ∀ p ∈ X.pn ++ pins, s.heap.get? p.1 = some p.2 ∧ H p.1 = none ∧ p.1 ≠ X.env.locals ∧ p.1 ∉ X.fs ∧ ∀ v, p.2.data ≠ .cell v
  hok : HOk X.prog X.w H s.heap
  len : σ.length = X.N.length
section
variable {X : Cx} {pins : List (Addr × Obj)} {σ : List (Option V)} {H H' : Hp} {s : Shared} {h' : Heap}
theorem Cx.Ok.nofr (ok : X.Ok) {b : Addr} {o : Obj} (e : X.base.get? b = some o) : b ∉ X.fs := fun hb => by
  have := (ok.funs.mem hb).1
  rw [e] at this; cases this
theorem Inv.bs (I : Inv X pins σ H s) : ∀ b o, X.base.get? b = some o → s.heap.get? b = some o ∧ H b = none := fun b o e =>
  ⟨I.base.keep b o (I.ok.bs b o e).1 (I.ok.bs b o e).2 (I.ok.nofr e) (I.ok.noex b o e), I.base.free b o (I.ok.bs b o e).1 (I.ok.bs b o e).2 (I.ok.noex b o e)⟩
theorem Inv.bk (I : Inv X pins σ H s) : ∀ b o, X.base.get? b = some o → s.heap.get? b = some o := fun b o e => (I.bs b o e).1
theorem Inv.mod (I : Inv X pins σ H s) : Mod X.K X.mg X.base := I.ok.mod
theorem Inv.kIn (I : Inv X pins σ H s) : X.K.In s.heap := I.ok.mod.kin.keeps I.bk
theorem Inv.fr (I : Inv X pins σ H s) : ∃ m, Fr X.base X.env.locals s.heap m :=
  let ⟨m, hn, _⟩ := I.loc
  ⟨m, hn, I.bk, Nat.le_trans I.ok.bsz I.ok.above⟩
theorem Inv.lt (I : Inv X pins σ H s) : X.env.locals < s.heap.objs.size := let ⟨_, hn, _⟩ := I.loc; hn.lt
theorem Inv.sz (I : Inv X pins σ H s) : X.s₀.heap.objs.size ≤ s.heap.objs.size := Nat.le_trans I.ok.above (Nat.le_of_lt I.lt)
theorem Inv.nofs (I : Inv X pins σ H s) {a : Addr} (h : s.heap.objs.size ≤ a) : a ∉ X.fs := fun hb => by
  obtain ⟨_, o, ho, _⟩ := I.ok.funs.mem hb
  exact absurd (Nat.lt_of_lt_of_le (Heap.lt_size ho) (Nat.le_trans I.sz h)) (Nat.lt_irrefl _)
theorem Inv.cne (I : Inv X pins σ H s) : ∀ x c, X.env.cells.lookup x = some c → c ≠ X.env.locals := fun x c e z => by
  obtain ⟨v, o, ho, hd⟩ := I.cell x c e
  obtain ⟨m, ⟨o', es, ep, ho', hd', _⟩, _⟩ := I.loc
  rw [z, ho'] at ho; cases ho; rw [hd'] at hd; cases hd
theorem Inv.funs (I : Inv X pins σ H s) : s.heap.FunFrames X.base X.outer := by
  have all : ∀ (l : List Env), (∀ b ∈ frs l, b ∈ X.fs) → X.s₀.heap.FunFrames X.base l → s.heap.FunFrames X.base l := by
    intro l
    induction l with
    | nil => intro _ _; trivial
    | cons env r ih =>
      intro hs hl
      obtain ⟨hk, ⟨L, o, hf, hn, ho, hd⟩, hr⟩ := hl
      have hL : L ∈ X.fs := hs L (by unfold frs; rw [List.filterMap_cons, hf]; exact List.mem_cons_self)
      obtain ⟨sl, e⟩ := I.base.slot L o ho (I.ok.frf L hL) hL fun z => I.ok.exfs L z hL
      exact ⟨hk, ⟨L, _, hf, hn, e, hd⟩, ih (fun b hb => hs b (by unfold frs; rw [List.filterMap_cons, hf]; exact List.mem_cons_of_mem _ hb)) hr⟩
  exact all X.outer (fun _ hb => hb) I.ok.funs
theorem Inv.stack (I : Inv X pins σ H s) : s.heap.FunFrames X.base X.stack := by
  rcases I.ok.stk with e | ⟨e, hf⟩
  · rw [e]; exact I.funs
  · rw [e]
    obtain ⟨m, hn, _⟩ := I.loc
    refine .cons (by rw [I.ok.kind]; decide) hf hn ?_ I.funs
    exact Heap.get?_none_of_le (Nat.le_trans I.ok.bsz I.ok.above)
theorem Inv.stkSub (I : Inv X pins σ H s) : ∀ b ∈ frs X.stack, b ∈ X.env.locals :: X.fs := fun b hb => by
  rcases I.ok.stk with e | ⟨e, hf⟩
  · rw [e] at hb; exact List.mem_cons_of_mem _ hb
  · rw [e] at hb
    unfold frs at hb
    rw [List.filterMap_cons, hf] at hb
    exact hb
theorem Inv.stkFree (I : Inv X pins σ H s) : ∀ b ∈ frs X.stack, H b = none := fun b hb => by
  rcases List.mem_cons.mp (I.stkSub b hb) with e | hb
  · rw [e]; exact I.free
  · obtain ⟨_, o, ho, _⟩ := I.ok.funs.mem hb
    exact I.base.free b o ho (I.ok.frf b hb) fun z => I.ok.exfs b z hb
theorem Inv.step {g' : Array GenState} {t' : Nat} {d' : Drawn} {ch : List Addr} (I : Inv X pins σ H s)
    (hch : ∀ b ∈ ch, (b ∈ X.ex ∨ X.s₀.heap.objs.size ≤ b) ∧ b ≠ X.env.locals ∧ (∀ x c, X.env.cells.lookup x = some c → c ≠ b) ∧ ∀ p ∈ X.pn ++ pins, p.1 ≠ b)
    (keep : ∀ b o, b ≠ X.env.locals → b ∉ X.fs → b ∉ ch → s.heap.get? b = some o → H b = none → h'.get? b = some o)
    (slot : ∀ b o, b ≠ X.env.locals → b ∈ X.fs → b ∉ ch → s.heap.get? b = some o → H b = none → ∃ sl, h'.get? b = some { o with slots := sl }) (free : ∀ b o, b ∉ ch → s.heap.get? b = some o → H b = none → H' b = none)
    (there : ∀ b o, b ∉ ch → s.heap.get? b = some o → ∃ o', h'.get? b = some o')
    (tups : ∀ b xs, H b = some (.tup xs) → H' b = some (.tup xs)) (frzs : ∀ b o u, H b = some (.frz o u) → H' b = some (.frz o u)) (tbls : ∀ b ps, H b = some (.tbl ps) → ∃ more, H' b = some (.tbl (ps ++ more)))
    (ns : ∀ m, s.heap.Ns X.env.locals m → h'.Ns X.env.locals m) (hok : HOk X.prog X.w H' h') (hg : AllBare g') :
    Inv X pins σ H' { s with heap := h', gens := g', drawn := d', toks := t' } := by
  have neL : ∀ b o, X.s₀.heap.get? b = some o → b ≠ X.env.locals := fun b o e => Nat.ne_of_lt (Nat.lt_of_lt_of_le (Heap.lt_size e) I.ok.above)
  have neC : ∀ b o, X.s₀.heap.get? b = some o → b ∉ X.ex → b ∉ ch := fun b o e hx hb => by
    rcases (hch b hb).1 with z | z
    · exact hx z
    · exact absurd (Nat.lt_of_lt_of_le (Heap.lt_size e) z) (Nat.lt_irrefl _)
  have cellK : ∀ x c, X.env.cells.lookup x = some c → ∀ v, s.heap.IsCell c v → h'.IsCell c v := fun x c e v ⟨o, ho, hd⟩ => by
    have nch : c ∉ ch := fun z => (hch c z).2.2.1 x c e rfl
    by_cases hc : c ∈ X.fs
    · obtain ⟨sl, q⟩ := slot c o (I.cne x c e) hc nch ho (I.freeC x c e)
      exact ⟨_, q, hd⟩
    · exact ⟨o, keep c o (I.cne x c e) hc nch ho (I.freeC x c e), hd⟩
  refine ⟨I.ok, I.os, hg, ⟨fun b o e n hb hx => ?_, fun b o e n hb hx => ?_, fun b o e n hx => ?_, fun b o e hx => ?_, fun b xs e => tups b xs (I.base.tups b xs e), fun b o xs e => frzs b o xs (I.base.frzs b o xs e), fun b ps e => ?_⟩, ?_, fun x c e => ?_, ?_, fun x c e => ?_, fun p hp => ?_, hok, I.len⟩
  · exact keep b o (neL b o e) hb (neC b o e hx) (I.base.keep b o e n hb hx) (I.base.free b o e n hx)
  · obtain ⟨sl, e1⟩ := I.base.slot b o e n hb hx
    obtain ⟨sl', e2⟩ := slot b _ (neL b o e) hb (neC b o e hx) e1 (I.base.free b o e n hx)
    exact ⟨sl', e2⟩
  · obtain ⟨o', e1⟩ := I.base.there b o e hx
    exact free b o' (neC b o e hx) e1 (I.base.free b o e n hx)
  · obtain ⟨o', e1⟩ := I.base.there b o e hx
    exact there b o' (neC b o e hx) e1
  · obtain ⟨m1, e1⟩ := I.base.tbls b ps e
    obtain ⟨m2, e2⟩ := tbls b _ e1
    exact ⟨m1 ++ m2, by rw [e2, Array.append_assoc]⟩
  · obtain ⟨m, hn, hl⟩ := I.loc
    refine ⟨m, ns m hn, fun i x v e1 e2 e3 => ?_⟩
    obtain ⟨u, r, l⟩ := hl i x v e1 e2 e3
    refine ⟨u, r, ?_⟩
    rcases l with l | ⟨k, c, e, z⟩
    · exact .inl l
    · exact .inr ⟨k, c, e, cellK x c e _ z⟩
  · obtain ⟨v, z⟩ := I.cell x c e
    exact ⟨v, cellK x c e v z⟩
  · obtain ⟨m, ⟨o, _, _, ho, _⟩, _⟩ := I.loc
    exact free _ o (fun z => (hch _ z).2.1 rfl) ho I.free
  · obtain ⟨v, o, ho, hd⟩ := I.cell x c e
    exact free c o (fun z => (hch c z).2.2.1 x c e rfl) ho (I.freeC x c e)
  · obtain ⟨e, n, ne, nf, d⟩ := I.pin p hp
    have nch : p.1 ∉ ch := fun z => (hch p.1 z).2.2.2 p hp rfl
    exact ⟨keep p.1 p.2 ne nf nch e n, free p.1 p.2 nch e n, ne, nf, d⟩
theorem Inv.un {t' : Nat} (I : Inv X pins σ H s) (u : Un X.fs [] H H' s.heap h') (hok : HOk X.prog X.w H' h') : Inv X pins σ H' { s with heap := h', toks := t' } := by
  obtain ⟨m, ⟨o, es, ep, ho, r⟩, _⟩ := id I.loc
  obtain ⟨sl, hL⟩ := u.any ho I.free (by simp)
  exact I.step (g' := s.gens) (d' := s.drawn) (ch := []) (fun _ z => nomatch z) (fun b o _ hb _ e n => u.keep b o e n hb (by simp)) (fun b o _ hb _ e n => u.slot b o e n hb (by simp)) (fun b o _ e n => u.free b o e n (by simp)) (fun b o _ e => u.there b o e (by simp)) u.tups u.frzs u.tbls (fun m' hm => by
    obtain ⟨o', es', ep', ho', r'⟩ := hm
    rw [ho] at ho'; cases ho'
    exact ⟨_, es', ep', hL, r'⟩) hok I.bare
theorem Inv.call {g' : Array GenState} {t' : Nat} {d' : Drawn} {ch : List Addr} (I : Inv X pins σ H s) (u : Un (frs X.stack) ch H H' s.heap h') (hok : HOk X.prog X.w H' h') (hg : AllBare g')
    (hch : ∀ b ∈ ch, (b ∈ X.ex ∨ X.s₀.heap.objs.size ≤ b) ∧ b ≠ X.env.locals ∧ (∀ x c, X.env.cells.lookup x = some c → c ≠ b) ∧ ∀ p ∈ X.pn ++ pins, p.1 ≠ b) :
    Inv X pins σ H' { s with heap := h', gens := g', drawn := d', toks := t' } := by
  obtain ⟨m, ⟨o, es, ep, ho, r⟩, _⟩ := id I.loc
  obtain ⟨sl, hL⟩ := u.any ho I.free fun z => (hch _ z).2.1 rfl
  exact I.step (ch := ch) hch (fun b o hL hb hc e n => u.keep b o e n (fun z => (List.mem_cons.mp (I.stkSub b z)).elim hL hb) hc) (fun b o _ _ hc e n => u.any e n hc) (fun b o hc e n => u.free b o e n hc) (fun b o hc e => u.there b o e hc) u.tups u.frzs u.tbls (fun m' hm => by
    obtain ⟨o', es', ep', ho', r'⟩ := hm
    rw [ho] at ho'; cases ho'
    exact ⟨_, es', ep', hL, r'⟩) hok hg
theorem Inv.turned {t' : Nat} {it : Addr} (I : Inv X pins σ H s) (k : ∀ b o, b ≠ it → s.heap.get? b = some o → h'.get? b = some o) (hn : H it = none) (hL : it ≠ X.env.locals)
    (h1 : it ∈ X.ex ∨ X.s₀.heap.objs.size ≤ it) (h2 : ∀ x c, X.env.cells.lookup x = some c → c ≠ it) (h3 : ∀ p ∈ X.pn ++ pins, p.1 ≠ it) : Inv X pins σ H { s with heap := h', toks := t' } := by
  have nit : ∀ b u, H b = some u → b ≠ it := fun b u e z => by rw [z, hn] at e; cases e
  refine I.step (g' := s.gens) (d' := s.drawn) (ch := [it]) (fun b hb => ?_) (fun b o _ _ hc e _ => k b o (fun z => hc (by simp [z])) e) (fun b o _ _ hc e _ => ⟨o.slots, k b o (fun z => hc (by simp [z])) e⟩) (fun _ _ _ _ n => n)
    (fun b o hc e => ⟨o, k b o (fun z => hc (by simp [z])) e⟩) (fun _ _ e => e) (fun _ _ _ e => e) (fun b ps e => ⟨#[], by rw [e]; simp⟩) (fun m hm => ?_) (fun b u e => ?_) I.bare
  · have e : b = it := by simpa using hb
    subst e
    exact ⟨h1, hL, h2, h3⟩
  · obtain ⟨o, es, ep, ho, r⟩ := hm
    exact ⟨o, es, ep, k _ o (Ne.symm hL) ho, r⟩
  · refine (I.hok b u e).stay (fun c v hc q => k c v ?_ q) (fun _ q => q) fun _ _ q => q
    rcases hc with z | z
    · rw [z]; exact nit b u e
    · exact nit c _ z
theorem Inv.tok (I : Inv X pins σ H s) (t : Nat) : Inv X pins σ H { s with toks := t } := I.un (h' := s.heap) (t' := t) Un.refl I.hok
theorem Inv.kept {t' : Nat} (I : Inv X pins σ H s) (k : ∀ b u, s.heap.get? b = some u → h'.get? b = some u) : Inv X pins σ H { s with heap := h', toks := t' } := I.un (Un.kept k) (I.hok.kept k)
theorem Inv.laid {a : Addr} {o : HO} {t' : Nat} (I : Inv X pins σ H s) (k : ∀ b u, s.heap.get? b = some u → h'.get? b = some u) (hp : s.heap.objs.size ≤ a) (new : ObjOk X.prog X.w (upd H a o) h' a o) :
    Inv X pins σ (upd H a o) { s with heap := h', toks := t' } := I.un (Un.laid k hp (I.hok.fresh hp)) (I.hok.laid k hp new)
theorem Inv.write {x e : Addr} {o : HO} {t' : Nat} (I : Inv X pins σ H s) (mu : Mut (H x)) (he : e = x ∨ H e = some (.own x)) (k : ∀ b u, b ≠ e → s.heap.get? b = some u → h'.get? b = some u) (heo : ∃ u, h'.get? e = some u)
    (new : ObjOk X.prog X.w (upd H x o) h' x o) : Inv X pins σ (upd H x o) { s with heap := h', toks := t' } := I.un (Un.write mu he k heo) (I.hok.write mu he k heo new)
theorem Inv.weak {σ' : List (Option V)} (I : Inv X pins σ H s) (hl : σ'.length = σ.length) (w : ∀ (i : Nat) v, σ'[i]? = some (some v) → σ[i]? = some (some v)) : Inv X pins σ' H s :=
  ⟨I.ok, I.os, I.bare, I.base, let ⟨m, hn, hl'⟩ := I.loc; ⟨m, hn, fun i x v e1 e2 e3 => hl' i x v e1 (w i v e2) e3⟩, I.cell, I.free, I.freeC, I.pin, I.hok, hl.trans I.len⟩
theorem Inv.pins_of {pins' : List (Addr × Obj)} (I : Inv X pins σ H s) (h : ∀ p ∈ pins', s.heap.get? p.1 = some p.2 ∧ H p.1 = none ∧ p.1 ≠ X.env.locals ∧ p.1 ∉ X.fs ∧ ∀ v, p.2.data ≠ .cell v) : Inv X pins' σ H s :=
  ⟨I.ok, I.os, I.bare, I.base, I.loc, I.cell, I.free, I.freeC, fun p hp => (List.mem_append.mp hp).elim (fun z => I.pin p (List.mem_append_left _ z)) (h p), I.hok, I.len⟩
theorem nodup_ix {N : List Str} (hN : N.Nodup) {i j : Nat} {x : Str} (a : N[i]? = some x) (b : N[j]? = some x) : i = j := by
  obtain ⟨h1, e1⟩ := List.getElem?_eq_some_iff.mp a
  obtain ⟨h2, e2⟩ := List.getElem?_eq_some_iff.mp b
  exact (List.getElem_inj hN).mp (e1.trans e2.symm)
theorem store_ok2 {M : Model} {A : Around} {E : Value → Shared → Prop} {i : Nat} {x : Str} {v : V} {u : Value} {Q : Unit → Shared → Prop} (I : Inv X pins σ H s) (hN : X.N.Nodup) (hi : X.N[i]? = some x) (hx : Loc X.env.scope x) (r : RelV v u)
    (h : ∀ s', Inv X pins (σ.set i (some v)) H s' → (∃ a, Heap.SameBut a s.heap s'.heap ∧ (a = X.env.locals ∨ X.env.cells.lookup x = some a)) → Q () s') (hf : X.fn x = true ∨ X.env.scope.names.lookup x = some .local := by first | exact .inl rfl | exact .inr rfl | assumption) : wpAny M A (storeName X.env x u) Q E s := by
  obtain ⟨m, hn, hl⟩ := id I.loc
  have hcls : (X.env.scope.kind == .class || (X.env.scope.kind == .module && X.env.locals != X.env.globals)) = false := by rw [I.ok.kind]; rfl
  have hiσ : i < σ.length := by rw [I.len]; exact (List.getElem?_eq_some_iff.mp hi).1
  have cne := I.cne
  have tracked : ∀ {a : Addr} {h' : Heap}, (∃ o, s.heap.get? a = some o ∧ H a = none) → Heap.SameBut a s.heap h' → HOk X.prog X.w H h' := fun {a h'} ha hs b ob e => by
    obtain ⟨_, _, hfree⟩ := ha
    refine (I.hok b ob e).stay (fun c w' hc q => (hs.2 c ?_).trans q) (fun _ q => q) fun _ _ q => q
    rintro rfl
    rcases hc with rfl | hc
    · rw [hfree] at e; cases e
    · rw [hfree] at hc; cases hc
  rcases hx with hk | hk
  · refine wpAny_storeName_local hk hn (fun h' hn' hs => ?_) hcls
    obtain ⟨oL, _, _, hoL, _⟩ := id hn
    refine h _ ⟨I.ok, I.os, I.bare, ⟨fun b o e n hb hx => ?_, fun b o e n hb hx => ?_, I.base.free, fun b o e hx => ?_, I.base.tups, I.base.frzs, I.base.tbls⟩, ⟨_, hn', fun j y v' e1 e2 e3 => ?_⟩, fun y c e => ?_, I.free, I.freeC, fun p hp => ?_, tracked ⟨oL, hoL, I.free⟩ hs, by simpa using I.len⟩ ⟨_, hs, .inl rfl⟩
    · exact (hs.2 b (Nat.ne_of_lt (Nat.lt_of_lt_of_le (Heap.lt_size e) I.ok.above))).trans (I.base.keep b o e n hb hx)
    · obtain ⟨sl, e1⟩ := I.base.slot b o e n hb hx
      exact ⟨sl, (hs.2 b (Nat.ne_of_lt (Nat.lt_of_lt_of_le (Heap.lt_size e) I.ok.above))).trans e1⟩
    · obtain ⟨o', e1⟩ := I.base.there b o e hx
      exact ⟨o', (hs.2 b (Nat.ne_of_lt (Nat.lt_of_lt_of_le (Heap.lt_size e) I.ok.above))).trans e1⟩
    · by_cases hj : j = i
      · subst hj
        rw [hi] at e1; cases e1
        rw [List.getElem?_set_self hiσ] at e2
        cases e2
        exact ⟨u, r, .inl ⟨hk, by simp⟩⟩
      · rw [List.getElem?_set_ne (Ne.symm hj)] at e2
        obtain ⟨u', r', q⟩ := hl j y v' e1 e2 e3
        refine ⟨u', r', ?_⟩
        rcases q with ⟨k, e⟩ | ⟨k, c, e, z⟩
        · refine .inl ⟨k, ?_⟩
          have : y ≠ x := fun e => hj (nodup_ix hN e1 (e ▸ hi))
          simp [this, e]
        · exact .inr ⟨k, c, e, z.sameBut hs (cne y c e)⟩
    · obtain ⟨w', z⟩ := I.cell y c e
      exact ⟨w', z.sameBut hs (cne y c e)⟩
    · obtain ⟨e, n, ne, nf, d⟩ := I.pin p hp
      exact ⟨(hs.2 p.1 ne).trans e, n, ne, nf, d⟩
  · have hfn : X.fn x = true := by
      rcases hf with z | z
      · exact z
      · rw [z] at hk; cases hk
    obtain ⟨c, hc⟩ := I.ok.has x (.inl hk)
    obtain ⟨w', z⟩ := I.cell x c hc
    refine wpAny_storeName_cell I.ok.kind hk hc z (fun h' hc' hs => ?_)
    obtain ⟨oc, hoc, hocd⟩ := id z
    refine h { s with heap := h' } ⟨I.ok, I.os, I.bare, ⟨fun b o e n hb hx => ?_, fun b o e n hb hx => ?_, I.base.free, fun b o e hx => ?_, I.base.tups, I.base.frzs, I.base.tbls⟩, ⟨m, hn.sameBut hs (Ne.symm (cne x c hc)), fun j y v' e1 e2 e3 => ?_⟩, fun y c' e => ?_, I.free, I.freeC, fun p hp => ?_, tracked ⟨oc, hoc, I.freeC x c hc⟩ hs, by simpa using I.len⟩ ⟨c, hs, .inr hc⟩
    · exact (hs.2 b (Nat.ne_of_lt (Nat.lt_of_lt_of_le (Heap.lt_size e) (I.ok.cab x c hfn hc)))).trans (I.base.keep b o e n hb hx)
    · obtain ⟨sl, e1⟩ := I.base.slot b o e n hb hx
      exact ⟨sl, (hs.2 b (Nat.ne_of_lt (Nat.lt_of_lt_of_le (Heap.lt_size e) (I.ok.cab x c hfn hc)))).trans e1⟩
    · obtain ⟨o', e1⟩ := I.base.there b o e hx
      exact ⟨o', (hs.2 b (Nat.ne_of_lt (Nat.lt_of_lt_of_le (Heap.lt_size e) (I.ok.cab x c hfn hc)))).trans e1⟩
    · by_cases hj : j = i
      · subst hj
        rw [hi] at e1; cases e1
        rw [List.getElem?_set_self hiσ] at e2
        cases e2
        exact ⟨u, r, .inr ⟨.inl hk, c, hc, hc'⟩⟩
      · rw [List.getElem?_set_ne (Ne.symm hj)] at e2
        obtain ⟨u', r', q⟩ := hl j y v' e1 e2 e3
        refine ⟨u', r', ?_⟩
        rcases q with q | ⟨k, c', e, z'⟩
        · exact .inl q
        · refine .inr ⟨k, c', e, z'.sameBut hs ?_⟩
          rintro rfl
          exact hj (nodup_ix hN e1 (I.ok.inj _ _ _ e hc ▸ hi))
    · by_cases hcc : c' = c
      · subst hcc; exact ⟨_, hc'⟩
      · obtain ⟨w2, z2⟩ := I.cell y c' e
        exact ⟨w2, z2.sameBut hs hcc⟩
    · obtain ⟨e, n, ne, nf, d⟩ := I.pin p hp
      refine ⟨(hs.2 p.1 ?_).trans e, n, ne, nf, d⟩
      intro q
      rw [q, hoc] at e
      have q' : oc = p.2 := Option.some.inj e
      exact d w' (by rw [← q']; exact hocd)
theorem store_ok {M : Model} {A : Around} {E : Value → Shared → Prop} {i : Nat} {x : Str} {v : V} {u : Value} {Q : Unit → Shared → Prop} (I : Inv X pins σ H s) (hN : X.N.Nodup) (hi : X.N[i]? = some x) (hx : Loc X.env.scope x) (r : RelV v u)
    (h : ∀ s', Inv X pins (σ.set i (some v)) H s' → Q () s') (hf : X.fn x = true ∨ X.env.scope.names.lookup x = some .local := by first | exact .inl rfl | exact .inr rfl | assumption) : wpAny M A (storeName X.env x u) Q E s :=
  store_ok2 I hN hi hx r (fun s' I' _ => h s' I') hf
theorem Inv.call' {s' : Shared} {ch : List Addr} (I : Inv X pins σ H s) (ho : s'.os = s.os) (u : Un (frs X.stack) ch H H' s.heap s'.heap) (hok : HOk X.prog X.w H' s'.heap) (hg : AllBare s'.gens)
    (hch : ∀ b ∈ ch, (b ∈ X.ex ∨ X.s₀.heap.objs.size ≤ b) ∧ b ≠ X.env.locals ∧ (∀ x c, X.env.cells.lookup x = some c → c ≠ b) ∧ ∀ p ∈ X.pn ++ pins, p.1 ≠ b) : Inv X pins σ H' s' := by
  obtain ⟨h', g', d', t', o'⟩ := s'
  have e : o' = s.os := ho
  subst e
  exact I.call (g' := g') (t' := t') (d' := d') u hok hg hch
end
noncomputable abbrev XK := Value → Option Addr → Hp → Prop
noncomputable abbrev St := List (Option V)
noncomputable abbrev VK := V → Hp → Prop
noncomputable abbrev TE := St → Hp → VK → Prop
noncomputable abbrev TT := St → Hp → (Bool → Hp → Prop) → Prop
noncomputable abbrev TA := St → Hp → (List V → Hp → Prop) → Prop
structure Ends where
  nx : St → Hp → Prop
  rt : VK
  bk : St → Hp → Prop := fun _ _ => False
  ct : St → Hp → Prop := fun _ _ => False
noncomputable abbrev TS := Ends → St → Hp → Prop
noncomputable def EP (X : Cx) (pins : List (Addr × Obj)) (σ : St) (Q : VK) (u : Value) (s' : Shared) : Prop := ∃ v H', Inv X pins σ H' s' ∧ RelV v u ∧ Q v H'
noncomputable def TP (X : Cx) (pins : List (Addr × Obj)) (σ : St) (Q : Bool → Hp → Prop) (b : Bool) (s' : Shared) : Prop := ∃ H', Inv X pins σ H' s' ∧ Q b H'
noncomputable def AP (X : Cx) (pins : List (Addr × Obj)) (σ : St) (Q : List V → Hp → Prop) (us : List Value) (s' : Shared) : Prop := ∃ vs H', Inv X pins σ H' s' ∧ Vals vs us ∧ Q vs H'
noncomputable def SP (X : Cx) (pins : List (Addr × Obj)) (D : Ends) (f : Flow) (s' : Shared) : Prop :=
  match f with
  | .next => ∃ σ' H', Inv X pins σ' H' s' ∧ D.nx σ' H'
  | .brk => ∃ σ' H', Inv X pins σ' H' s' ∧ D.bk σ' H'
  | .cont => ∃ σ' H', Inv X pins σ' H' s' ∧ D.ct σ' H'
  | .ret u => ∃ v σ' H', Inv X pins σ' H' s' ∧ RelV v u ∧ D.rt v H'
noncomputable def PE (X : Cx) (e : Expr) (t : TE) : Prop :=
  ∀ (pins : List (Addr × Obj)) (s : Shared) (σ : St) (H : Hp) (Q : VK), Inv X pins σ H s → t σ H Q → wpAny (model X.prog X.w) X.A (eval e X.env) (EP X pins σ Q) X.xe s
noncomputable def PT (X : Cx) (e : Expr) (t : TT) : Prop :=
  ∀ (pins : List (Addr × Obj)) (s : Shared) (σ : St) (H : Hp) (Q : Bool → Hp → Prop), Inv X pins σ H s → t σ H Q → wpAny (model X.prog X.w) X.A (isTrue e X.env (eval e X.env)) (TP X pins σ Q) X.xe s
noncomputable def PW (X : Cx) (e : Expr) (t : TT) : Prop :=
  ∀ (whole : Sem Value) (pins : List (Addr × Obj)) (s : Shared) (σ : St) (H : Hp) (Q : Bool → Hp → Prop), Inv X pins σ H s → t σ H Q → wpAny (model X.prog X.w) X.A (isTrue e X.env whole) (TP X pins σ Q) X.xe s
theorem PW.pt {X : Cx} {e : Expr} {t : TT} (h : PW X e t) : PT X e t := h _
noncomputable def PA (X : Cx) (es : List Expr) (t : TA) : Prop :=
  ∀ (pos : Pos) (pins : List (Addr × Obj)) (s : Shared) (σ : St) (H : Hp) (Q : List V → Hp → Prop), Inv X pins σ H s → t σ H Q → wpAny (model X.prog X.w) X.A (spliced (backTo pos (starEach es X.env))) (AP X pins σ Q) X.xe s
noncomputable def PS (X : Cx) (st : Stmt) (t : TS) : Prop :=
  ∀ (pins : List (Addr × Obj)) (s : Shared) (σ : St) (H : Hp) (D : Ends), Inv X pins σ H s → t D σ H → wpAny (model X.prog X.w) X.A (exec st X.env) (SP X pins D) X.xe s
noncomputable def PSs (X : Cx) (st : List Stmt) (t : TS) : Prop :=
  ∀ (pins : List (Addr × Obj)) (s : Shared) (σ : St) (H : Hp) (D : Ends), Inv X pins σ H s → t D σ H → wpAny (model X.prog X.w) X.A (execs st X.env) (SP X pins D) X.xe s
theorem thn {α : Type} {t : Sem α} {Q Q' : α → Shared → Prop} {M : Model} {A : Around} {E : Value → Shared → Prop} {s : Shared} (h : wpAny M A t Q E s) (hQ : ∀ a s, Q a s → Q' a s) : wpAny M A t Q' E s := wpAny_mono h hQ fun _ _ x => x
end L2
namespace L2
open PySem PySem.Spec PyProof.Rows
section
variable {X : Cx}
theorem bin {a b : Expr} {ta tb : TE} (ha : PE X a ta) (hb : PE X b tb) {pins : List (Addr × Obj)} {s : Shared} {σ : St} {H : Hp} {R : V → V → Hp → Prop} (I : Inv X pins σ H s) (h : ta σ H fun x H1 => tb σ H1 fun y H2 => R x y H2)
    {α : Type} {Q : α → Shared → Prop} {f : Value → Value → Sem α}
    (hf : ∀ v u s2 x y H2, Inv X pins σ H2 s2 → RelV x v → RelV y u → R x y H2 → wpAny (model X.prog X.w) X.A (f v u) Q X.xe s2) :
    wpAny (model X.prog X.w) X.A (eval a X.env) (fun v s₁ => wpAny (model X.prog X.w) X.A (eval b X.env) (fun u s₂ => wpAny (model X.prog X.w) X.A (f v u) Q X.xe s₂) X.xe s₁) X.xe s := by
  refine thn (ha pins s σ H _ I h) fun v s1 ⟨x, H1, I1, r1, q1⟩ => ?_
  refine thn (hb pins s1 σ H1 _ I1 q1) fun u s2 ⟨y, H2, I2, r2, q2⟩ => ?_
  exact hf v u s2 x y H2 I2 r1 r2 q2
noncomputable def tVar (i : Nat) : TE := fun σ H Q => ∃ v, σ[i]? = some (some v) ∧ Q v H
noncomputable def tC (v : V) : TE := fun _ H Q => Q v H
theorem pe_var {i : Nat} {x : Str} {pos : Pos} (hN : X.N[i]? = some x) (hv : Vis X.env.scope x) (hd : (x == ("__debug__" : Str)) = false := by decide) (hcd : (x == ("__classdict__" : Str)) = false := by decide) : PE X (.Name x pos) (tVar i) := by
  intro pins s σ H Q I h
  obtain ⟨v, e, h⟩ := h
  obtain ⟨m, hn, hl⟩ := I.loc
  obtain ⟨u, r, l⟩ := hl i x v hN e hv
  have fin : EP X pins σ Q u s := ⟨v, H, I, r, h⟩
  rcases l with ⟨hk, hm⟩ | ⟨hk, c, hc, hcell⟩
  · exact wpAny_Name (wpAny_loadName_local I.ok.kind hk hn hm fin) hd
  · rcases hk with hk | hk
    · exact wpAny_Name (wpAny_loadName_cell I.ok.kind hk hc hcell fin) hd
    · exact wpAny_Name (wpAny_loadName_free I.ok.kind hk hc hcell fin hcd) hd
theorem pe_int {i j pos} : PE X (.Constant (.int i) j pos) (tC (.int i)) := fun _ _ _ H _ I h => wpAny_Constant_int ⟨.int i, H, I.tok _, ⟨_, rfl⟩, h⟩
theorem pe_bl {b j pos} : PE X (.Constant (.bool b) j pos) (tC (.bl b)) := fun _ _ _ H _ I h => Constant_bool ⟨.bl b, H, I, rfl, h⟩
theorem pe_non {j pos} : PE X (.Constant .none j pos) (tC .non) := fun _ _ _ H _ I h => Constant_none ⟨.non, H, I, rfl, h⟩
theorem pe_str {x j pos} : PE X (.Constant (.str x) j pos) (tC (.str x)) := fun _ _ _ H _ I h => Calls.Constant_str ⟨.str x, H, I.tok _, ⟨_, rfl⟩, h⟩
noncomputable def Gl (X : Cx) (x : Str) : Prop := X.env.kindOf x = some .globalImplicit
theorem ld_glob {E : Value → Shared → Prop} {pins : List (Addr × Obj)} {s : Shared} {σ : St} {H : Hp} {x : Str} {u : Value} {pos : Pos} {Q : Value → Shared → Prop} (I : Inv X pins σ H s) (hg : Gl X x) (hm : X.mg x = some u) (h : Q u s)
    (hd : (x == ("__debug__" : Str)) = false := by decide) : wpAny (model X.prog X.w) X.A (eval (.Name x pos) X.env) Q E s :=
  Calls.Name_function_global I.ok.kind hg (Calls.loadGlobal_global (by rw [I.ok.glob]; exact I.mod.glob.keeps I.bk) hm h) hd
theorem ld_blt {E : Value → Shared → Prop} {pins : List (Addr × Obj)} {s : Shared} {σ : St} {H : Hp} {x : Str} {u : Value} {pos : Pos} {Q : Value → Shared → Prop} (I : Inv X pins σ H s) (hg : Gl X x) (hm : X.mg x = none) (hv : bootBuiltins x = some u) (h : Q u s)
    (hn : x ≠ "__name__" := by decide) (hd : (x == ("__debug__" : Str)) = false := by decide) : wpAny (model X.prog X.w) X.A (eval (.Name x pos) X.env) Q E s := by
  obtain ⟨mb, h1, h2⟩ := I.mod.blt
  exact Calls.Name_function_global I.ok.kind hg (Calls.loadGlobal_builtin (by rw [I.ok.glob]; exact I.mod.glob.keeps I.bk) hm (by rw [I.ok.blt]; exact h1.keeps I.bk) ((h2 x hn).trans hv) h) hd
theorem pe_glob {x : Str} {v : V} {u : Value} {pos : Pos} (hg : Gl X x) (hm : X.mg x = some u) (r : RelV v u) (hd : (x == ("__debug__" : Str)) = false := by decide) : PE X (.Name x pos) (tC v) :=
  fun _ _ _ H _ I h => ld_glob I hg hm ⟨v, H, I, r, h⟩ hd
theorem pe_bltn {x : Str} {v : V} {u : Value} {pos : Pos} (hg : Gl X x) (hm : X.mg x = none) (hv : bootBuiltins x = some u) (r : RelV v u) (hn : x ≠ "__name__" := by decide) (hd : (x == ("__debug__" : Str)) = false := by decide) : PE X (.Name x pos) (tC v) :=
  fun _ _ _ H _ I h => ld_blt I hg hm hv ⟨v, H, I, r, h⟩ hn hd
variable {a b : Expr} {ta tb : TE} {pos : Pos}
noncomputable def PC (X : Cx) (op : CmpOp) (a b : Expr) (t : TE) : Prop :=
  ∀ (pins : List (Addr × Obj)) (s : Shared) (σ : St) (H : Hp) (Q : VK), Inv X pins σ H s → t σ H Q →
    wpAny (model X.prog X.w) X.A (eval a X.env) (fun v s₁ => wpAny (model X.prog X.w) X.A (eval b X.env) (fun u s₂ => wpAny (model X.prog X.w) X.A (compareOp op v u) (EP X pins σ Q) X.xe s₂) X.xe s₁) X.xe s
noncomputable def tB (t : TE) : TT := fun σ H Q => t σ H fun x H1 => ∃ c, x = .bl c ∧ Q c H1
theorem pe_cmp {op : CmpOp} {t : TE} (h : PC X op a b t) (h1 : behindInMarks op b = false := by first | exact nobehind _ (by decide) (by decide) | rfl) : PE X (.Compare a [op] [b] pos) t := fun pins s σ H Q I hw => wpAny_Compare1 (h pins s σ H Q I hw) h1
theorem pt_cmp {op : CmpOp} {t : TE} (h : PC X op a b t) (h1 : behindInMarks op b = false := by first | exact nobehind _ (by decide) (by decide) | rfl) : PT X (.Compare a [op] [b] pos) (tB t) := by
  intro pins s σ H Q I hw
  refine wpAny_isTrue_Compare1 (thn (h pins s σ H _ I hw) fun v s1 h1 => thn h1 fun u s2 h2 => thn h2 fun c s3 ⟨x, H1, I1, r1, q1⟩ => ?_) h1
  obtain ⟨d, rfl, q⟩ := q1
  cases r1
  exact wpAny_truthy_bool ⟨H1, I1, q⟩
variable {tA tB' : TT} {rest : List Expr}
noncomputable def tAnd (t u : TT) : TT := fun σ H Q => t σ H fun c H1 => if c = true then u σ H1 Q else Q false H1
noncomputable def tOr (t u : TT) : TT := fun σ H Q => t σ H fun c H1 => if c = true then Q true H1 else u σ H1 Q
noncomputable def tNot (t : TT) : TT := fun σ H Q => t σ H fun c H1 => Q (!c) H1
theorem pw_and1 (ha : PT X a tA) : PW X (.BoolOp .And [a] pos) tA := by
  intro wh pins s σ H Q I h
  refine isTrue_and (thn (ha pins s σ H Q I h) fun c s1 e => ?_)
  cases c with
  | true => exact isTrue_and_nil e
  | false => exact e
theorem pw_or1 (ha : PT X a tA) : PW X (.BoolOp .Or [a] pos) tA := by
  intro wh pins s σ H Q I h
  refine isTrue_or (thn (ha pins s σ H Q I h) fun c s1 e => ?_)
  cases c with
  | false => exact isTrue_or_nil e
  | true => exact e
theorem pw_and (ha : PT X a tA) (hb : PW X (.BoolOp .And (b :: rest) pos) tB') : PW X (.BoolOp .And (a :: b :: rest) pos) (tAnd tA tB') := by
  intro wh pins s σ H Q I h
  refine isTrue_and (thn (ha pins s σ H _ I h) fun c s1 ⟨H1, I1, q1⟩ => ?_)
  cases c with
  | true => exact hb wh pins s1 σ H1 Q I1 q1
  | false => exact ⟨H1, I1, q1⟩
theorem pw_or (ha : PT X a tA) (hb : PW X (.BoolOp .Or (b :: rest) pos) tB') : PW X (.BoolOp .Or (a :: b :: rest) pos) (tOr tA tB') := by
  intro wh pins s σ H Q I h
  refine isTrue_or (thn (ha pins s σ H _ I h) fun c s1 ⟨H1, I1, q1⟩ => ?_)
  cases c with
  | true => exact ⟨H1, I1, q1⟩
  | false => exact hb wh pins s1 σ H1 Q I1 q1
theorem pt_not (ha : PT X a tA) : PT X (.UnaryOp .Not a pos) (tNot tA) := by
  intro pins s σ H Q I h
  exact isTrue_not (ha pins s σ H (fun c H1 => Q (!c) H1) I h)
noncomputable def tAndV (ta tb : TE) : TE := fun σ H Q => ta σ H fun x H1 => ∃ c, x = .bl c ∧ if c = true then tb σ H1 Q else Q (.bl false) H1
noncomputable def tNotV (ta : TE) : TE := fun σ H Q => ta σ H fun x H1 => ∃ c, x = .bl c ∧ Q (.bl (!c)) H1
theorem pe_one {op} {t : TE} (h : PE X a t) : PE X (.BoolOp op [a] pos) t := fun pins s σ H Q I hw => BoolOp_one (h pins s σ H Q I hw)
theorem pe_and (ha : PE X a ta) (hb : PE X (.BoolOp .And (b :: rest) pos) tb) : PE X (.BoolOp .And (a :: b :: rest) pos) (tAndV ta tb) := by
  intro pins s σ H Q I h
  refine BoolOp_and (thn (ha pins s σ H _ I h) fun v s1 ⟨x, H1, I1, r1, q1⟩ => ?_)
  obtain ⟨c, rfl, q1⟩ := q1
  cases r1
  refine wpAny_truthy_bool ?_
  cases c with
  | true => exact hb pins s1 σ H1 Q I1 q1
  | false => exact ⟨.bl false, H1, I1, rfl, q1⟩
theorem pe_not (ha : PE X a ta) : PE X (.UnaryOp .Not a pos) (tNotV ta) := by
  intro pins s σ H Q I h
  refine UnaryOp_ (thn (ha pins s σ H _ I h) fun v s1 ⟨x, H1, I1, r1, q1⟩ => ?_)
  obtain ⟨c, rfl, q1⟩ := q1
  cases r1
  exact not_of (wpAny_truthy_bool ⟨.bl (!c), H1, I1, rfl, q1⟩)
noncomputable def tIf (t : TT) (ta tb : TE) : TE := fun σ H Q => t σ H fun c H1 => if c = true then ta σ H1 Q else tb σ H1 Q
theorem pe_ifExp {c : Expr} (hc : PT X c tA) (ha : PE X a ta) (hb : PE X b tb) : PE X (.IfExp c a b pos) (tIf tA ta tb) := by
  intro pins s σ H Q I h
  refine wpAny_IfExp (thn (hc pins s σ H _ I h) fun d s1 ⟨H1, I1, q1⟩ => ?_)
  cases d with
  | true => exact ha pins s1 σ H1 Q I1 q1
  | false => exact hb pins s1 σ H1 Q I1 q1
end
end L2
namespace L2
open PySem PySem.Spec PyProof.Rows
noncomputable def SqL (K : PySem.W.Frag) (H : Hp) (a : Addr) (xs : List V) : Prop :=
  Rd H a (.lst xs) ∨
    ∃ (o : Obj) (its : Array Value) (n : Nat), K.lookup a = some o ∧ o.cls = .type "list" ∧ o.dict = none ∧ o.data = .seq its n ∧ its.size ≤ sizeLine ∧ Vals xs its.toList
noncomputable def SqT (K : PySem.W.Frag) (H : Hp) (a : Addr) (xs : List V) : Prop :=
  Rd H a (.tup xs) ∨
    ∃ (o : Obj) (its : Array Value) (n : Nat), K.lookup a = some o ∧ o.cls = .type "tuple" ∧ o.data = .seq its n ∧ its.size ≤ sizeLine ∧ Vals xs its.toList
noncomputable def absV : Value → Option V
  | .none => some .non
  | .bool b => some (.bl b)
  | .int i _ => some (.int i)
  | .str x _ => some (.str x)
  | .bytes b _ => some (.byt b)
  | .float b _ => some (.flt b)
  | .ref a => some (.ref a)
  | .type n => some (.ty n)
  | _ => none
theorem RelV.abs {x : V} {u : Value} (r : RelV x u) : absV u = some x := by
  cases x with
  | non => cases r; rfl
  | bl _ => cases r; rfl
  | int _ => obtain ⟨t, rfl⟩ := r; rfl
  | str _ => obtain ⟨t, rfl⟩ := r; rfl
  | byt _ => obtain ⟨t, rfl⟩ := r; rfl
  | flt _ => obtain ⟨t, rfl⟩ := r; rfl
  | ref _ => cases r; rfl
  | ty _ => cases r; rfl
theorem RelV.inj {x y : V} {u : Value} (r : RelV x u) (q : RelV y u) : x = y := Option.some.inj (r.abs.symm.trans q.abs)
theorem Vals.inj : ∀ {xs ys : List V} {us : List Value}, Vals xs us → Vals ys us → xs = ys
  | _, _, _, .nil, .nil => rfl
  | _, _, _, .cons r t, .cons r' t' => by rw [r.inj r', Vals.inj t t']
section
variable {X : Cx} {pins : List (Addr × Obj)} {σ : St} {H : Hp} {s : Shared} {a : Addr} {xs ys : List V}
theorem SqL.of {K : PySem.W.Frag} (h : H a = some (.lst xs)) : SqL K H a xs := .inl (.inl h)
theorem SqT.of {K : PySem.W.Frag} (h : H a = some (.tup xs)) : SqT K H a xs := .inl (.inl h)
theorem Inv.list (I : Inv X pins σ H s) (h : SqL X.K H a xs) : ∃ its : List Value, Vals xs its ∧ PlainL s.heap a its.toArray ∧ xs.length ≤ sizeLine := by
  rcases h with h | ⟨o, its, n, hk, hc, hd, hs, hz, r⟩
  · obtain ⟨z, its, n, r, e⟩ := h.ok I.hok
    exact ⟨its, r, ⟨_, n, e, rfl, rfl, rfl⟩, z⟩
  · refine ⟨its.toList, r, ⟨o, n, I.kIn a o hk, hc, hd, by simpa using hs⟩, ?_⟩
    have e := r.length
    simp only [Array.length_toList] at e
    omega
theorem Inv.tuple (I : Inv X pins σ H s) (h : SqT X.K H a xs) : ∃ its : List Value, Vals xs its ∧ IsTup s.heap a its.toArray ∧ xs.length ≤ sizeLine := by
  rcases h with h | ⟨o, its, n, hk, hc, hs, hz, r⟩
  · obtain ⟨z, its, r, p⟩ := h.ok I.hok
    exact ⟨its, r, p, z⟩
  · refine ⟨its.toList, r, ⟨o, I.kIn a o hk, hc, n, by simpa using hs⟩, ?_⟩
    have e := r.length
    simp only [Array.length_toList] at e
    omega
theorem Inv.list_inj (I : Inv X pins σ H s) (h : SqL X.K H a xs) (h' : SqL X.K H a ys) : xs = ys := by
  obtain ⟨its, r, ⟨o, n, e, _, _, d⟩, _⟩ := I.list h
  obtain ⟨its', r', ⟨o', n', e', _, _, d'⟩, _⟩ := I.list h'
  rw [e] at e'; cases e'
  rw [d] at d'
  injection d' with d1 _
  have : its = its' := by simpa using congrArg Array.toList d1
  subst this
  exact r.inj r'
theorem Inv.tuple_inj (I : Inv X pins σ H s) (h : SqT X.K H a xs) (h' : SqT X.K H a ys) : xs = ys := by
  obtain ⟨its, r, ⟨o, e, _, n, d⟩, _⟩ := I.tuple h
  obtain ⟨its', r', ⟨o', e', _, n', d'⟩, _⟩ := I.tuple h'
  rw [e] at e'; cases e'
  rw [d] at d'
  injection d' with d1 _
  have : its = its' := by simpa using congrArg Array.toList d1
  subst this
  exact r.inj r'
end
noncomputable abbrev Cx.wish (X : Cx) (E : Value → Shared → Prop) : Cx := { X with xe := E }
noncomputable abbrev Cx.nox (X : Cx) : Cx := X.wish fun _ _ => False
theorem Cx.Ok.wish {X : Cx} (ok : X.Ok) (E : Value → Shared → Prop) : (X.wish E).Ok :=
  ⟨ok.mod, ok.kind, ok.glob, ok.blt, ok.above, ok.inj, ok.has, ok.cab, ok.hd, ok.frames, ok.stk, ok.exf, ok.bs, ok.bsz, ok.noex, ok.exfs, ok.funs, ok.frf⟩
theorem Cx.Ok.unwish {X : Cx} {E : Value → Shared → Prop} (ok : (X.wish E).Ok) : X.Ok :=
  ⟨ok.mod, ok.kind, ok.glob, ok.blt, ok.above, ok.inj, ok.has, ok.cab, ok.hd, ok.frames, ok.stk, ok.exf, ok.bs, ok.bsz, ok.noex, ok.exfs, ok.funs, ok.frf⟩
section
variable {X : Cx} {pins : List (Addr × Obj)} {σ : St} {H : Hp} {s : Shared} {E : Value → Shared → Prop}
theorem Inv.wish (I : Inv X pins σ H s) (E : Value → Shared → Prop) : Inv (X.wish E) pins σ H s := ⟨I.ok.wish E, I.os, I.bare, I.base, I.loc, I.cell, I.free, I.freeC, I.pin, I.hok, I.len⟩
theorem Inv.unwish (I : Inv (X.wish E) pins σ H s) : Inv X pins σ H s := ⟨I.ok.unwish, I.os, I.bare, I.base, I.loc, I.cell, I.free, I.freeC, I.pin, I.hok, I.len⟩
theorem SP.unwish {D : Ends} {f : Flow} {s' : Shared} (h : SP (X.wish E) pins D f s') : SP X pins D f s' := by
  cases f with
  | next => obtain ⟨σ', H', I, q⟩ := h; exact ⟨σ', H', I.unwish, q⟩
  | brk => obtain ⟨σ', H', I, q⟩ := h; exact ⟨σ', H', I.unwish, q⟩
  | cont => obtain ⟨σ', H', I, q⟩ := h; exact ⟨σ', H', I.unwish, q⟩
  | ret u => obtain ⟨v, σ', H', I, r, q⟩ := h; exact ⟨v, σ', H', I.unwish, r, q⟩
theorem PSs.nox {st : List Stmt} {t : TS} (h : PSs X.nox st t) : PSs X st t := fun pins s σ H D I hw =>
  wpAny_mono (h pins s σ H D (I.wish _) hw) (fun _ _ q => q.unwish) fun _ _ z => False.elim z
end
section
variable {X : Cx} {st : Stmt} {rest : List Stmt} {t u : TS} {e : Expr} {te : TE} {pos : Pos}
noncomputable def tNext : TS := fun D σ H => D.nx σ H
noncomputable def tSeq (t u : TS) : TS := fun D σ H => t { D with nx := u D } σ H
theorem pss_nil : PSs X [] tNext := fun _ _ σ H _ I h => wpAny_execs_nil ⟨σ, H, I, h⟩
theorem pss_cons (h1 : PS X st t) (h2 : PSs X rest u) : PSs X (st :: rest) (tSeq t u) := by
  intro pins s σ H D I h
  refine wpAny_execs_cons (thn (h1 pins s σ H { D with nx := u D } I h) fun f s1 q => ?_)
  cases f with
  | next =>
    obtain ⟨σ', H', I', q⟩ := q
    exact h2 pins s1 σ' H' D I' q
  | ret v => exact q
  | brk => exact q
  | cont => exact q
theorem pss_one (h1 : PS X st t) : PSs X [st] t := by
  intro pins s σ H D I h
  refine wpAny_execs_cons (thn (h1 pins s σ H D I h) fun f s1 q => ?_)
  cases f with
  | next => exact wpAny_execs_nil q
  | ret v => exact q
  | brk => exact q
  | cont => exact q
theorem Inv.quiet {pins : List (Addr × Obj)} {σ : St} {H : Hp} {s : Shared} (I : Inv X pins σ H s) : interactive X.env = false := by simp [interactive, I.ok.kind]
noncomputable def tDrop (te : TE) : TS := fun D σ H => te σ H fun _ H1 => D.nx σ H1
theorem ps_expr (he : PE X e te) (hs : swapsWith e none pos.line X.env = pure false := by rfl) : PS X (.Expr e pos) (tDrop te) := by
  intro pins s σ H D I h
  exact wpAny_Expr_any (thn (he pins s σ H _ I h) fun v s1 ⟨x, H1, I1, r1, q1⟩ => ⟨σ, H1, I1, q1⟩) I.quiet hs
noncomputable def tRet (te : TE) : TS := fun D σ H => te σ H D.rt
theorem ps_ret (he : PE X e te) : PS X (.Return (some e) pos) (tRet te) := by
  intro pins s σ H D I h
  exact wpAny_Return_some (thn (he pins s σ H _ I h) fun v s1 ⟨x, H1, I1, r1, q1⟩ => ⟨x, σ, H1, I1, r1, q1⟩)
noncomputable def tIfS (c : TT) (t u : TS) : TS := fun D σ H => c σ H fun b H1 => if b = true then t D σ H1 else u D σ H1
theorem ps_if {c : Expr} {a b : List Stmt} {tc : TT} (hc : PT X c tc) (ha : PSs X a t) (hb : PSs X b u) : PS X (.If c a b pos) (tIfS tc t u) := by
  intro pins s σ H D I h
  refine wpAny_If (thn (hc pins s σ H _ I h) fun d s1 ⟨H1, I1, q1⟩ => ?_)
  cases d with
  | true => exact ha pins s1 σ H1 D I1 q1
  | false => exact hb pins s1 σ H1 D I1 q1
end
noncomputable abbrev TG := V → St → Hp → (St → Hp → Prop) → Prop
noncomputable abbrev TGs := List V → St → Hp → (St → Hp → Prop) → Prop
noncomputable def PG (X : Cx) (target : Expr) (t : TG) : Prop :=
  ∀ (pins : List (Addr × Obj)) (s : Shared) (σ : St) (H : Hp) (v : V) (u : Value) (Q : St → Hp → Prop), Inv X pins σ H s → RelV v u → t v σ H Q →
    wpAny (model X.prog X.w) X.A (assign target X.env u) (fun _ s' => ∃ σ' H', Inv X pins σ' H' s' ∧ Q σ' H') X.xe s
noncomputable def PGs (X : Cx) (ts : List Expr) (t : TGs) : Prop :=
  ∀ (pins : List (Addr × Obj)) (s : Shared) (σ : St) (H : Hp) (vs : List V) (us : List Value) (Q : St → Hp → Prop), Inv X pins σ H s → Vals vs us → t vs σ H Q →
    wpAny (model X.prog X.w) X.A (assignInOrder ((assignEach ts X.env).map (·.2)) us) (fun _ s' => ∃ σ' H', Inv X pins σ' H' s' ∧ Q σ' H') X.xe s
noncomputable abbrev TSet := V → V → V → Hp → (Hp → Prop) → Prop
noncomputable def PSet (X : Cx) (t : TSet) : Prop :=
  ∀ (pins : List (Addr × Obj)) (s : Shared) (σ : St) (H : Hp) (o i v : V) (ov iv u : Value) (Q : Hp → Prop), Inv X pins σ H s → RelV o ov → RelV i iv → RelV v u → t o i v H Q →
    wpAny (model X.prog X.w) X.A (setItem ov iv u) (fun _ s' => ∃ H', Inv X pins σ H' s' ∧ Q H') X.xe s
noncomputable abbrev TIp := V → V → Hp → VK → Prop
noncomputable def PIp (X : Cx) (op : Operator) (t : TIp) : Prop :=
  ∀ (pins : List (Addr × Obj)) (s : Shared) (σ : St) (H : Hp) (x y : V) (v u : Value) (Q : VK), Inv X pins σ H s → RelV x v → RelV y u → t x y H Q →
    wpAny (model X.prog X.w) X.A (inplaceOp op v u) (EP X pins σ Q) X.xe s
section
variable {X : Cx} {pos : Pos}
noncomputable def gName (i : Nat) : TG := fun v σ H Q => Q (σ.set i (some v)) H
theorem pg_name {i : Nat} {x : Str} (hN : X.N.Nodup) (hi : X.N[i]? = some x) (hx : Loc X.env.scope x) (hf : X.fn x = true ∨ X.env.scope.names.lookup x = some .local := by first | exact .inl rfl | exact .inr rfl | assumption) : PG X (.Name x pos) (gName i) := by
  intro pins s σ H v u Q I r h
  exact wpAny_assign_Name (store_ok I hN hi hx r (fun s' I' => ⟨_, H, I', h⟩) hf)
noncomputable def gNil : TGs := fun vs σ H Q => vs = [] ∧ Q σ H
noncomputable def gCons (t : TG) (u : TGs) : TGs := fun vs σ H Q => ∃ v r, vs = v :: r ∧ t v σ H fun σ' H' => u r σ' H' Q
theorem pgs_nil : PGs X [] gNil := by
  intro pins s σ H vs us Q I r h
  obtain ⟨e, h⟩ := h
  subst e
  cases r
  exact assignInOrder_nil ⟨σ, H, I, h⟩
theorem pgs_cons {e : Expr} {es : List Expr} {t : TG} {u : TGs} (h1 : PG X e t) (h2 : PGs X es u)
    (hs : (assignEach (e :: es) X.env).map (·.2) = assign e X.env :: (assignEach es X.env).map (·.2) := by rfl) : PGs X (e :: es) (gCons t u) := by
  intro pins s σ H vs us Q I r h
  obtain ⟨v, vr, e1, h⟩ := h
  subst e1
  cases r with
  | cons r rr =>
    rw [hs]
    refine assignInOrder_cons (thn (h1 pins s σ H _ _ _ I r h) fun _ s1 ⟨σ1, H1, I1, q1⟩ => ?_)
    exact h2 pins s1 σ1 H1 _ _ Q I1 rr q1
noncomputable def gTup (K : PySem.W.Frag) (n : Nat) (t : TGs) : TG := fun v σ H Q => ∃ a xs, v = .ref a ∧ SqT K H a xs ∧ xs.length = n ∧ t xs σ H Q
theorem pg_tup {es : List Expr} {k : Nat} {t : TGs} {n : Nat} (hc : X.calm = true) (h : PGs X es t)
    (hn : (assignEach es X.env).length = n := by rfl) (hst : (assignEach es X.env).findIdx? (·.1) = none := by rfl) : PG X (.Tuple es k pos) (gTup X.K n t) := by
  intro pins s σ H v u Q I r hw
  obtain ⟨a, xs, e1, hq, hl, hw⟩ := hw
  subst e1
  cases r
  obtain ⟨its, rv, ht, hz⟩ := I.tuple hq
  refine assign_Tuple_tuple (I.ok.hd hc) ht (by simp [hn, ← hl, rv.length]) hst fun h' hx => ?_
  have I1 : Inv X pins σ H { s with heap := h' } := I.kept (t' := s.toks) fun b o e => hx b o (Nat.ne_of_lt (Heap.lt_size e)) e
  exact h pins _ σ H xs _ Q I1 (by simpa using rv) hw
noncomputable def gSub (to ti : TE) (t : TSet) : TG := fun v σ H Q => to σ H fun o H1 => ti σ H1 fun i H2 => t o i v H2 fun H3 => Q σ H3
theorem pg_sub {o i : Expr} {to ti : TE} {t : TSet} (ho : PE X o to) (hi : PE X i ti) (hs : PSet X t)
    (ha : ∀ v, assign (.Subscript o i pos) X.env v = (do
      let ov ← holding [v] (eval o X.env)
      let iv ← holding [v, ov] (eval i X.env)
      standAt pos
      holding [v, ov, iv] (setItem ov iv v)
      release [v, ov, iv] []) := by intro _; rfl) : PG X (.Subscript o i pos) (gSub to ti t) := by
  intro pins s σ H v u Q I r h
  rw [ha]
  refine wpAny_bind (wpAny_holding (thn (ho pins s σ H _ I h) fun ov s1 ⟨x, H1, I1, r1, q1⟩ => ?_))
  refine wpAny_bind (wpAny_holding (thn (hi pins s1 σ H1 _ I1 q1) fun iv s2 ⟨y, H2, I2, r2, q2⟩ => ?_))
  refine wpAny_bind (wpAny_standAt (wpAny_bind (wpAny_holding (thn (hs pins s2 σ H2 x y v ov iv u _ I2 r1 r2 r q2) fun _ s3 ⟨H3, I3, q3⟩ => ?_))))
  exact wpAny_release ⟨σ, H3, I3, q3⟩
noncomputable def tAsg (te : TE) (g : TG) : TS := fun D σ H => te σ H fun x H1 => g x σ H1 D.nx
theorem ps_asg {tg e : Expr} {te : TE} {g : TG} (he : PE X e te) (hg : PG X tg g) (hs : swapsWithSole [tg] e pos.line X.env = pure false := by rfl) (hw : swappedStores [tg] e X.env = pure none := by rfl)
    (h1 : (assignEach [tg] X.env).map (·.2) = [assign tg X.env] := by rfl) : PS X (.Assign [tg] e pos) (tAsg te g) := by
  intro pins s σ H D I h
  refine wpAny_Assign_stores (thn (he pins s σ H _ I h) fun v s1 ⟨x, H1, I1, r1, q1⟩ => ?_) hs hw
  rw [h1]
  exact thn (hg pins s1 σ H1 x v _ I1 r1 q1) fun _ s2 q => q
theorem ps_set {i : Nat} {x : Str} {e : Expr} {te : TE} {pos' : Pos} (hN : X.N.Nodup) (hi : X.N[i]? = some x) (hx : Loc X.env.scope x) (he : PE X e te) (hs : swapsWith e (some (.Name x pos')) pos.line X.env = pure false := by rfl) (hf : X.fn x = true ∨ X.env.scope.names.lookup x = some .local := by first | exact .inl rfl | exact .inr rfl | assumption) :
    PS X (.Assign [.Name x pos'] e pos) (tAsg te (gName i)) := by
  intro pins s σ H D I h
  refine wpAny_Assign_Name (thn (he pins s σ H _ I h) fun v s1 ⟨y, H1, I1, r1, q1⟩ => ?_) hs
  exact store_ok I1 hN hi hx r1 (fun s2 I2 => ⟨_, H1, I2, q1⟩) hf
noncomputable def tAug (i : Nat) (te : TE) (ti : TIp) : TS := fun D σ H => ∃ x, σ[i]? = some (some x) ∧ te σ H fun y H1 => ti x y H1 fun z H2 => D.nx (σ.set i (some z)) H2
theorem ps_aug {i : Nat} {x : Str} {e : Expr} {te : TE} {op : Operator} {ti : TIp} {pos' : Pos} (hN : X.N.Nodup) (hi : X.N[i]? = some x) (hx : Loc X.env.scope x) (he : PE X e te) (ho : PIp X op ti) (hf : X.fn x = true ∨ X.env.scope.names.lookup x = some .local := by first | exact .inl rfl | exact .inr rfl | assumption) :
    PS X (.AugAssign (.Name x pos') op e pos) (tAug i te ti) := by
  intro pins s σ H D I h
  obtain ⟨v, e1, h⟩ := h
  obtain ⟨m, hn, hl⟩ := I.loc
  have vis : Vis X.env.scope x := by rcases hx with k | k; exact .inl k; exact .inr (.inl k)
  obtain ⟨u, r, l⟩ := hl i x v hi e1 vis
  refine wpAny_AugAssign_Name ?_
  have go : wpAny (model X.prog X.w) X.A (eval e X.env) (fun w s₂ => wpAny (model X.prog X.w) X.A (inplaceOp op u w) (fun r s₃ => wpAny (model X.prog X.w) X.A (storeName X.env x r) (fun _ => SP X pins D .next) X.xe s₃) X.xe s₂) X.xe s := by
    refine thn (he pins s σ H _ I h) fun w s1 ⟨y, H1, I1, r1, q1⟩ => ?_
    refine thn (ho pins s1 σ H1 v y u w _ I1 r r1 q1) fun z s2 ⟨zv, H2, I2, r2, q2⟩ => ?_
    exact store_ok I2 hN hi hx r2 (fun s3 I3 => ⟨_, H2, I3, q2⟩) hf
  rcases l with ⟨hk, hm⟩ | ⟨hk, c, hc, hcell⟩
  · exact wpAny_loadName_local I.ok.kind hk hn hm go
  · rcases hk with hk | hk
    · exact wpAny_loadName_cell I.ok.kind hk hc hcell go
    · rcases hx with k | k
      · have : X.env.scope.names.lookup x = some .free := hk
        rw [k] at this; cases this
      · have : X.env.scope.names.lookup x = some .free := hk
        rw [k] at this; cases this
noncomputable def ipI (f : Int → Int → Int) : TIp := fun x y H Q => ∃ i j, x = .int i ∧ y = .int j ∧ Q (.int (f i j)) H
theorem ip_add : PIp X .Add (ipI fun i j => i + j) := by
  intro pins s σ H x y v u Q I r1 r2 h
  obtain ⟨i, j, e1, e2, q⟩ := h
  subst e1; subst e2
  obtain ⟨t, rfl⟩ := r1
  obtain ⟨t', rfl⟩ := r2
  exact iadd_int ⟨.int _, H, I.tok _, ⟨_, rfl⟩, q⟩
end
section
variable {X : Cx} {pos : Pos}
end
structure It where
  go : Nat → Hp → Prop
  yld : Nat → Hp → V → Hp → Prop
  stop : Nat → Hp → Prop
noncomputable def FpOk (X : Cx) (pins : List (Addr × Obj)) (H : Hp) (b : Addr) : Prop :=
  H b = none ∧ b ≠ X.env.locals ∧ b ∉ X.fs ∧ (b ∈ X.ex ∨ X.s₀.heap.objs.size ≤ b) ∧ (∀ x c, X.env.cells.lookup x = some c → c ≠ b) ∧ ∀ p ∈ X.pn ++ pins, p.1 ≠ b
theorem Inv.fpOk {X : Cx} {pins : List (Addr × Obj)} {σ : St} {H H' : Hp} {s : Shared} {b : Addr} (I : Inv X pins σ H s) (hb : s.heap.objs.size ≤ b) (hn : H' b = none) : FpOk X pins H' b := by
  refine ⟨hn, Nat.ne_of_gt (Nat.lt_of_lt_of_le I.lt hb), I.nofs hb, .inr (Nat.le_trans I.sz hb), fun x c e z => ?_, fun p hp z => ?_⟩
  · obtain ⟨v, q⟩ := I.cell x c e
    exact absurd (Nat.lt_of_lt_of_le q.lt (by rw [z]; exact hb)) (Nat.lt_irrefl _)
  · exact absurd (Nat.lt_of_lt_of_le (Heap.lt_size (I.pin p hp).1) (by rw [z]; exact hb)) (Nat.lt_irrefl _)
structure Turn (P : Program) (w : World) (K : PySem.W.Frag) (tg : Expr) (J : It) (fp : List Addr) (it : Addr) (tn : Nat → Heap → Prop) : Prop where
  mem : it ∈ fp
  obj : ∀ i h, tn i h → ∀ b ∈ fp, ∃ o, h.get? b = some o ∧ ∀ v, o.data ≠ .cell v
  keep : ∀ i h h', tn i h → (∀ b ∈ fp, ∀ o, h.get? b = some o → h'.get? b = some o) → tn i h'
  item : ∀ (X : Cx), X.prog = P → X.w = w → X.K = K → X.calm = true → ∀ (i : Nat) (pins : List (Addr × Obj)) (s : Shared) (σ : St) (H : Hp) (E : Value → Shared → Prop), Inv X pins σ H s → (∀ b ∈ fp, FpOk X pins H b) → tn i s.heap → J.go i H →
    wpAny (model P w) X.A (pyNext (.ref it)) (fun r s1 => ∃ u, r = some u ∧
      wpAny (model P w) X.A (letOwnedTupleGo tg (.ref it) u) (fun _ s2 => ∃ x H', Inv X pins σ H' s2 ∧ RelV x u ∧ J.yld i H x H' ∧ tn (i + 1) s2.heap ∧ ∀ b ∈ fp, H' b = none) E s1) E s
  done : ∀ (X : Cx), X.prog = P → X.w = w → X.K = K → X.calm = true → ∀ (i : Nat) (pins : List (Addr × Obj)) (s : Shared) (σ : St) (H : Hp) (E : Value → Shared → Prop), Inv X pins σ H s → (∀ b ∈ fp, FpOk X pins H b) → tn i s.heap → J.stop i H →
    wpAny (model P w) X.A (pyNext (.ref it)) (fun r s1 => r = none ∧ Inv X pins σ H s1) E s
  self : ∀ (A : Around) (i : Nat) (s : Shared) (Q : Value → Shared → Prop) (E : Value → Shared → Prop), tn i s.heap → Q (.ref it) s → wpAny (model P w) A (pyIter (.ref it)) Q E s
noncomputable abbrev TI := St → Hp → (It → Hp → Prop) → Prop
noncomputable def PIE (X : Cx) (pins : List (Addr × Obj)) (σ : St) (tg : Expr) (R : It → Hp → Prop) (itv : Value) (s2 : Shared) : Prop :=
  ∃ (it : Addr) (fp : List Addr) (tn : Nat → Heap → Prop) (J : It) (H' : Hp), itv = .ref it ∧ Inv X pins σ H' s2 ∧ Turn X.prog X.w X.K tg J fp it tn ∧ tn 0 s2.heap ∧ (∀ b ∈ fp, FpOk X pins H' b) ∧ R J H'
noncomputable def PI (X : Cx) (tg iter : Expr) (wi : TI) : Prop :=
  ∀ (pins : List (Addr × Obj)) (s : Shared) (σ : St) (H : Hp) (R : It → Hp → Prop), Inv X pins σ H s → wi σ H R →
    wpAny (model X.prog X.w) X.A (eval iter X.env) (fun v s1 => wpAny (model X.prog X.w) X.A (pyIter v) (PIE X pins σ tg R) X.xe s1) X.xe s
theorem go_of {M : Model} {A : Around} {E : Value → Shared → Prop} {s : Shared} {tg : Expr} {it : Addr} {u : Value} {o : Obj} {n : String} {vs : Array Value} {Q : Unit → Shared → Prop} (ho : s.heap.get? it = some o) (hc : o.cls = .type n) (hd : o.data = .fields vs)
    (hn : ["enumerate", "zip", "dict_itemiterator", "dict_reverseitemiterator", "odict_iterator", "itertools.zip_longest", "itertools.pairwise"].contains n = false) (hQ : Q () s) : wpAny M A (letOwnedTupleGo tg (.ref it) u) Q E s := by
  unfold letOwnedTupleGo
  cases tg <;> first
    | exact wpAny_pure hQ
    | (cases u <;> first
        | exact wpAny_pure hQ
        | (refine wpAny_bind (wpAny_load ho ?_)
           rw [hc, hd]
           show wpAny M A (if (["enumerate", "zip", "dict_itemiterator", "dict_reverseitemiterator", "odict_iterator", "itertools.zip_longest", "itertools.pairwise"].contains n && vs[0]? == some (rawInt _)) = true then _ else _) Q E s
           rw [if_neg (by intro h; rw [hn, Bool.false_and] at h; cases h)]
           exact wpAny_pure hQ))
noncomputable def Itl (K : PySem.W.Frag) (a : Addr) : It :=
  ⟨fun i H => ∃ xs x, SqL K H a xs ∧ xs[i]? = some x, fun i H x H' => H' = H ∧ ∀ xs, SqL K H a xs → xs[i]? = some x, fun i H => ∃ xs, SqL K H a xs ∧ xs.length ≤ i⟩
noncomputable def Itt (K : PySem.W.Frag) (a : Addr) : It :=
  ⟨fun i H => ∃ xs x, SqT K H a xs ∧ xs[i]? = some x, fun i H x H' => H' = H ∧ ∀ xs, SqT K H a xs → xs[i]? = some x, fun i H => ∃ xs, SqT K H a xs ∧ xs.length ≤ i⟩
noncomputable def Itr (lo : Int) (n : Nat) : It := ⟨fun i _ => i < n, fun i H x H' => H' = H ∧ x = .int (lo + i), fun i _ => n ≤ i⟩
theorem turn_list {P : Program} {w : World} {K : PySem.W.Frag} {tg : Expr} (a it : Addr) : Turn P w K tg (Itl K a) [it] it (fun i h => h.IsListIter it a i) where
  mem := by simp
  obj := fun i h st b hb => by
    have e : b = it := by simpa using hb
    subst e
    obtain ⟨o, e, c, d⟩ := st
    exact ⟨o, e, fun v z => by rw [d] at z; cases z⟩
  keep := fun i h h' st k => st.at fun o e => k it (by simp) o e
  item := by
    intro X hP hw hK hc i pins s σ H E I hf st hg
    subst hP hw hK
    obtain ⟨xs, x, hq, hx⟩ := hg
    obtain ⟨its, rv, p, hz⟩ := I.list hq
    obtain ⟨u, hu, ru⟩ := rv.get hx
    obtain ⟨f0, f1, f2, f3, f4, f5⟩ := hf it (by simp)
    refine wpAny_pyNext_list_item st p.isList (x := u) (by simpa using hu) fun h' st' sb => ?_
    have I1 : Inv X pins σ H { s with heap := h' } := I.turned (t' := s.toks) (fun b o hb e => (sb.2 b hb).trans e) f0 f1 f3 f4 f5
    obtain ⟨o, e, c, d⟩ := id st'
    exact ⟨u, rfl, go_of (s := { s with heap := h' }) e c d (by decide) ⟨x, H, I1, ru, ⟨rfl, fun ys hy => by rw [I.list_inj hy hq]; exact hx⟩, st', fun b hb => (hf b hb).1⟩⟩
  done := by
    intro X hP hw hK hc i pins s σ H E I hf st hg
    subst hP hw hK
    obtain ⟨xs, hq, hx⟩ := hg
    obtain ⟨its, rv, p, hz⟩ := I.list hq
    obtain ⟨f0, f1, f2, f3, f4, f5⟩ := hf it (by simp)
    have hl := rv.length
    exact wpAny_pyNext_list_end (I.ok.hd hc) st p.isList (by simp; omega) fun h' eb => ⟨rfl, I.turned (t' := s.toks) (fun b o hb e => eb b o hb e) f0 f1 f3 f4 f5⟩
  self := fun _ _ _ _ _ st h => wpAny_pyIter_listiter st h
theorem turn_tuple {P : Program} {w : World} {K : PySem.W.Frag} {tg : Expr} (a it : Addr) : Turn P w K tg (Itt K a) [it] it (fun i h => h.IsTupleIter it a i) where
  mem := by simp
  obj := fun i h st b hb => by
    have e : b = it := by simpa using hb
    subst e
    obtain ⟨o, e, c, d⟩ := st
    exact ⟨o, e, fun v z => by rw [d] at z; cases z⟩
  keep := fun i h h' st k => st.at fun o e => k it (by simp) o e
  item := by
    intro X hP hw hK hc i pins s σ H E I hf st hg
    subst hP hw hK
    obtain ⟨xs, x, hq, hx⟩ := hg
    obtain ⟨its, rv, p, hz⟩ := I.tuple hq
    obtain ⟨u, hu, ru⟩ := rv.get hx
    obtain ⟨f0, f1, f2, f3, f4, f5⟩ := hf it (by simp)
    refine wpAny_pyNext_tuple_item st (show s.heap.IsTuple a its.toArray from p) (x := u) (by simpa using hu) fun h' st' sb => ?_
    have I1 : Inv X pins σ H { s with heap := h' } := I.turned (t' := s.toks) (fun b o hb e => (sb.2 b hb).trans e) f0 f1 f3 f4 f5
    obtain ⟨o, e, c, d⟩ := id st'
    exact ⟨u, rfl, go_of (s := { s with heap := h' }) e c d (by decide) ⟨x, H, I1, ru, ⟨rfl, fun ys hy => by rw [I.tuple_inj hy hq]; exact hx⟩, st', fun b hb => (hf b hb).1⟩⟩
  done := by
    intro X hP hw hK hc i pins s σ H E I hf st hg
    subst hP hw hK
    obtain ⟨xs, hq, hx⟩ := hg
    obtain ⟨its, rv, p, hz⟩ := I.tuple hq
    obtain ⟨f0, f1, f2, f3, f4, f5⟩ := hf it (by simp)
    have hl := rv.length
    exact wpAny_pyNext_tuple_end (I.ok.hd hc) st (show s.heap.IsTuple a its.toArray from p) (by simp; omega) fun h' eb => ⟨rfl, I.turned (t' := s.toks) (fun b o hb e => eb b o hb e) f0 f1 f3 f4 f5⟩
  self := fun _ _ _ _ _ st h => wpAny_pyIter_tupleiter st h
theorem turn_range {P : Program} {w : World} {K : PySem.W.Frag} {tg : Expr} (it : Addr) (lo : Int) (n : Nat) : Turn P w K tg (Itr lo n) [it] it (fun i h => IsRangeIter h it (lo + (i : Nat) * 1) ((n : Int) - (i : Nat)) 1) where
  mem := by simp
  obj := fun i h st b hb => by
    have e : b = it := by simpa using hb
    subst e
    exact ⟨_, st, fun v z => by
      have z' : Data.fields _ = Data.cell v := z
      cases z'⟩
  keep := fun i h h' st k => k it (by simp) _ st
  item := by
    intro X hP hw hK hc i pins s σ H E I hf st hg
    subst hP hw hK
    obtain ⟨f0, f1, f2, f3, f4, f5⟩ := hf it (by simp)
    have W := Walks.range (prog := X.prog) (w := X.w) (I.ok.hd hc) it lo 1 n
    refine W.item i s _ _ hg st fun v h' tk hv st' kk => ?_
    obtain ⟨t, rfl⟩ := hv
    have I1 : Inv X pins σ H { s with heap := h', toks := tk } := I.turned (fun b o hb e => kk b o (by simpa using hb) e) f0 f1 f3 f4 f5
    refine ⟨_, rfl, go_of (s := { s with heap := h', toks := tk }) (n := "range_iterator") st' rfl rfl (by decide) ⟨.int (lo + i), H, I1, ⟨t, ?_⟩, ⟨rfl, rfl⟩, st', fun b hb => (hf b hb).1⟩⟩
    rw [Int.mul_one]
  done := by
    intro X hP hw hK hc i pins s σ H E I hf st hg
    subst hP hw hK
    obtain ⟨f0, f1, f2, f3, f4, f5⟩ := hf it (by simp)
    exact wpAny_pyNext_range_end (I.ok.hd hc) st (by have : n ≤ i := hg; omega) fun h' eb => ⟨rfl, I.turned (t' := s.toks) (fun b o hb e => eb b o hb e) f0 f1 f3 f4 f5⟩
  self := fun _ _ _ _ _ st h => wpAny_pyIter_rangeiter st h
end L2
namespace L2
open PySem PySem.Spec PyProof.Rows
section
variable {X : Cx} {tg : Expr}
noncomputable def iList (K : PySem.W.Frag) (tl : TE) : TI := fun σ H R => tl σ H fun x H1 => ∃ a, x = .ref a ∧ (∃ xs, SqL K H1 a xs) ∧ R (Itl K a) H1
noncomputable def iTup (K : PySem.W.Frag) (tl : TE) : TI := fun σ H R => tl σ H fun x H1 => ∃ a, x = .ref a ∧ (∃ xs, SqT K H1 a xs) ∧ R (Itt K a) H1
theorem pi_list {l : Expr} {tl : TE} (hl : PE X l tl) : PI X tg l (iList X.K tl) := by
  intro pins s σ H R I h
  refine thn (hl pins s σ H _ I h) fun v s1 ⟨x, H1, I1, r1, q1⟩ => ?_
  obtain ⟨a, e, ⟨xs, hq⟩, q⟩ := q1
  subst e
  cases r1
  obtain ⟨its, rv, p, hz⟩ := I1.list hq
  refine wpAny_pyIter_list p.isList ?_
  refine ⟨s1.heap.objs.size, [s1.heap.objs.size], _, _, H1, rfl, I1.kept (t' := s1.toks) fun b o e => Heap.get?_push_of_some _ e, turn_list a _, ⟨_, Heap.get?_push_size _ rfl, rfl, rfl⟩, fun b hb => ?_, q⟩
  have e : b = s1.heap.objs.size := by simpa using hb
  subst e
  exact I1.fpOk (Nat.le_refl _) (I1.hok.fresh (Nat.le_refl _))
theorem pi_tup {l : Expr} {tl : TE} (hl : PE X l tl) : PI X tg l (iTup X.K tl) := by
  intro pins s σ H R I h
  refine thn (hl pins s σ H _ I h) fun v s1 ⟨x, H1, I1, r1, q1⟩ => ?_
  obtain ⟨a, e, ⟨xs, hq⟩, q⟩ := q1
  subst e
  cases r1
  obtain ⟨its, rv, p, hz⟩ := I1.tuple hq
  refine wpAny_pyIter_tuple (show s1.heap.IsTuple a its.toArray from p) ?_
  refine ⟨s1.heap.objs.size, [s1.heap.objs.size], _, _, H1, rfl, I1.kept (t' := s1.toks) fun b o e => Heap.get?_push_of_some _ e, turn_tuple a _, ⟨_, Heap.get?_push_size _ rfl, rfl, rfl⟩, fun b hb => ?_, q⟩
  have e : b = s1.heap.objs.size := by simpa using hb
  subst e
  exact I1.fpOk (Nat.le_refl _) (I1.hok.fresh (Nat.le_refl _))
theorem range_it {pins : List (Addr × Obj)} {σ : St} {H : Hp} {s : Shared} {R : It → Hp → Prop} {E : Value → Shared → Prop} {lo hi : Int} {t u v : Tok} {tk : Nat} (I : Inv X pins σ H s) (h1 : -(2 ^ 62) ≤ lo) (h2 : lo < 2 ^ 62) (h3 : -(2 ^ 62) ≤ hi) (h4 : hi < 2 ^ 62)
    (q : R (Itr lo (hi - lo).toNat) H) : wpAny (model X.prog X.w) X.A (pyIter (.ref s.heap.objs.size)) (PIE X pins σ tg R) E { s with heap := s.heap.push { cls := .type "range", data := .fields #[.int lo t, .int hi u, .int 1 v] }, toks := tk } := by
  refine wpAny_pyIter_range (IsRange.new ..) (small_one h1 h2 h3 h4) ?_
  have I1 : Inv X pins σ H { s with heap := s.heap.push { cls := .type "range", data := .fields #[.int lo t, .int hi u, .int 1 v] }, toks := tk } := I.kept fun b o e => Heap.get?_push_of_some _ e
  refine ⟨(s.heap.push { cls := .type "range", data := .fields #[.int lo t, .int hi u, .int 1 v] }).objs.size, [(s.heap.push { cls := .type "range", data := .fields #[.int lo t, .int hi u, .int 1 v] }).objs.size], _, _, H, rfl,
    I1.kept (t' := tk) fun b o e => Heap.get?_push_of_some _ e, turn_range _ lo (hi - lo).toNat, ?_, fun b hb => ?_, q⟩
  · have e1 : lo + ((0 : Nat) : Int) * 1 = lo := by simp
    have e2 : (((hi - lo).toNat : Nat) : Int) - ((0 : Nat) : Int) = Builtin.Range.rangeSize lo hi 1 := by rw [rangeSize_one]; split <;> omega
    show IsRangeIter _ _ (lo + ((0 : Nat) : Int) * 1) ((((hi - lo).toNat : Nat) : Int) - ((0 : Nat) : Int)) 1
    rw [e1, e2]
    exact Heap.get?_push_size _ rfl
  · have e : b = (s.heap.push { cls := .type "range", data := .fields #[.int lo t, .int hi u, .int 1 v] }).objs.size := by simpa using hb
    subst e
    exact I1.fpOk (Nat.le_refl _) (I1.hok.fresh (Nat.le_refl _))
noncomputable def iRng1 (ta : TA) : TI := fun σ H R => ta σ H fun vs H1 => ∃ j : Int, vs = [.int j] ∧ -(2 ^ 62) ≤ j ∧ j < 2 ^ 62 ∧ R (Itr 0 j.toNat) H1
theorem pi_range1 {a : Expr} {ta : TA} {p pos : Pos} (hg : Gl X "range") (hm : X.mg "range" = none) (ha : PA X [a] ta) (hs : starEach [a] X.env = [(false, eval a X.env)] := by rfl) : PI X tg (.Call (.Name "range" p) [a] [] pos) (iRng1 ta) := by
  intro pins s σ H R I h
  refine Call_ (ld_blt I hg hm boot_range (PyProof.Rows.callWith_type1 (thn (ha pos pins s σ H _ I h) fun us s1 ⟨vs, H1, I1, r1, q1⟩ => ?_) hs rfl))
  obtain ⟨j, e, q1, q2, q⟩ := q1
  subst e
  cases r1 with
  | cons r rr =>
    cases rr
    obtain ⟨t, rfl⟩ := r
    exact call_range_1 (range_it I1 (by omega) (by omega) q1 q2 (by simpa using q))
noncomputable def tFor (wi : TI) (g : TG) (tb : TS) : TS := fun D σ H => wi σ H fun J H1 => ∃ W : Nat → Nat → St → Hp → Prop, (∃ m, W 0 m σ H1) ∧ ∀ i m σ H, W i m σ H →
  (J.stop i H ∧ D.nx σ H) ∨ (J.go i H ∧ ∃ N : St → Hp → Prop, (∀ σ' H', N σ' H' → ∃ m', m' < m ∧ W (i + 1) m' σ' H') ∧ ∀ x H', J.yld i H x H' → g x σ H' fun σ2 H2 => tb { D with nx := N, ct := N, bk := D.nx } σ2 H2)
noncomputable def pinsAt (fp : List Addr) (h : Heap) : List (Addr × Obj) := fp.filterMap fun b => (h.get? b).map fun o => (b, o)
theorem mem_pinsAt {fp : List Addr} {h : Heap} {b : Addr} {o : Obj} (hb : b ∈ fp) (e : h.get? b = some o) : (b, o) ∈ pinsAt fp h := List.mem_filterMap.mpr ⟨b, hb, by rw [e]; rfl⟩
theorem of_pinsAt {fp : List Addr} {h : Heap} {p : Addr × Obj} (hp : p ∈ pinsAt fp h) : p.1 ∈ fp ∧ h.get? p.1 = some p.2 := by
  obtain ⟨b, hb, e⟩ := List.mem_filterMap.mp hp
  cases q : h.get? b with
  | none => rw [q] at e; cases e
  | some o =>
    rw [q] at e
    have e' : (b, o) = p := Option.some.inj e
    subst e'
    exact ⟨hb, q⟩
theorem Inv.pinned {pins : List (Addr × Obj)} {σ : St} {H : Hp} {s : Shared} {fp : List Addr} (I : Inv X pins σ H s) (hf : ∀ b ∈ fp, FpOk X pins H b) (ho : ∀ b ∈ fp, ∃ o, s.heap.get? b = some o ∧ ∀ v, o.data ≠ .cell v) : Inv X (pins ++ pinsAt fp s.heap) σ H s :=
  I.pins_of fun p hp => (List.mem_append.mp hp).elim (fun z => I.pin p (List.mem_append_right _ z)) fun z => by
    obtain ⟨hb, e⟩ := of_pinsAt z
    obtain ⟨f0, f1, f2, _⟩ := hf p.1 hb
    obtain ⟨o, e', d⟩ := ho p.1 hb
    rw [e] at e'; cases e'
    exact ⟨e, f0, f1, f2, d⟩
theorem Inv.unpinned {pins pl : List (Addr × Obj)} {σ : St} {H : Hp} {s : Shared} (I : Inv X (pins ++ pl) σ H s) : Inv X pins σ H s := I.pins_of fun p hp => I.pin p (List.mem_append_right _ (List.mem_append_left _ hp))
theorem ps_for {iter : Expr} {body : List Stmt} {wi : TI} {g : TG} {tb : TS} {pos : Pos} (hp : PassesOwn (model X.prog X.w) X.A X.env X.xe) (hc : X.calm = true) (hi : PI X tg iter wi) (hg : PG X tg g) (hb : PSs X body tb)
    (hs : ∀ x, foldedSetIterable iter X.env x = pure x := by intro _; rfl) : PS X (.For tg iter body [] pos) (tFor wi g tb) := by
  intro pins s σ H D I h
  refine wpAny_For (thn (hi pins s σ H _ I h) fun v s1 h1 => thn h1 fun itv s2 h2 => ?_) hs
  obtain ⟨it, fp, tn, J, H2, e, I2, T, st2, f2, W, ⟨m0, w0⟩, turn⟩ := h2
  subst e
  -- what stays true of the iterator's objects through the loop
  have stat : ∀ {H' : Hp}, (∀ b ∈ fp, H' b = none) → ∀ b ∈ fp, FpOk X pins H' b := fun hn b hb => ⟨hn b hb, (f2 b hb).2⟩
  refine codeAny_forLoop_any (fun n s' => ∃ i σ' H', Inv X pins σ' H' s' ∧ tn i s'.heap ∧ (∀ b ∈ fp, H' b = none) ∧ W i n σ' H') ?_ m0 ⟨0, σ, H2, I2, st2, fun b hb => (f2 b hb).1, w0⟩
  rintro n s3 ⟨i, σ3, H3, I3, st3, fr3, w3⟩
  rcases turn i n σ3 H3 w3 with ⟨stop, qn⟩ | ⟨go, N, hN, step⟩
  · refine wpAny_passesOwn hp (thn (T.done X rfl rfl rfl hc i pins s3 σ3 H3 X.xe I3 (stat fr3) st3 stop) fun r s4 ⟨hr, I4⟩ => ?_)
    subst hr
    exact wpAny_execs_nil ⟨σ3, H3, I4, qn⟩
  · refine wpAny_passesOwn hp (thn (T.item X rfl rfl rfl hc i pins s3 σ3 H3 X.xe I3 (stat fr3) st3 go) fun r s4 ⟨u, hr, h4⟩ => ?_)
    subst hr
    refine wpAny_passesOwn hp (thn h4 fun _ s5 ⟨x, H5, I5, r5, y5, st5, fr5⟩ => ?_)
    have I5' := I5.pinned (stat fr5) (T.obj _ _ st5)
    refine wpAny_passesOwn hp (thn (hg _ s5 σ3 H5 x u _ I5' r5 (step x H5 y5)) fun _ s6 ⟨σ6, H6, I6, q6⟩ => ?_)
    refine wpAny_passesOwn hp (thn (hb _ s6 σ6 H6 _ I6 q6) fun f s7 q7 => ?_)
    have again : ∀ {σ7 : St} {H7 : Hp}, Inv X (pins ++ pinsAt fp s5.heap) σ7 H7 s7 → N σ7 H7 → ∃ m, m < n ∧ ∃ i σ' H', Inv X pins σ' H' s7 ∧ tn i s7.heap ∧ (∀ b ∈ fp, H' b = none) ∧ W i m σ' H' := fun {σ7 H7} I7 n7 => by
      obtain ⟨m', hm, w7⟩ := hN σ7 H7 n7
      refine ⟨m', hm, i + 1, σ7, H7, I7.unpinned, T.keep _ _ _ st5 fun b hb o e => (I7.pin (b, o) (List.mem_append_right _ (List.mem_append_right _ (mem_pinsAt hb e)))).1, fun b hb => ?_, w7⟩
      obtain ⟨o, e, d⟩ := T.obj _ _ st5 b hb
      exact (I7.pin (b, o) (List.mem_append_right _ (List.mem_append_right _ (mem_pinsAt hb e)))).2.1
    cases f with
    | next => obtain ⟨σ7, H7, I7, n7⟩ := q7; exact again I7 n7
    | cont => obtain ⟨σ7, H7, I7, n7⟩ := q7; exact again I7 n7
    | brk => obtain ⟨σ7, H7, I7, q7⟩ := q7; exact ⟨σ7, H7, I7.unpinned, q7⟩
    | ret v => obtain ⟨x7, σ7, H7, I7, r7, q7⟩ := q7; exact ⟨x7, σ7, H7, I7.unpinned, r7, q7⟩
end
end L2
namespace L2
open PySem PySem.Spec PyProof.Rows
noncomputable abbrev R2 := V → V → Hp → VK → Prop
noncomputable def OpR (X : Cx) (f : Value → Value → Sem Value) (r : R2) : Prop :=
  ∀ (pins : List (Addr × Obj)) (s : Shared) (σ : St) (H : Hp) (x y : V) (v u : Value) (Q : VK), Inv X pins σ H s → RelV x v → RelV y u → r x y H Q →
    wpAny (model X.prog X.w) X.A (f v u) (EP X pins σ Q) X.xe s
noncomputable def UnR (X : Cx) (f : Value → Sem Value) (r : V → Hp → VK → Prop) : Prop :=
  ∀ (pins : List (Addr × Obj)) (s : Shared) (σ : St) (H : Hp) (x : V) (v : Value) (Q : VK), Inv X pins σ H s → RelV x v → r x H Q →
    wpAny (model X.prog X.w) X.A (f v) (EP X pins σ Q) X.xe s
noncomputable def CallR (X : Cx) (f : Value) (r : List V → Hp → VK → Prop) : Prop :=
  ∀ (pins : List (Addr × Obj)) (s : Shared) (σ : St) (H : Hp) (xs : List V) (us : List Value) (Q : VK), Inv X pins σ H s → Vals xs us → r xs H Q →
    wpAny (model X.prog X.w) X.A (call f us) (EP X pins σ Q) X.xe s
noncomputable def TruR (X : Cx) (r : V → Hp → (Bool → Hp → Prop) → Prop) : Prop :=
  ∀ (pins : List (Addr × Obj)) (s : Shared) (σ : St) (H : Hp) (x : V) (v : Value) (Q : Bool → Hp → Prop), Inv X pins σ H s → RelV x v → r x H Q →
    wpAny (model X.prog X.w) X.A (truthy v) (TP X pins σ Q) X.xe s
noncomputable def tOp (r : R2) (ta tb : TE) : TE := fun σ H Q => ta σ H fun x H1 => tb σ H1 fun y H2 => r x y H2 Q
noncomputable def tUn (r : V → Hp → VK → Prop) (ta : TE) : TE := fun σ H Q => ta σ H fun x H1 => r x H1 Q
noncomputable def rI (C : Int → Int → Prop) (g : Int → Int → V) : R2 := fun x y H Q => ∃ i j, x = .int i ∧ y = .int j ∧ C i j ∧ Q (g i j) H
noncomputable def rI0 (g : Int → Int → V) : R2 := fun x y H Q => ∃ i j, x = .int i ∧ y = .int j ∧ Q (g i j) H
noncomputable def rU (g : Int → V) : V → Hp → VK → Prop := fun x H Q => ∃ i, x = .int i ∧ Q (g i) H
section
variable {X : Cx} {a b c : Expr} {ta tb tc : TE} {pos : Pos}
theorem binT (ha : PE X a ta) (hb : PE X b tb) {pins : List (Addr × Obj)} {s : Shared} {σ : St} {H : Hp} {R : V → V → Hp → Prop} (I : Inv X pins σ H s)
    (h : ta σ H fun x H1 => tb σ H1 fun y H2 => R x y H2) {Q : Value → Shared → Prop} {f : Value → Value → Sem Value}
    (hf : ∀ v u s2 x y H2, Inv X pins σ H2 s2 → RelV x v → RelV y u → R x y H2 → wpAny (model X.prog X.w) X.A (f v u) Q X.xe s2) :
    wpAny (model X.prog X.w) X.A (eval a X.env) (fun v s₁ => wpAny (model X.prog X.w) X.A (eval b X.env) (fun u s₂ => wpAny (model X.prog X.w) X.A (f v u) Q X.xe s₂) X.xe s₁) X.xe s := by
  refine thn (ha pins s σ H _ I h) fun v s1 ⟨x, H1, I1, r1, q1⟩ => ?_
  refine thn (hb pins s1 σ H1 _ I1 q1) fun u s2 ⟨y, H2, I2, r2, q2⟩ => ?_
  exact hf v u s2 x y H2 I2 r1 r2 q2
theorem pe_op {op : Operator} {r : R2} (ho : OpR X (binaryOp op) r) (ha : PE X a ta) (hb : PE X b tb) : PE X (.BinOp a op b pos) (tOp r ta tb) := by
  intro pins s σ H Q I h
  exact wpAny_BinOp (binT ha hb I h fun v u s2 x y H2 I2 rx ry q => ho pins s2 σ H2 x y v u Q I2 rx ry q)
theorem pe_un {op : UnaryOp} {r : V → Hp → VK → Prop} (ho : UnR X (unaryOp op) r) (ha : PE X a ta) : PE X (.UnaryOp op a pos) (tUn r ta) := by
  intro pins s σ H Q I h
  exact UnaryOp_ (thn (ha pins s σ H _ I h) fun v s1 ⟨x, H1, I1, r1, q1⟩ => ho pins s1 σ H1 x v Q I1 r1 q1)
theorem opI {f : Value → Value → Sem Value} {C : Int → Int → Prop} {g : Int → Int → Int}
    (rule : ∀ (i j : Int) (t u : Tok) (s : Shared) (Q : Value → Shared → Prop) (E : Value → Shared → Prop), C i j → Q (.int (g i j) s.toks) { s with toks := s.toks + 1 } → wpAny (model X.prog X.w) X.A (f (.int i t) (.int j u)) Q E s) :
    OpR X f (rI C fun i j => .int (g i j)) := by
  intro pins s σ H x y v u Q I rx ry h
  obtain ⟨i, j, rfl, rfl, hc, q⟩ := h
  obtain ⟨t, rfl⟩ := rx
  obtain ⟨t', rfl⟩ := ry
  exact rule i j t t' s _ _ hc ⟨.int (g i j), H, I.tok _, ⟨_, rfl⟩, q⟩
theorem opI0 {f : Value → Value → Sem Value} {g : Int → Int → Int}
    (rule : ∀ (i j : Int) (t u : Tok) (s : Shared) (Q : Value → Shared → Prop) (E : Value → Shared → Prop), Q (.int (g i j) s.toks) { s with toks := s.toks + 1 } → wpAny (model X.prog X.w) X.A (f (.int i t) (.int j u)) Q E s) :
    OpR X f (rI0 fun i j => .int (g i j)) := by
  intro pins s σ H x y v u Q I rx ry h
  obtain ⟨i, j, rfl, rfl, q⟩ := h
  obtain ⟨t, rfl⟩ := rx
  obtain ⟨t', rfl⟩ := ry
  exact rule i j t t' s _ _ ⟨.int (g i j), H, I.tok _, ⟨_, rfl⟩, q⟩
theorem opB0 {f : Value → Value → Sem Value} {g : Int → Int → Bool}
    (rule : ∀ (i j : Int) (t u : Tok) (s : Shared) (Q : Value → Shared → Prop) (E : Value → Shared → Prop), Q (.bool (g i j)) s → wpAny (model X.prog X.w) X.A (f (.int i t) (.int j u)) Q E s) :
    OpR X f (rI0 fun i j => .bl (g i j)) := by
  intro pins s σ H x y v u Q I rx ry h
  obtain ⟨i, j, rfl, rfl, q⟩ := h
  obtain ⟨t, rfl⟩ := rx
  obtain ⟨t', rfl⟩ := ry
  exact rule i j t t' s _ _ ⟨.bl (g i j), H, I, rfl, q⟩
noncomputable def CPow (i j : Int) : Prop := 0 ≤ j ∧ j ≤ 1000000 ∧ i.natAbs < 2 ^ 64
noncomputable def CMul (i j : Int) : Prop := (-(2 ^ 64) < i ∧ i < 2 ^ 64) ∨ (-(2 ^ 64) < j ∧ j < 2 ^ 64)
theorem CMul.ok {i j : Int} (h : CMul i j) : IntMulOk i j := by
  rcases h with ⟨h1, h2⟩ | ⟨h1, h2⟩
  · exact .of_left (intBits_le_64 h1 h2)
  · exact .of_right (intBits_le_64 h1 h2)
theorem op_add : OpR X (binaryOp .Add) (rI0 fun i j => .int (i + j)) := opI0 fun _ _ _ _ _ _ _ q => add_int q
theorem op_sub : OpR X (binaryOp .Sub) (rI0 fun i j => .int (i - j)) := opI0 fun _ _ _ _ _ _ _ q => sub_int q
theorem op_mul : OpR X (binaryOp .Mult) (rI CMul fun i j => .int (i * j)) := opI fun _ _ _ _ _ _ _ hc q => mul_int q hc.ok
theorem op_mod : OpR X (binaryOp .Mod) (rI (fun _ j => 0 < j) fun i j => .int (i % j)) := opI fun i j _ _ _ _ _ hc q => by
  have h1 : (0 : Int) < j := hc
  exact mod_int' (by omega) (by rw [Int.fmod_eq_emod_of_nonneg i (by omega)]; exact q)
theorem op_pow : OpR X (binaryOp .Pow) (rI CPow fun i j => .int (i ^ j.toNat)) := opI fun _ _ _ _ _ _ _ hc q => pow_int_small hc.1 hc.2.1 hc.2.2 q
theorem unI {f : Value → Sem Value} {g : Int → Int}
    (rule : ∀ (i : Int) (t : Tok) (s : Shared) (Q : Value → Shared → Prop) (E : Value → Shared → Prop), Q (.int (g i) s.toks) { s with toks := s.toks + 1 } → wpAny (model X.prog X.w) X.A (f (.int i t)) Q E s) :
    UnR X f (rU fun i => .int (g i)) := by
  intro pins s σ H x v Q I rx h
  obtain ⟨i, rfl, q⟩ := h
  obtain ⟨t, rfl⟩ := rx
  exact rule i t s _ _ ⟨.int (g i), H, I.tok _, ⟨_, rfl⟩, q⟩
theorem un_neg : UnR X (unaryOp .USub) (rU fun i => .int (-i)) := unI fun _ _ _ _ _ q => neg_int q
end
noncomputable def scal : V → V → Bool
  | .non, .non => true | .non, .int _ => true | .int _, .non => true | .non, .bl _ => true | .bl _, .non => true | .non, .str _ => true | .str _, .non => true
  | .int _, .int _ => true | .bl _, .bl _ => true | .str _, .str _ => true | .byt _, .byt _ => true
  | .int _, .str _ => true | .str _, .int _ => true | .bl _, .str _ => true | .str _, .bl _ => true
  | _, _ => false
noncomputable def rEq : R2 := fun x y H Q => scal x y = true ∧ Q (.bl (decide (x = y))) H
noncomputable def rNe : R2 := fun x y H Q => scal x y = true ∧ Q (.bl (!decide (x = y))) H
theorem dec_int {i j : Int} : decide (V.int i = V.int j) = (i == j) := by
  rw [Bool.eq_iff_iff]
  simp
theorem dec_bl {i j : Bool} : decide (V.bl i = V.bl j) = (i == j) := by
  rw [Bool.eq_iff_iff]
  simp
theorem dec_str {i j : Str} : decide (V.str i = V.str j) = (i == j) := by
  rw [Bool.eq_iff_iff]
  simp
theorem dec_byt {i j : Array UInt8} : decide (V.byt i = V.byt j) = (i.toList == j.toList) := by
  rw [Bool.eq_iff_iff]
  cases i
  cases j
  simp
section
variable {X : Cx} {a b c : Expr} {ta tb tc : TE} {pos : Pos}
theorem fin_bl {pins : List (Addr × Obj)} {σ : St} {H : Hp} {s : Shared} {Q : VK} {k k' : Bool} (I : Inv X pins σ H s) (q : Q (.bl k) H) (e : k = k') : EP X pins σ Q (.bool k') s := by
  subst e
  exact ⟨.bl k, H, I, rfl, q⟩
theorem op_eq : OpR X (compareOp .Eq) rEq := by
  intro pins s σ H x y v u Q I rx ry h
  obtain ⟨hs, q⟩ := h
  cases x with
  | non =>
    cases rx
    cases y with
    | non => cases ry; exact PySem.EqNone.eq_none_none (fin_bl I q (by simp))
    | bl j => cases ry; exact PySem.EqNone.eq_none_bool (fin_bl I q (by simp))
    | int j => obtain ⟨t', rfl⟩ := ry; exact PySem.EqNone.eq_none_int (fin_bl I q (by simp))
    | str j => obtain ⟨t', rfl⟩ := ry; exact PySem.EqNone.eq_none_str (fin_bl I q (by simp))
    | _ => exact absurd (show false = true from hs) Bool.false_ne_true
  | bl i =>
    cases rx
    cases y with
    | non => cases ry; exact PySem.EqNone.eq_bool_none (fin_bl I q (by simp))
    | bl j => cases ry; exact eq_bool (fin_bl I q dec_bl)
    | str j => obtain ⟨t', rfl⟩ := ry; exact PySem.EqMixed.eq_bool_str (fin_bl I q (by simp))
    | _ => exact absurd (show false = true from hs) Bool.false_ne_true
  | int i =>
    obtain ⟨t, rfl⟩ := rx
    cases y with
    | non => cases ry; exact PySem.EqNone.eq_int_none (fin_bl I q (by simp))
    | int j => obtain ⟨t', rfl⟩ := ry; exact eq_int (fin_bl I q dec_int)
    | str j => obtain ⟨t', rfl⟩ := ry; exact PySem.EqMixed.eq_int_str (fin_bl I q (by simp))
    | _ => exact absurd (show false = true from hs) Bool.false_ne_true
  | str i =>
    obtain ⟨t, rfl⟩ := rx
    cases y with
    | non => cases ry; exact PySem.EqNone.eq_str_none (fin_bl I q (by simp))
    | bl j => cases ry; exact PySem.EqMixed.eq_str_bool (fin_bl I q (by simp))
    | int j => obtain ⟨t', rfl⟩ := ry; exact PySem.EqMixed.eq_str_int (fin_bl I q (by simp))
    | str j => obtain ⟨t', rfl⟩ := ry; exact eq_str (fin_bl I q dec_str)
    | _ => exact absurd (show false = true from hs) Bool.false_ne_true
  | byt i =>
    obtain ⟨t, rfl⟩ := rx
    cases y with
    | byt j => obtain ⟨t', rfl⟩ := ry; exact PySem.W.eq_bytes (fin_bl I q dec_byt)
    | _ => exact absurd (show false = true from hs) Bool.false_ne_true
  | _ => cases y <;> exact absurd (show false = true from hs) Bool.false_ne_true
theorem op_ne : OpR X (compareOp .NotEq) rNe := by
  intro pins s σ H x y v u Q I rx ry h
  obtain ⟨hs, q⟩ := h
  cases x with
  | non =>
    cases rx
    cases y with
    | non => cases ry; exact PySem.EqNone.ne_none_none (fin_bl I q (by simp))
    | bl j => cases ry; exact PySem.EqNone.ne_none_bool (fin_bl I q (by simp))
    | int j => obtain ⟨t', rfl⟩ := ry; exact PySem.EqNone.ne_none_int (fin_bl I q (by simp))
    | str j => obtain ⟨t', rfl⟩ := ry; exact PySem.EqNone.ne_none_str (fin_bl I q (by simp))
    | _ => exact absurd (show false = true from hs) Bool.false_ne_true
  | bl i =>
    cases rx
    cases y with
    | non => cases ry; exact PySem.EqNone.ne_bool_none (fin_bl I q (by simp))
    | bl j => cases ry; exact ne_bool (fin_bl I q (congrArg not dec_bl))
    | str j => obtain ⟨t', rfl⟩ := ry; exact PySem.EqMixed.ne_bool_str (fin_bl I q (by simp))
    | _ => exact absurd (show false = true from hs) Bool.false_ne_true
  | int i =>
    obtain ⟨t, rfl⟩ := rx
    cases y with
    | non => cases ry; exact PySem.EqNone.ne_int_none (fin_bl I q (by simp))
    | int j => obtain ⟨t', rfl⟩ := ry; exact ne_int (fin_bl I q (congrArg not dec_int))
    | str j => obtain ⟨t', rfl⟩ := ry; exact PySem.EqMixed.ne_int_str (fin_bl I q (by simp))
    | _ => exact absurd (show false = true from hs) Bool.false_ne_true
  | str i =>
    obtain ⟨t, rfl⟩ := rx
    cases y with
    | non => cases ry; exact PySem.EqNone.ne_str_none (fin_bl I q (by simp))
    | bl j => cases ry; exact PySem.EqMixed.ne_str_bool (fin_bl I q (by simp))
    | int j => obtain ⟨t', rfl⟩ := ry; exact PySem.EqMixed.ne_str_int (fin_bl I q (by simp))
    | str j => obtain ⟨t', rfl⟩ := ry; exact ne_str (fin_bl I q (congrArg not dec_str))
    | _ => exact absurd (show false = true from hs) Bool.false_ne_true
  | byt i =>
    obtain ⟨t, rfl⟩ := rx
    cases y with
    | byt j => obtain ⟨t', rfl⟩ := ry; exact PySem.W.ne_bytes (fin_bl I q (congrArg not dec_byt))
    | _ => exact absurd (show false = true from hs) Bool.false_ne_true
  | _ => cases y <;> exact absurd (show false = true from hs) Bool.false_ne_true
theorem op_lt : OpR X (compareOp .Lt) (rI0 fun i j => .bl (decide (i < j))) := opB0 fun _ _ _ _ _ _ _ q => lt_int q
theorem op_le : OpR X (compareOp .LtE) (rI0 fun i j => .bl (decide (i ≤ j))) := opB0 fun _ _ _ _ _ _ _ q => le_int q
theorem op_gt : OpR X (compareOp .Gt) (rI0 fun i j => .bl (decide (j < i))) := opB0 fun _ _ _ _ _ _ _ q => gt_int q
theorem op_in_str : OpR X (compareOp .In) (fun x y H Q => ∃ i j, x = .str i ∧ y = .str j ∧ Q (.bl (!(Builtin.Str.occurrences j i 0 j.length 1).isEmpty)) H) := by
  intro pins s σ H x y v u Q I rx ry h
  obtain ⟨i, j, rfl, rfl, q⟩ := h
  obtain ⟨t, rfl⟩ := rx
  obtain ⟨t', rfl⟩ := ry
  exact in_str (fin_bl I q rfl)
theorem op_isN : OpR X (compareOp .Is) (fun x y H Q => y = .non ∧ Q (.bl (decide (x = .non))) H) := by
  intro pins s σ H x y v u Q I rx ry h
  obtain ⟨rfl, q⟩ := h
  cases ry
  refine is_none_gen (fin_bl I q ?_)
  cases x <;> first
    | (cases rx; rfl)
    | (obtain ⟨t, rfl⟩ := rx; rfl)
theorem op_notN : OpR X (compareOp .IsNot) (fun x y H Q => y = .non ∧ Q (.bl (!decide (x = .non))) H) := by
  intro pins s σ H x y v u Q I rx ry h
  obtain ⟨rfl, q⟩ := h
  cases ry
  refine isnot_none_gen (fin_bl I q ?_)
  cases x <;> first
    | (cases rx; rfl)
    | (obtain ⟨t, rfl⟩ := rx; rfl)
theorem OpR.or {f : Value → Value → Sem Value} {r r' : R2} (h : OpR X f r) (h' : OpR X f r') : OpR X f (fun x y H Q => r x y H Q ∨ r' x y H Q) := by
  intro pins s σ H x y v u Q I rx ry q
  rcases q with q | q
  · exact h pins s σ H x y v u Q I rx ry q
  · exact h' pins s σ H x y v u Q I rx ry q
theorem nomark (b : Expr) {op : CmpOp} (h : op ≠ .In := by decide) (h2 : op ≠ .NotIn := by decide) : behindInMarks op b = false := by
  have e1 : (op == CmpOp.In) = false := by cases op <;> first | rfl | exact absurd rfl h
  have e2 : (op == CmpOp.NotIn) = false := by cases op <;> first | rfl | exact absurd rfl h2
  cases b <;> simp [behindInMarks, e1, e2]
theorem pe_cmpR {op : CmpOp} {r : R2} (ho : OpR X (compareOp op) r) (ha : PE X a ta) (hb : PE X b tb) (hm : behindInMarks op b = false) : PE X (.Compare a [op] [b] pos) (tOp r ta tb) := by
  intro pins s σ H Q I h
  exact wpAny_Compare1 (binT ha hb I h fun v u s2 x y H2 I2 rx ry q => ho pins s2 σ H2 x y v u Q I2 rx ry q) hm
noncomputable def tTest (t : TE) : TT := fun σ H Q => t σ H fun x H' => ∃ k, x = .bl k ∧ Q k H'
theorem pt_cmpR {op : CmpOp} {r : R2} (ho : OpR X (compareOp op) r) (ha : PE X a ta) (hb : PE X b tb) (hm : behindInMarks op b = false) : PT X (.Compare a [op] [b] pos) (tTest (tOp r ta tb)) := by
  intro pins s σ H Q I h
  refine wpAny_isTrue_Compare1 (thn (ha pins s σ H _ I h) fun v s1 ⟨x, H1, I1, r1, q1⟩ => thn (hb pins s1 σ H1 _ I1 q1) fun u s2 ⟨y, H2, I2, r2, q2⟩ =>
    thn (ho pins s2 σ H2 x y v u _ I2 r1 r2 q2) fun c s3 ⟨z, H3, I3, r3, k, e, q3⟩ => ?_) hm
  subst e
  cases r3
  exact wpAny_truthy_bool ⟨H3, I3, q3⟩
noncomputable def tChain (r r' : R2) (ta tb tc : TE) : TE := fun σ H Q => ta σ H fun x H1 => tb σ H1 fun y H2 => r x y H2 fun z H3 => ∃ k, z = .bl k ∧
  (if k = true then tc σ H3 fun w' H4 => r' y w' H4 Q else Q (.bl false) H3)
theorem pe_chain {op op' : CmpOp} {r r' : R2} (ho : OpR X (compareOp op) r) (ho' : OpR X (compareOp op') r') (ha : PE X a ta) (hb : PE X b tb) (hc : PE X c tc)
    (hm : lastMarks [op, op'] [b, c] = false := by with_unfolding_all rfl) : PE X (.Compare a [op, op'] [b, c] pos) (tChain r r' ta tb tc) := by
  intro pins s σ H Q I h
  refine Compare_chain (thn (ha pins s σ H _ I h) fun v s1 ⟨x, H1, I1, r1, q1⟩ => chain_link (thn (hb pins s1 σ H1 _ I1 q1) fun u s2 ⟨y, H2, I2, r2, q2⟩ =>
    thn (ho pins s2 σ H2 x y v u _ I2 r1 r2 q2) fun d s3 ⟨z, H3, I3, r3, k, e, q3⟩ => ?_)) hm
  subst e
  cases r3
  refine wpAny_truthy_bool ?_
  cases k with
  | false => exact ite_ff ⟨.bl false, H3, I3, rfl, q3⟩
  | true => exact ite_tt (chain_last (thn (hc pins s3 σ H3 _ I3 q3) fun w' s4 ⟨z', H4, I4, r4, q4⟩ => ho' pins s4 σ H4 y z' u w' Q I4 r2 r4 q4))
theorem pt_chain {op op' : CmpOp} {r r' : R2} (ho : OpR X (compareOp op) r) (ho' : OpR X (compareOp op') r') (ha : PE X a ta) (hb : PE X b tb) (hc : PE X c tc)
    (hm : lastMarks [op, op'] [b, c] = false := by with_unfolding_all rfl) : PT X (.Compare a [op, op'] [b, c] pos) (tTest (tChain r r' ta tb tc)) := by
  intro pins s σ H Q I h
  refine isTrue_chain (thn (ha pins s σ H _ I h) fun v s1 ⟨x, H1, I1, r1, q1⟩ => test_link (thn (hb pins s1 σ H1 _ I1 q1) fun u s2 ⟨y, H2, I2, r2, q2⟩ =>
    thn (ho pins s2 σ H2 x y v u _ I2 r1 r2 q2) fun d s3 ⟨z, H3, I3, r3, k, e, q3⟩ => ?_)) hm
  subst e
  cases r3
  refine wpAny_truthy_bool ?_
  cases k with
  | false =>
    obtain ⟨k', e', q'⟩ := q3
    cases e'
    exact ite_ff ⟨H3, I3, q'⟩
  | true =>
    refine ite_tt (test_last (thn (hc pins s3 σ H3 _ I3 q3) fun w' s4 ⟨z', H4, I4, r4, q4⟩ => thn (ho' pins s4 σ H4 y z' u w' _ I4 r2 r4 q4) fun d' s5 ⟨z2, H5, I5, r5, k2, e2, q5⟩ => ?_))
    subst e2
    cases r5
    exact wpAny_truthy_bool ⟨H5, I5, q5⟩
noncomputable def TruV (K : PySem.W.Frag) (x : V) (H : Hp) (k : Bool) : Prop :=
  match x with
  | .non => k = false
  | .bl b => k = b
  | .int i => k = (i != 0)
  | .str y => y.length ≤ sizeLine ∧ k = ((y.length : Int) != 0)
  | .byt y => y.size ≤ sizeLine ∧ k = ((y.size : Int) != 0)
  | .ref p => (∃ xs, SqL K H p xs ∧ k = !xs.isEmpty) ∨ (∃ xs, SqT K H p xs ∧ k = !xs.isEmpty) ∨ ∃ kvs, H p = some (.dK kvs) ∧ k = !kvs.isEmpty
  | _ => False
theorem isEmpty_kv {κ : Type} {kvs : List (κ × V)} {vs : List (κ × Value)} (r : KV kvs vs) : (!vs.isEmpty) = !kvs.isEmpty := by
  cases r <;> rfl
theorem isEmpty_of {xs : List V} {its : List Value} (r : Vals xs its) : (!its.toArray.isEmpty) = !xs.isEmpty := by
  cases r <;> simp
theorem line63 : (sizeLine : Nat) < 2 ^ 63 := by rw [sizeLine_eq]; decide
theorem tru_ok : TruR X (fun x H Q => ∃ k, TruV X.K x H k ∧ Q k H) := by
  intro pins s σ H x v Q I rx h
  obtain ⟨k, e, q⟩ := h
  have hl := line63
  have hs : sizeLine = 16777216 := sizeLine_eq
  cases x with
  | non =>
    cases rx
    have e' : k = false := e
    subst e'
    exact truthy_none ⟨H, I, q⟩
  | bl b =>
    cases rx
    have e' : k = b := e
    subst e'
    exact wpAny_truthy_bool ⟨H, I, q⟩
  | int i =>
    obtain ⟨t, rfl⟩ := rx
    have e' : k = (i != 0) := e
    subst e'
    exact PySem.P.truthy_int ⟨H, I, q⟩
  | str y =>
    obtain ⟨t, rfl⟩ := rx
    obtain ⟨hy, e'⟩ : y.length ≤ sizeLine ∧ k = ((y.length : Int) != 0) := e
    subst e'
    exact PySem.P.truthy_str (by omega) ⟨H, I.tok _, q⟩
  | byt y =>
    obtain ⟨t, rfl⟩ := rx
    obtain ⟨hy, e'⟩ : y.size ≤ sizeLine ∧ k = ((y.size : Int) != 0) := e
    subst e'
    exact PySem.W.truthy_bytes (by omega) ⟨H, I.tok _, q⟩
  | ref p =>
    cases rx
    have e' : (∃ xs, SqL X.K H p xs ∧ k = !xs.isEmpty) ∨ (∃ xs, SqT X.K H p xs ∧ k = !xs.isEmpty) ∨ ∃ kvs, H p = some (.dK kvs) ∧ k = !kvs.isEmpty := e
    rcases e' with ⟨xs, hx, e'⟩ | ⟨xs, hx, e'⟩ | ⟨kvs, hx, e'⟩
    · subst e'
      obtain ⟨its, r, pl, hz⟩ := I.list hx
      have hlen := r.length
      exact wpAny_truthy_list pl.isList (by simp only [List.size_toArray]; omega) ⟨H, I.tok _, by rw [isEmpty_of r]; exact q⟩
    · subst e'
      obtain ⟨its, r, pl, hz⟩ := I.tuple hx
      have hlen := r.length
      exact truthy_tuple pl (by simp only [List.size_toArray]; omega) ⟨H, I.tok _, by rw [isEmpty_of r]; exact q⟩
    · subst e'
      obtain ⟨hz, hS, vs, r, m⟩ : kvs.length ≤ sizeLine ∧ (p == sysModules) = false ∧ ∃ vs, KV kvs vs ∧ s.heap.DictOf (mixKind X.prog X.w) p vs := I.hok p _ hx
      have hlen : kvs.length = vs.length := Paired.length r
      exact wpAny_truthy_dict hS m (by omega) ⟨H, I.tok _, by rw [isEmpty_kv r]; exact q⟩
  | _ => exact (show False from e).elim
theorem pt_truth (ha : PE X a ta) (he : ∀ whole, isTrue a X.env whole = (do let v ← whole; standAt a.pos; holding [v] (truthy v))) :
    PT X a (fun σ H Q => ta σ H fun x H' => ∃ k, TruV X.K x H' k ∧ Q k H') := by
  intro pins s σ H Q I h
  exact isTrue_plain (thn (ha pins s σ H _ I h) fun v s1 ⟨x, H1, I1, r1, q1⟩ => tru_ok pins s1 σ H1 x v Q I1 r1 q1) (he _)
theorem op_add_str : OpR X (binaryOp .Add) (fun x y H Q => ∃ i j, x = .str i ∧ y = .str j ∧ i.length + j.length ≤ sizeLine ∧ Q (.str (i ++ j)) H) := by
  intro pins s σ H x y v u Q I rx ry h
  obtain ⟨i, j, rfl, rfl, hz, q⟩ := h
  obtain ⟨t, rfl⟩ := rx
  obtain ⟨t', rfl⟩ := ry
  exact add_str (fun t' tk => ⟨.str (i ++ j), H, I.tok _, ⟨_, rfl⟩, q⟩) hz
theorem vals1 {x : V} {us : List Value} (r : Vals [x] us) : ∃ u, us = [u] ∧ RelV x u := by
  cases r with
  | cons r1 r2 => cases r2; exact ⟨_, rfl, r1⟩
theorem vals2 {x y : V} {us : List Value} (r : Vals [x, y] us) : ∃ u w', us = [u, w'] ∧ RelV x u ∧ RelV y w' := by
  cases r with
  | cons r1 r2 =>
    cases r2 with
    | cons r3 r4 => cases r4; exact ⟨_, _, rfl, r1, r3⟩
theorem call_int1 : CallR X (.type "int") (fun xs H Q => (∃ i, xs = [.int i] ∧ Q (.int i) H) ∨ ∃ k, xs = [.bl k] ∧ Q (.int (if k then 1 else 0)) H) := by
  intro pins s σ H xs us Q I r h
  rcases h with ⟨i, rfl, q⟩ | ⟨k, rfl, q⟩
  · obtain ⟨u, rfl, t, rfl⟩ := vals1 r
    exact call_int_int ⟨.int i, H, I, ⟨_, rfl⟩, q⟩
  · obtain ⟨u, rfl, r1⟩ := vals1 r
    cases r1
    exact call_int_bool ⟨.int (if k then 1 else 0), H, I.tok _, ⟨_, rfl⟩, q⟩
theorem call_str_int : CallR X (.type "str") (fun xs H Q => ∃ i, xs = [.int i] ∧ i.natAbs.log2 < 1920 ∧ Q (.str (toString i)) H) := by
  intro pins s σ H xs us Q I r h
  obtain ⟨i, rfl, hz, q⟩ := h
  obtain ⟨u, rfl, t, rfl⟩ := vals1 r
  exact PySem.P.str_of_int hz ⟨.str _, H, I.tok _, ⟨_, rfl⟩, q⟩
noncomputable def LenV (K : PySem.W.Frag) (x : V) (H : Hp) (n : Nat) : Prop :=
  match x with
  | .str y => y.length ≤ sizeLine ∧ n = y.length
  | .byt y => y.size ≤ sizeLine ∧ n = y.size
  | .ref p => (∃ xs, SqL K H p xs ∧ n = xs.length) ∨ ∃ xs, SqT K H p xs ∧ n = xs.length
  | _ => False
theorem call_len : CallR X (.builtin "len") (fun xs H Q => ∃ x n, xs = [x] ∧ LenV X.K x H n ∧ Q (.int n) H) := by
  intro pins s σ H xs us Q I r h
  obtain ⟨x, n, rfl, e, q⟩ := h
  obtain ⟨u, rfl, rx⟩ := vals1 r
  have hl := line63
  have hs : sizeLine = 16777216 := sizeLine_eq
  cases x with
  | str y =>
    obtain ⟨t, rfl⟩ := rx
    obtain ⟨hy, e'⟩ : y.length ≤ sizeLine ∧ n = y.length := e
    subst e'
    exact len_str (by omega) ⟨.int _, H, I.tok _, ⟨_, rfl⟩, q⟩
  | byt y =>
    obtain ⟨t, rfl⟩ := rx
    obtain ⟨hy, e'⟩ : y.size ≤ sizeLine ∧ n = y.size := e
    subst e'
    exact PySem.W.len_bytes (by omega) ⟨.int _, H, I.tok _, ⟨_, rfl⟩, q⟩
  | ref p =>
    cases rx
    have e' : (∃ xs, SqL X.K H p xs ∧ n = xs.length) ∨ ∃ xs, SqT X.K H p xs ∧ n = xs.length := e
    rcases e' with ⟨xs, hx, e'⟩ | ⟨xs, hx, e'⟩
    · subst e'
      obtain ⟨its, r', pl, hz⟩ := I.list hx
      have hlen := r'.length
      exact Calls.call_len_list pl.isList (by simp only [List.size_toArray]; omega) ⟨.int xs.length, H, I.tok _, ⟨_, by simp only [List.size_toArray]; rw [hlen]⟩, q⟩
    · subst e'
      obtain ⟨its, r', pl, hz⟩ := I.tuple hx
      have hlen := r'.length
      exact len_tuple pl (by simp only [List.size_toArray]; omega) ⟨.int xs.length, H, I.tok _, ⟨_, by simp only [List.size_toArray]; rw [hlen]⟩, q⟩
  | _ => exact (show False from e).elim
end
end L2
namespace L2
open PySem PySem.Spec PyProof.Rows
structure ObjM (h : Heap) (x dx C : Addr) (mA : Str → Option Value) : Prop where
  obj : h.get? x = some (PySem.W.instObj C dx)
  ns : h.Ns1 dx mA
  ne : dx ≠ x
theorem lookIn_ns {h : Heap} {dx : Addr} {mA : Str → Option Value} (n : h.Ns1 dx mA) : ∃ od, h.get? dx = some od ∧ ∀ name, PySem.W.lookIn name od = some (mA name) := by
  obtain ⟨o, es, ep, ho, hd, hk, _, hm⟩ := n
  refine ⟨o, ho, fun name => ?_⟩
  have e := hm name
  unfold nsFind findBy at e
  rw [← Array.find?_toList] at e
  unfold PySem.W.lookIn
  rw [hd]
  dsimp only
  split
  · rename_i y q
    rw [q] at e
    exact congrArg some e
  · rename_i q
    rw [q] at e
    have a : es.toList.any (·.refKey) = false := by
      rw [List.any_eq_false]
      intro y hy
      obtain ⟨z, t, hkey⟩ := hk y (Array.mem_toList_iff.mp hy)
      simp [DictEntry.refKey, hkey]
    have a' : ¬ es.toList.any (·.refKey) = true := by rw [a]; exact Bool.false_ne_true
    rw [if_neg a']
    exact congrArg some e
theorem ObjM.look {h : Heap} {x dx C : Addr} {mA : Str → Option Value} (I : ObjM h x dx C mA) : ∃ od, PySem.W.InstAt h x (PySem.W.instObj C dx) C (some od) ∧ ∀ name, PySem.W.lookIn name od = some (mA name) :=
  let ⟨od, ho, hl⟩ := lookIn_ns I.ns
  ⟨od, ⟨I.obj, rfl, rfl, ho⟩, hl⟩
section
variable {prog : Program} {w : World} {A : Around} {E : Value → Shared → Prop} {s : Shared} {K : PySem.W.Frag} {x dx C f : Addr} {mA : Str → Option Value} {name : Str} {v : Value}
end
theorem RelO.some_of {v : V} {o : Option Value} (r : RelO (some v) o) : ∃ u, o = some u ∧ RelV v u := by
  cases o with
  | none => exact (show False from r).elim
  | some u => exact ⟨u, rfl, r⟩
section
variable {P : Program} {w : World} {H H' : Hp} {h h' : Heap} {a C dx : Addr} {fs fs' : List (Str × V)}
theorem ins_get (hok : HOk P w H h) (e : H a = some (.ins C dx fs)) : ∃ mA, ObjM h a dx C mA ∧ (∀ f, RelO (fs.lookup f) (mA f)) ∧ PySem.Within mA (fs.map (·.1)) ∧ fs.length ≤ 1000 ∧ H dx = some (.own a) := by
  obtain ⟨d, z, ne, ob, mA, n, r, q⟩ := (show ObjOk P w H h a (.ins C dx fs) from hok a _ e)
  exact ⟨mA, ⟨ob, n, ne⟩, r, q, z, d⟩
end
structure Cls (K : PySem.W.Frag) (C : Addr) : Prop where
  pg : PySem.W.plainGet K C Str.empty = true
  hd : PySem.W.hasDictIn K C = true
  po : PySem.W.plainOver K C = true
  sa : PySem.W.findIn K (.ref C) "__setattr__" = some (some (.builtin "object.__setattr__"))
theorem Cls.get {K : PySem.W.Frag} {C : Addr} (c : Cls K C) (f : Str) : PySem.W.plainGet K C f = true := c.pg
section
variable {X : Cx} {pins : List (Addr × Obj)} {σ : St} {H : Hp} {s : Shared} {a C dx : Addr} {fs : List (Str × V)} {f : Str} {v : V} {A : Around} {E : Value → Shared → Prop}
end
section
variable {X : Cx} {o e value : Expr} {f : Str} {pos pos' tpos : Pos} {ta tv : TE}
end
section
variable {X : Cx} {pins : List (Addr × Obj)} {σ : St} {H : Hp} {s : Shared} {A : Around} {E : Value → Shared → Prop} {Q : Value → Shared → Prop} {c : Value} {b : Bool}
inductive TyOf (K : PySem.W.Frag) (H : Hp) : V → Value → Prop where
  | non : TyOf K H .non (.type "NoneType")
  | bl (x : Bool) : TyOf K H (.bl x) (.type "bool")
  | int (i : Int) : TyOf K H (.int i) (.type "int")
  | str (x : Str) : TyOf K H (.str x) (.type "str")
  | flt (x : UInt64) : TyOf K H (.flt x) (.type "float")
  | lst {a : Addr} {xs : List V} (e : H a = some (.lst xs)) : TyOf K H (.ref a) (.type "list")
  | frz {a : Addr} {o : Obj} {xs : List V} (e : H a = some (.frz o (.lst xs))) : TyOf K H (.ref a) (.type "list")
  | tup {a : Addr} {xs : List V} (e : H a = some (.tup xs)) : TyOf K H (.ref a) (.type "tuple")
  | dK {a : Addr} {kvs : List (Key × V)} (e : H a = some (.dK kvs)) : TyOf K H (.ref a) (.type "dict")
  | dT {a : Addr} {kvs : List (List Key × V)} (e : H a = some (.dT kvs)) : TyOf K H (.ref a) (.type "dict")
  | ins {a C dx : Addr} {fs : List (Str × V)} (e : H a = some (.ins C dx fs)) (cl : Cls K C) (ha : PySem.W.findIn K (.ref C) "__class__" = some (some (.builtin "object.__class__")))
      (hn : PySem.W.specialIn K (.builtin "object.__class__") "__get__" = some (some (.builtin "getset_descriptor.__get__"))) (htk : PySem.W.takesIn K (.builtin "object.__class__") = some true)
      (hm : PySem.W.mroIn K C (.type "object") = some true) : TyOf K H (.ref a) (.ref C)
theorem isinst_ok {x : V} {u t : Value} (I : Inv X pins σ H s) (rx : RelV x u) (ty : TyOf X.K H x t) (e : PySem.W.kitOne X.K t c = some b) (h : ∀ tk, Q (.bool b) { s with toks := tk }) :
    wpAny (model X.prog X.w) A (call (.builtin "isinstance") [u, c]) Q E s := by
  cases ty with
  | non => cases (show u = Value.none from rx); exact PySem.W.kia_one PySem.W.kitx_none I.kIn True.intro e (fun z => nomatch z) h
  | bl y => cases (show u = Value.bool y from rx); exact PySem.W.kia_one PySem.W.kitx_bool I.kIn True.intro e (fun z => nomatch z) h
  | int i => obtain ⟨t, q⟩ := (show ∃ t, u = Value.int i t from rx); cases q; exact PySem.W.kia_one PySem.W.kitx_int I.kIn True.intro e (fun z => nomatch z) h
  | str y => obtain ⟨t, q⟩ := (show ∃ t, u = Value.str y t from rx); cases q; exact PySem.W.kia_one PySem.W.kitx_str I.kIn True.intro e (fun z => nomatch z) h
  | flt y => obtain ⟨t, q⟩ := (show ∃ t, u = Value.float y t from rx); cases q; exact PySem.W.kia_one PySem.W.kitx_float I.kIn True.intro e (fun z => nomatch z) h
  | @lst a xs ea =>
    cases (show u = Value.ref a from rx)
    obtain ⟨_, _, n, _, h1⟩ := (show ObjOk X.prog X.w H s.heap a (.lst xs) from I.hok a _ ea)
    exact PySem.W.kia_one PySem.W.kitx_list I.kIn ⟨_, h1, rfl⟩ e (fun z => nomatch z) h
  | @frz a ob xs ea =>
    cases (show u = Value.ref a from rx)
    obtain ⟨_, _, _, n, _, h1⟩ := (show ObjOk X.prog X.w H s.heap a (.frz ob (.lst xs)) from I.hok a _ ea)
    exact PySem.W.kia_one PySem.W.kitx_list I.kIn ⟨_, h1, rfl⟩ e (fun z => nomatch z) h
  | @tup a xs ea =>
    cases (show u = Value.ref a from rx)
    obtain ⟨_, _, _, p⟩ := (show ObjOk X.prog X.w H s.heap a (.tup xs) from I.hok a _ ea)
    obtain ⟨o, h1, h2, _⟩ := p
    exact PySem.W.kia_one PySem.W.kitx_tuple I.kIn ⟨o, h1, h2⟩ e (fun z => nomatch z) h
  | @dK a kvs ea =>
    cases (show u = Value.ref a from rx)
    obtain ⟨_, _, vs, _, p⟩ := (show ObjOk X.prog X.w H s.heap a (.dK kvs) from I.hok a _ ea)
    obtain ⟨o, es, ep, h1, h2, _⟩ := p
    exact PySem.W.kia_one PySem.W.kitx_dict I.kIn ⟨o, h1, h2.1⟩ e (fun z => nomatch z) h
  | @dT a kvs ea =>
    cases (show u = Value.ref a from rx)
    obtain ⟨_, _, xs, _, o, es, ep, h1, h2, _⟩ := (show ObjOk X.prog X.w H s.heap a (.dT kvs) from I.hok a _ ea)
    exact PySem.W.kia_one PySem.W.kitx_dict I.kIn ⟨o, h1, h2.1⟩ e (fun z => nomatch z) h
  | @ins a C dx fs ea cl ha hn htk hm =>
    cases (show u = Value.ref a from rx)
    obtain ⟨mA, O, _⟩ := ins_get I.hok ea
    obtain ⟨od, J, _⟩ := O.look
    exact PySem.W.kia_one (PySem.W.kitx_own (cl.get _) cl.hd ha hn htk hm) I.kIn J e (fun z => nomatch z) h
end
end L2
namespace L2
open PySem PySem.Spec PyProof.Rows
structure Room (k : Nat) (A : Around) : Prop where
  hd : A.handled = none
  dp : A.depth + 3 * k + 5 < recursionLimit
  un : A.units + 16 * k + 200 < cLine
theorem Room.mono {j k : Nat} {A : Around} (r : Room k A) (h : j ≤ k) : Room j A := ⟨r.hd, by have := r.dp; omega, by have := r.un; omega⟩
theorem Room.deeper {k : Nat} {A : Around} (r : Room (k + 1) A) (env : Env) : Room k (A.deeper env) :=
  ⟨r.hd, by have := r.dp; show A.depth + 1 + 3 * k + 5 < _; omega, by have := r.un; show A.units + 3 + 16 * k + 200 < _; omega⟩
theorem Room.depth {k : Nat} {A : Around} (r : Room k A) : A.depth < recursionLimit := by have := r.dp; omega
theorem Room.units {k : Nat} {A : Around} (r : Room k A) : A.units + 64 < cLine := by have := r.un; omega
noncomputable def tNil : TA := fun _ H Q => Q [] H
noncomputable def tCons (ta : TE) (tr : TA) : TA := fun σ H Q => ta σ H fun x H1 => tr σ H1 fun xs H2 => Q (x :: xs) H2
section
variable {X : Cx} {e : Expr} {es : List Expr} {te : TE} {t : TA} {pos : Pos}
theorem pa_nil : PA X [] tNil := fun _ _ _ _ H Q I h => Calls.spliced_nil ⟨[], H, I, .nil, h⟩
theorem pa_cons (ha : PE X e te) (hr : PA X es t) (hs : starEach (e :: es) X.env = (false, eval e X.env) :: starEach es X.env := by rfl) : PA X (e :: es) (tCons te t) := by
  intro pos pins s σ H Q I h
  rw [hs]
  show wpAny _ _ (spliced ((false, eval e X.env) :: backTo pos (starEach es X.env))) _ _ s
  refine Calls.spliced_cons (thn (ha pins s σ H _ I h) fun u s1 ⟨x, H1, I1, r1, q1⟩ => ?_)
  exact thn (hr pos pins s1 σ H1 _ I1 q1) fun us s2 ⟨xs, H2, I2, r2, q2⟩ => ⟨x :: xs, H2, I2, .cons r1 r2, q2⟩
noncomputable def tTup (t : TA) : TE := fun σ H Q => t σ H fun xs H1 => xs.length ≤ sizeLine ∧ ∀ p, H1 p = none → Q (.ref p) (upd H1 p (.tup xs))
noncomputable def tLst (t : TA) : TE := fun σ H Q => t σ H fun xs H1 => xs.length ≤ sizeLine ∧ ∀ p, H1 p = none → Q (.ref p) (upd H1 p (.lst xs))
theorem pe_tup {x1} (h : PA X es t) : PE X (.Tuple es x1 pos) (tTup t) := by
  intro pins s σ H Q I hq
  refine wpAny_Tuple_spliced (thn (h pos pins s σ H _ I hq) fun us s1 ⟨xs, H1, I1, r, z, q⟩ => ⟨by rw [← r.length]; exact z, ?_⟩)
  have hf : H1 s1.heap.objs.size = none := I1.hok.fresh (Nat.le_refl _)
  refine ⟨.ref s1.heap.objs.size, upd H1 s1.heap.objs.size (.tup xs), I1.laid (t' := s1.toks) (fun b u e => Heap.get?_push_of_some _ e) (Nat.le_refl _) ?_, rfl, q _ hf⟩
  exact ⟨z, us, r, ⟨_, Heap.get?_push_size _ rfl, rfl, _, rfl⟩⟩
theorem pe_lst (h : PA X es t) : PE X (.List es pos) (tLst t) := by
  intro pins s σ H Q I hq
  refine wpAny_List_spliced (thn (h pos pins s σ H _ I hq) fun us s1 ⟨xs, H1, I1, r, z, q⟩ => ⟨by rw [← r.length]; exact z, ?_⟩)
  have hf : H1 s1.heap.objs.size = none := I1.hok.fresh (Nat.le_refl _)
  refine ⟨.ref s1.heap.objs.size, upd H1 s1.heap.objs.size (.lst xs), I1.laid (t' := s1.toks) (fun b u e => Heap.get?_push_of_some _ e) (Nat.le_refl _) ?_, rfl, q _ hf⟩
  exact ⟨z, us, 0, r, Heap.get?_push_size _ rfl⟩
end
noncomputable abbrev Sp := List V → Hp → VK → XK → Prop
noncomputable abbrev CXT := List Env → Hp → Shared → XK → Value → Shared → Prop
structure Env0 (P : Program) (w : World) (K : PySem.W.Frag) (mg : Str → Option Value) (base : Heap) (A : Around) (outer : List Env) (s : Shared) (H : Hp) : Prop where
  frames : A.frames = some outer
  mod : Mod K mg base
  bs : ∀ b o, base.get? b = some o → s.heap.get? b = some o ∧ H b = none
  bsz : base.objs.size ≤ s.heap.objs.size
  funs : s.heap.FunFrames base outer
  frf : ∀ b ∈ frs outer, H b = none
  hok : HOk P w H s.heap
  bare : AllBare s.gens
noncomputable def CE (outer : List Env) (P : Program) (w : World) (H : Hp) (s : Shared) (Q : VK) (u : Value) (s' : Shared) : Prop :=
  ∃ v H', s'.os = s.os ∧ AllBare s'.gens ∧ Un (frs outer) [] H H' s.heap s'.heap ∧ HOk P w H' s'.heap ∧ RelV v u ∧ Q v H'
noncomputable def CR (CX : CXT) (outer : List Env) (P : Program) (w : World) (H : Hp) (s : Shared) (Q : VK) (E : XK) (r : Result) (s' : Shared) : Prop :=
  match r with
  | .ok (.ret u) => CE outer P w H s Q u s'
  | .ok _ => False
  | .error e => CX outer H s E e s'
structure FnOk (P : Program) (w : World) (K : PySem.W.Frag) (mg : Str → Option Value) (base : Heap) (CX : CXT) (k : Nat) (f : Addr) (fd : FuncData) (ps : List Str) (sp : Sp) : Prop where
  len : ∀ vs H Q E, sp vs H Q E → vs.length = ps.length
  run : ∀ (A : Around) (outer : List Env) (s : Shared) (H : Hp) (args : Args) (us : List Value) (vs : List V) (Q : VK) (E : XK), Room k A → Env0 P w K mg base A outer s H → BindsTo s fd args (ps.zip us) → Vals vs us → sp vs H Q E →
    codeAny (model P w) A (.call (.ref f) args) (CR CX outer P w H s Q E) s
theorem FnOk.imp {P : Program} {w : World} {K : PySem.W.Frag} {mg : Str → Option Value} {base : Heap} {CX : CXT} {k : Nat} {f : Addr} {fd : FuncData} {ps : List Str} {sp sp' : Sp} (F : FnOk P w K mg base CX k f fd ps sp)
    (h : ∀ vs H Q E, sp' vs H Q E → sp vs H Q E) : FnOk P w K mg base CX k f fd ps sp' :=
  ⟨fun vs H Q E q => F.len vs H Q E (h _ _ _ _ q), fun A outer s H args us vs Q E hr he hb hv hs => F.run A outer s H args us vs Q E hr he hb hv (h _ _ _ _ hs)⟩
section
variable {X : Cx} {pins : List (Addr × Obj)} {σ : St} {H : Hp} {s s' : Shared}
theorem Inv.env0 (I : Inv X pins σ H s) : Env0 X.prog X.w X.K X.mg X.base X.A X.stack s H :=
  ⟨I.ok.frames, I.ok.mod, I.bs, Nat.le_trans I.ok.bsz I.sz, I.stack, I.stkFree, I.hok, I.bare⟩
theorem Inv.after {Q : VK} {u : Value} (I : Inv X pins σ H s) (h : CE X.stack X.prog X.w H s Q u s') : EP X pins σ Q u s' := by
  obtain ⟨v, H', os, bare, un, hok, r, q⟩ := h
  obtain ⟨hh, g, d, t, os'⟩ := s'
  obtain rfl : os' = s.os := os
  exact ⟨v, H', I.call (h' := hh) (g' := g) (d' := d) (t' := t) (ch := []) un hok bare (fun b z => absurd z (by simp)), r, q⟩
end
noncomputable def tCall (sp : Sp) (dvs : List V) (E : XK) (t : TA) : TE := fun σ H Q => t σ H fun vs H1 => sp (vs ++ dvs) H1 Q E
noncomputable def Binds (K : PySem.W.Frag) (fd : FuncData) (ps : List Str) (ds : List Value) : Prop :=
  ∀ (s : Shared) (us : List Value), K.In s.heap → (us ++ ds).length = ps.length → BindsTo s fd ⟨us, []⟩ (ps.zip (us ++ ds))
theorem Binds.all {K : PySem.W.Frag} {fd : FuncData} {ps : List Str} (h : ∀ us : List Value, us.length = ps.length → bindArgs fd ⟨us, []⟩ = pure (ps.zip us)) : Binds K fd ps [] := fun s us _ hl => by
  rw [List.append_nil] at hl ⊢
  exact .of_eq (h us hl)
noncomputable def Passes (CX : CXT) (X : Cx) (E : XK) : Prop := ∀ (pins : List (Addr × Obj)) (σ : St) (H : Hp) (s : Shared) (e : Value) (s' : Shared), Inv X pins σ H s → CX X.stack H s E e s' → X.xe e s'
section
variable {X : Cx} {CX : CXT} {k : Nat} {f C : Addr} {fd : FuncData} {ps : List Str} {sp : Sp} {dvs : List V} {ds : List Value} {E : XK} {x m : Str} {p pos apos : Pos} {e o : Expr} {es : List Expr} {ta : TE} {t : TA}
theorem run_fn {pins : List (Addr × Obj)} {σ : St} {H : Hp} {s : Shared} {Q : VK} {us : List Value} {vs : List V} (F : FnOk X.prog X.w X.K X.mg X.base CX k f fd ps sp) (hr : Room k X.A) (hb : Binds X.K fd ps ds) (hd : Vals dvs ds) (hx : Passes CX X E)
    (I : Inv X pins σ H s) (r : Vals vs us) (h : sp (vs ++ dvs) H Q E) : wpAny (model X.prog X.w) X.A (call (.ref f) us) (EP X pins σ Q) X.xe s := by
  have r2 : Vals (vs ++ dvs) (us ++ ds) := r.append hd
  have hl : (us ++ ds).length = ps.length := by rw [← r2.length]; exact F.len _ _ _ _ h
  refine wpAny_call (codeAny_mono (F.run X.A X.stack s H ⟨us, []⟩ (us ++ ds) (vs ++ dvs) Q E hr I.env0 (hb s us I.kIn hl) r2 h) fun r s' hq => ?_)
  cases r with
  | error e => exact hx pins σ H s e s' I hq
  | ok fl =>
    cases fl with
    | ret u => exact I.after hq
    | next => exact False.elim hq
    | brk => exact False.elim hq
    | cont => exact False.elim hq
theorem pe_call (F : FnOk X.prog X.w X.K X.mg X.base CX k f fd ps sp) (hr : Room k X.A) (hg : Gl X x) (hm : X.mg x = some (.ref f)) (hk : PySem.W.keepIn X.K (.ref f) = true) (hb : Binds X.K fd ps ds) (hd : Vals dvs ds) (hx : Passes CX X E)
    (ha : PA X (e :: es) t) (hdb : (x == ("__debug__" : Str)) = false := by decide) (he : starEach (e :: es) X.env = (false, eval e X.env) :: starEach es X.env := by rfl) (hpl : (backTo pos (starEach es X.env)).any (·.1) = false := by rfl) :
    PE X (.Call (.Name x p) (e :: es) [] pos) (tCall sp dvs E t) := by
  intro pins s σ H Q I h
  refine wpAny_Call_Name_kw (ld_glob I hg hm ?_ hdb)
  refine PySem.W.callWith_K (h₀ := X.base) I.ok.mod.kin hk (thn (ha pos pins s σ H _ I h) fun us s1 ⟨vs, H1, I1, r, q⟩ => ⟨I1.kIn, ?_⟩) he hpl
  exact run_fn F hr hb hd hx I1 r q
end
section
variable {X : Cx} {CX : CXT} {k : Nat} {f C : Addr} {fd : FuncData} {ps ks : List Str} {sp : Sp} {E : XK} {x m : Str} {p pos apos kpos : Pos} {e o : Expr} {es : List Expr} {kws : List Keyword} {te ta : TE} {t tk : TA} {nm : Option Str}
variable {g : List Value → List Value → List Value} {gV : List V → List V → List V}
end
structure FnScope (N P : List Str) (sc : Scope) : Prop where
  kind : sc.kind = .function
  co : sc.isCoroutine = false
  gen : sc.isGenerator = false
  nd : N.Nodup
  pre : N.take P.length = P
  par : ∀ x ∈ P, sc.names.lookup x = some .local ∨ sc.names.lookup x = some .cell
  nofree : ∀ y ∈ sc.names, y.2 ≠ .free
theorem bindL_out {kindOf : Str → Option NameKind} {x : Str} : ∀ {binds : List (Str × Value)} {m : Str → Option Value}, (∀ v, (x, v) ∉ binds) → bindL kindOf binds m x = m x
  | [], _, _ => rfl
  | (n, v) :: r, m, h => by
    unfold bindL
    rw [bindL_out fun w hw => h w (List.mem_cons_of_mem _ hw)]
    split
    · have : x ≠ n := by rintro rfl; exact h v List.mem_cons_self
      simp [this]
    · rfl
theorem bindC_out {kindOf : Str → Option NameKind} {x : Str} : ∀ {binds : List (Str × Value)} {m : Str → Option Value}, (∀ v, (x, v) ∉ binds) → bindC kindOf binds m x = m x
  | [], _, _ => rfl
  | (n, v) :: r, m, h => by
    unfold bindC
    rw [bindC_out fun w hw => h w (List.mem_cons_of_mem _ hw)]
    split
    · rfl
    · have : x ≠ n := by rintro rfl; exact h v List.mem_cons_self
      simp [this]
theorem bindL_get {kindOf : Str → Option NameKind} {x : Str} {v : Value} : ∀ {P : List Str} {vs : List Value} {i : Nat} {m : Str → Option Value}, P.Nodup → P[i]? = some x → vs[i]? = some v → kindOf x = some .local →
    bindL kindOf (P.zip vs) m x = some v
  | [], _, _, _, _, h, _, _ => by simp at h
  | _ :: _, [], _, _, _, _, h, _ => by simp at h
  | p :: P, w :: vs, 0, m, nd, h1, h2, hk => by
    simp at h1 h2; subst h1; subst h2
    show bindL kindOf ((p, w) :: P.zip vs) m p = _
    unfold bindL
    rw [bindL_out fun v hv => (List.nodup_cons.mp nd).1 (List.of_mem_zip hv).1, if_pos hk]
    simp
  | p :: P, w :: vs, i + 1, m, nd, h1, h2, hk => by
    show bindL kindOf ((p, w) :: P.zip vs) m x = _
    unfold bindL
    exact bindL_get (i := i) (List.nodup_cons.mp nd).2 (by simpa using h1) (by simpa using h2) hk
theorem bindC_get {kindOf : Str → Option NameKind} {x : Str} {v : Value} : ∀ {P : List Str} {vs : List Value} {i : Nat} {m : Str → Option Value}, P.Nodup → P[i]? = some x → vs[i]? = some v → kindOf x ≠ some .local →
    bindC kindOf (P.zip vs) m x = some v
  | [], _, _, _, _, h, _, _ => by simp at h
  | _ :: _, [], _, _, _, _, h, _ => by simp at h
  | p :: P, w :: vs, 0, m, nd, h1, h2, hk => by
    simp at h1 h2; subst h1; subst h2
    show bindC kindOf ((p, w) :: P.zip vs) m p = _
    unfold bindC
    rw [bindC_out fun v hv => (List.nodup_cons.mp nd).1 (List.of_mem_zip hv).1, if_neg hk]
    simp
  | p :: P, w :: vs, i + 1, m, nd, h1, h2, hk => by
    show bindC kindOf ((p, w) :: P.zip vs) m x = _
    unfold bindC
    exact bindC_get (i := i) (List.nodup_cons.mp nd).2 (by simpa using h1) (by simpa using h2) hk
noncomputable def start (N : List Str) (vs : List V) : St := vs.map some ++ List.replicate (N.length - vs.length) none
noncomputable def cxOf (CX : CXT) (P : Program) (w : World) (K : PySem.W.Frag) (mg : Str → Option Value) (base : Heap) (N : List Str) (qual : Str) (scope : Scope) (f : Addr) (cd : Value) (A : Around) (outer : List Env) (s : Shared) (H : Hp) (E : XK) : Cx where
  prog := P
  w := w
  K := K
  mg := mg
  base := base
  A := A.deeper (envOfC qual scope s.heap.objs.size f cd)
  N := N
  s₀ := s
  H₀ := H
  env := envOfC qual scope s.heap.objs.size f cd
  outer := outer
  stack := envOfC qual scope s.heap.objs.size f cd :: outer
  ex := []
  calm := true
  fn := fun _ => true
  pn := []
  xe := fun e s' => wpAny (model P w) (A.deeper (envOfC qual scope s.heap.objs.size f cd)) (leaving (envOfC qual scope s.heap.objs.size f cd) e) (fun _ s'' => CX outer H s E e s'') (fun e' s'' => CX outer H s E e' s'') s'
theorem cell_has {sc : Scope} {n : Nat} {x : Str} (h : sc.names.lookup x = some .cell) : ∃ c, (cellsFrom n sc.names []).lookup x = some c := by
  have q := PySem.W.cellsFrom_some sc.names n [] (.inl h)
  exact Option.isSome_iff_exists.mp q
theorem inv_start {CX : CXT} {P : Program} {w : World} {K : PySem.W.Frag} {mg : Str → Option Value} {base : Heap} {N ps : List Str} {qual : Str} {scope : Scope} {f : Addr} {cd : Value} {A : Around} {outer : List Env} {s s1 : Shared} {H : Hp} {E : XK} {us : List Value} {vs : List V}
    (S : FnScope N ps scope) (hd : A.handled = none) (e0 : Env0 P w K mg base A outer s H) (hl : vs.length = ps.length) (r : Vals vs us)
    (x : InCallC s s.heap.objs.size (bindL (envOfC qual scope s.heap.objs.size f cd).kindOf (ps.zip us) fun _ => none) (cellsFrom (s.heap.objs.size + 1) scope.names []) (bindC (envOfC qual scope s.heap.objs.size f cd).kindOf (ps.zip us) fun _ => none) s1) :
    Inv (cxOf CX P w K mg base N qual scope f cd A outer s H E) [] (start N vs) H s1 := by
  have hpl : ps.length ≤ N.length := by have := congrArg List.length S.pre; rw [List.length_take] at this; omega
  obtain ⟨h1, tk, rfl, hk⟩ := x.done
  have noA : ∀ b : Addr, b ∉ (cxOf CX P w K mg base N qual scope f cd A outer s H E).ex := fun b z => absurd (show b ∈ ([] : List Addr) from z) (by simp)
  refine ⟨⟨e0.mod, S.kind, rfl, rfl, Nat.le_refl _, fun y z c h1 h2 => ?_, fun y hy => ?_, fun y c _ h => ?_, fun _ => hd, Around.frames_deeper e0.frames, .inr ⟨rfl, rfl⟩, fun b z => absurd z (noA b), e0.bs, e0.bsz, fun b _ _ => noA b, fun b z => absurd z (noA b), e0.funs, e0.frf⟩,
    rfl, e0.bare, Un.kept hk, ⟨_, x.toInCall.ns, fun i y v h1 h2 h3 => ?_⟩, fun y c h => ⟨_, x.cell y c h⟩, e0.hok.fresh (Nat.le_refl _), fun y c h => ?_, fun p hp => absurd (show p ∈ ([] : List (Addr × Obj)) from hp) (by simp), e0.hok.kept hk, ?_⟩
  · exact name_of_addr x.apart (PySem.mem_of_lookup h1) (PySem.mem_of_lookup h2)
  · have hy : scope.names.lookup y = some .cell ∨ scope.names.lookup y = some .free := hy
    rcases hy with hy | hy
    · exact cell_has hy
    · exact absurd rfl (S.nofree _ (PySem.mem_of_lookup hy))
  · exact Nat.le_of_lt (x.above y c (PySem.mem_of_lookup h))
  · have hi : i < vs.length := by
      unfold start at h2
      by_cases hi : i < vs.length
      · exact hi
      · rw [List.getElem?_append_right (by simpa using hi)] at h2
        rw [List.getElem?_replicate] at h2
        split at h2 <;> cases h2
    have ha : vs[i]? = some v := by
      unfold start at h2
      rw [List.getElem?_append_left (by simpa using hi), List.getElem?_map] at h2
      cases e : vs[i]? with
      | none => rw [e] at h2; cases h2
      | some a => rw [e] at h2; cases h2; rfl
    obtain ⟨u, hu, rv⟩ := r.get ha
    have hp : ps[i]? = some y := by
      rw [← S.pre, List.getElem?_take_of_lt (by omega)]; exact h1
    have ndP : ps.Nodup := by rw [← S.pre]; exact S.nd.sublist (List.take_sublist _ _)
    refine ⟨u, rv, ?_⟩
    rcases S.par y (List.mem_of_getElem? hp) with k | k
    · exact .inl ⟨k, bindL_get ndP hp hu k⟩
    · obtain ⟨c, e⟩ := cell_has (n := s.heap.objs.size + 1) k
      refine .inr ⟨.inl k, c, e, ?_⟩
      have q := x.cell y c e
      rw [bindC_get ndP hp hu (by show scope.names.lookup y ≠ _; rw [k]; decide)] at q
      exact q
  · exact e0.hok.fresh (Nat.le_of_lt (x.above y c (PySem.mem_of_lookup h)))
  · unfold start
    show _ = N.length
    rw [List.length_append, List.length_map, List.length_replicate]
    omega
theorem fn_of {CX : CXT} {P : Program} {w : World} {K : PySem.W.Frag} {mg : Str → Option Value} {base : Heap} {k : Nat} {f : Addr} {name qual : Str} {params : Arguments} {body : List Stmt} {scope : Scope} {dV kV doc pm cdv ct oc : Value} {an od : Option Addr}
    {osl : Array (Option Value)} {N ps : List Str} {sp : Sp} (lk : K.lookup f = some ⟨oc, od, .func (PySem.W.fnOf name qual params body scope dV kV doc pm an cdv ct), osl⟩) (hcd : PySem.W.codeIn K cdv qual = true) (S : FnScope N ps scope)
    (len : ∀ vs H Q E, sp vs H Q E → vs.length = ps.length)
    (hbody : ∀ (A : Around) (outer : List Env) (s : Shared) (H : Hp) (vs : List V) (Q : VK) (E : XK), Room k (A.deeper (envOfC qual scope s.heap.objs.size f cdv)) → sp vs H Q E →
      ∃ t, PSs (cxOf CX P w K mg base N qual scope f cdv A outer s H E) body t ∧ t { nx := fun _ H' => Q .non H', rt := Q } (start N vs) H) :
    FnOk P w K mg base CX (k + 1) f (PySem.W.fnOf name qual params body scope dV kV doc pm an cdv ct) ps sp := by
  refine ⟨len, fun A outer s H args us vs Q E hr e0 hb r hsp => ?_⟩
  have hl := len _ _ _ _ hsp
  have KX : K.In s.heap := e0.mod.kin.keeps fun b o e => (e0.bs b o e).1
  have lim : s.heap.NoLimit := e0.mod.nolimit.keeps fun b o e => (e0.bs b o e).1
  have hkind : ∀ y ∈ ps.zip us, scope.names.lookup y.1 = some .local ∨ (scope.names.lookup y.1 = some .cell ∧ ((cellsFrom (s.heap.objs.size + 1) scope.names []).lookup y.1).isSome = true) := fun ⟨n, v⟩ hy => by
    rcases S.par n (List.of_mem_zip hy).1 with q | q
    · exact .inl q
    · exact .inr ⟨q, PySem.W.cellsFrom_some _ _ _ (.inl q)⟩
  refine codeAny_call_function hr.depth (KX _ _ lk) rfl S.co S.gen rfl (PySem.W.codeRec_of KX hcd) (hb _ _ _ _ ?_)
  refine wpAny_newFunctionEnv_cells S.kind hkind fun env he s1 x => ?_
  subst he
  refine ⟨lim.keeps x.toInCall.keep, codeAny_func ?_⟩
  obtain ⟨t, ht, hq⟩ := hbody A outer s H vs Q E (hr.deeper _) hsp
  have I : Inv (cxOf CX P w K mg base N qual scope f cdv A outer s H E) [] (start N vs) H s1 := inv_start S hr.hd e0 hl r x
  refine wpAny_mono (ht [] s1 (start N vs) H _ I hq) (fun fl s' hs => ?_) fun e s' hs => hs
  have fin : ∀ {σ' : St} {H' : Hp} {v : V} {u : Value}, Inv (cxOf CX P w K mg base N qual scope f cdv A outer s H E) [] σ' H' s' → RelV v u → Q v H' → CE outer P w H s Q u s' :=
    fun {σ' H' v u} J rv q => ⟨v, H', J.os, J.bare, J.base, J.hok, rv, q⟩
  cases fl with
  | ret u =>
    obtain ⟨v, σ', H', J, rv, q⟩ := hs
    exact fin J rv q
  | next =>
    obtain ⟨σ', H', J, q⟩ := hs
    exact fin (v := V.non) (u := Value.none) J rfl q
  | brk =>
    obtain ⟨_, _, _, q⟩ := hs
    exact False.elim q
  | cont =>
    obtain ⟨_, _, _, q⟩ := hs
    exact False.elim q
end L2
namespace L2
open PySem PySem.Spec PyProof.Rows
section
variable {X : Cx} {x : Str} {p pos : Pos} {e : Expr} {es : List Expr} {t : TA} {id T : String} {r : List V → Hp → VK → Prop}
noncomputable def tCB (r : List V → Hp → VK → Prop) (t : TA) : TE := fun σ H Q => t σ H fun vs H1 => r vs H1 Q
theorem pe_callB (hc : CallR X (.builtin id) r) (hg : Gl X x) (hm : X.mg x = none) (hv : bootBuiltins x = some (.builtin id)) (ha : PA X (e :: es) t) (hn : x ≠ "__name__" := by decide) (hdb : (x == ("__debug__" : Str)) = false := by decide)
    (he : starEach (e :: es) X.env = (false, eval e X.env) :: starEach es X.env := by rfl) (hpl : (backTo pos (starEach es X.env)).any (·.1) = false := by rfl) : PE X (.Call (.Name x p) (e :: es) [] pos) (tCB r t) := by
  intro pins s σ H Q I h
  refine wpAny_Call_Name_kw (ld_blt I hg hm hv ?_ hn hdb)
  exact PyProof.Rows.callWith_builtin1 (thn (ha pos pins s σ H _ I h) fun us s1 ⟨vs, H1, I1, r1, q1⟩ => hc pins s1 σ H1 vs us Q I1 r1 q1) he hpl
theorem pe_callTy (hc : CallR X (.type T) r) (hg : Gl X x) (hm : X.mg x = none) (hv : bootBuiltins x = some (.type T)) (ha : PA X (e :: es) t) (hn : x ≠ "__name__" := by decide) (hdb : (x == ("__debug__" : Str)) = false := by decide)
    (he : starEach (e :: es) X.env = (false, eval e X.env) :: starEach es X.env := by rfl) (hpl : (backTo pos (starEach es X.env)).any (·.1) = false := by rfl) : PE X (.Call (.Name x p) (e :: es) [] pos) (tCB r t) := by
  intro pins s σ H Q I h
  refine wpAny_Call_Name_kw (ld_blt I hg hm hv ?_ hn hdb)
  exact PyProof.Rows.callWith_type1 (thn (ha pos pins s σ H _ I h) fun us s1 ⟨vs, H1, I1, r1, q1⟩ => hc pins s1 σ H1 vs us Q I1 r1 q1) he hpl
end
end L2
namespace HT
open PySem PyProof.Rows
section
open PySem.SeqAt
open PySem.AutoSeq1 (wpAny_loadPart')
open PySem.MeetsSeq PySem.MeetsSeq2 PySem.MeetsSeq3
end
section
variable {prog : Program} {w : World} {A : Around} {E : Value → Shared → Prop} {s : Shared}
theorem cat_tup {t b : Addr} {vs ws : List Value} {Q : Value → Shared → Prop} (ht : IsTup s.heap t vs.toArray) (hb : IsTup s.heap b ws.toArray) (hv : vs ≠ [])
    (h1 : ws = [] → Q (.ref t) s) (h2 : ws ≠ [] → Q (.ref s.heap.objs.size) { s with heap := s.heap.push { cls := .type "tuple", data := .seq (vs ++ ws).toArray } })
    (hsz : vs.length + ws.length ≤ sizeLine) : wpAny (model prog w) A (binaryOp .Add (.ref t) (.ref b)) Q E s := by
  obtain ⟨⟨cls, dd, data, sl⟩, ho, hc, n, hd⟩ := id ht
  obtain ⟨⟨cls2, dd2, data2, sl2⟩, ho2, hc2, n2, hd2⟩ := id hb
  simp only at hc hd hc2 hd2
  subst hc hd hc2 hd2
  have e : vs.toArray ++ ws.toArray = (vs ++ ws).toArray := by simp
  by_cases hw : ws = []
  · exact concat_meets ⟨_, ho, rfl⟩ ⟨_, ho2, rfl⟩ noFill_tuple_add seq_tuple_add PySem.F.slot_tuple_add PySem.F.entry_tuple_add (PySem.F.args_tuple_add_2 _ _)
      (tuple_addW1 t b vs.toArray ws.toArray n n2 dd dd2 sl sl2 (by simpa using hv) (by simp [hw])) ⟨ho, ho2, h1 hw⟩
  · refine concat_meets ⟨_, ho, rfl⟩ ⟨_, ho2, rfl⟩ noFill_tuple_add seq_tuple_add PySem.F.slot_tuple_add PySem.F.entry_tuple_add (PySem.F.args_tuple_add_2 _ _)
      (tuple_addW2 t b vs.toArray ws.toArray n n2 dd dd2 sl sl2 (by simpa using hv) (by simpa using hw) (by rw [List.size_toArray, List.size_toArray]; exact hsz)) ⟨ho, ho2, ?_⟩
    rw [e]
    exact h2 hw
noncomputable def sIx (n d : Nat) : Option Int → Nat
  | none => d
  | some v => if v < 0 then (v + (n : Int)).toNat else min v.toNat n
theorem sIx_none (n d : Nat) : sIx n d none = d := rfl
theorem sIx_nat (n d k : Nat) : sIx n d (some (k : Int)) = min k n := by
  show (if (k : Int) < 0 then ((k : Int) + (n : Int)).toNat else min (k : Int).toNat n) = min k n
  rw [if_neg (by omega), Int.toNat_natCast]
theorem sIx_le (n d : Nat) (hd : d ≤ n) (o : Option Int) : sIx n d o ≤ n := by
  cases o with
  | none => exact hd
  | some v =>
    show (if v < 0 then (v + (n : Int)).toNat else min v.toNat n) ≤ n
    by_cases hv : v < 0
    · rw [if_pos hv]; omega
    · rw [if_neg hv]; exact Nat.min_le_right _ _
theorem clip_eq (v : Int) (n d : Nat) : (if v < 0 then max (v + (n : Int)) 0 else min v (n : Int)) = ((sIx n d (some v) : Nat) : Int) := by
  show (if v < 0 then max (v + (n : Int)) 0 else min v (n : Int)) = (((if v < 0 then (v + (n : Int)).toNat else min v.toNat n) : Nat) : Int)
  by_cases hv : v < 0
  · simp only [if_pos hv]; omega
  · simp only [if_neg hv]; omega
theorem adjust_gen (lo hi : Option Int) (n : Nat) : Builtin.Slice.sliceAdjust lo hi 1 (n : Int) = (((sIx n 0 lo : Nat) : Int), ((sIx n n hi : Nat) : Int)) := by
  have h1 : ¬ ((1 : Int) < 0) := by omega
  unfold Builtin.Slice.sliceAdjust
  simp only [h1, if_false]
  refine Prod.ext ?_ ?_
  · cases lo with
    | none => rfl
    | some v => exact clip_eq v n 0
  · cases hi with
    | none => rfl
    | some v => exact clip_eq v n n
theorem places_gen (i j : Nat) : Builtin.Slice.slicePlaces (i : Int) (j : Int) 1 = j - i := by
  unfold Builtin.Slice.slicePlaces
  have h1 : (1 : Int) > 0 := by omega
  simp only [h1, if_true, Int.ediv_one]
  split <;> omega
theorem slicePart_ {v : Value} {o : Option Int} {Q : Option Int → Shared → Prop} (p : IsPart v o) (h : Q o s) : wpAny (model prog w) A (Builtin.Slice.slicePartIndex v) Q E s := by
  cases p with
  | none => exact slicePart_none h
  | int i t => exact slicePart_int h
theorem sliceApplied_gen {sl : Addr} {vl vu : Value} {lo hi : Option Int} {n : Nat} {Q : Int × Int × Nat → Shared → Prop} (hs : s.heap.IsSliceOf sl vl vu .none) (pl : IsPart vl lo) (pu : IsPart vu hi)
    (h : Q (((sIx n 0 lo : Nat) : Int), 1, sIx n n hi - sIx n 0 lo) s) : wpAny (model prog w) A (Builtin.Slice.sliceApplied (.ref sl) (pure (n : Int))) Q E s := by
  obtain ⟨os, hos, hcs, hds⟩ := id hs
  unfold Builtin.Slice.sliceApplied Builtin.Slice.sliceFields
  refine wpAny_bind (wpAny_bind (wpAny_field hos hds (x := vl) rfl (wpAny_bind (wpAny_field hos hds (x := vu) rfl (wpAny_bind (wpAny_field hos hds (x := .none) rfl (wpAny_pure ?_)))))))
  refine wpAny_bind (slicePart_none ?_)
  show wpAny _ _ (if ((1 : Int) == 0) = true then _ else _) _ _ s
  rw [if_neg (by decide)]
  refine wpAny_bind (slicePart_ pl (wpAny_bind (slicePart_ pu (wpAny_bind (wpAny_pure ?_)))))
  show wpAny _ _ (match Builtin.Slice.sliceAdjust lo hi 1 (n : Int) with | (lo, hi) => pure (lo, (1 : Int), Builtin.Slice.slicePlaces lo hi 1)) _ _ s
  rw [adjust_gen lo hi n]
  show wpAny _ _ (pure (((sIx n 0 lo : Nat) : Int), (1 : Int), Builtin.Slice.slicePlaces ((sIx n 0 lo : Nat) : Int) ((sIx n n hi : Nat) : Int) 1)) _ _ s
  rw [places_gen]
  exact wpAny_pure h
theorem pick_gen (xs : Array Value) (i k : Nat) : ((List.range k).filterMap fun (m : Nat) => xs[((i : Int) + (m : Int) * 1).toNat]?).toArray = ((xs.toList.drop i).take k).toArray := by
  have e : (fun (m : Nat) => xs[((i : Int) + (m : Int) * 1).toNat]?) = fun m => xs[i + m]? := by
    funext m
    have : ((i : Int) + (m : Int) * 1).toNat = i + m := by omega
    rw [this]
  rw [e]
  have := pick_run xs i k
  rw [List.filterMap_map] at this
  have e2 : ((fun x => xs[x]?) ∘ fun x => i + x) = fun m => xs[i + m]? := rfl
  rw [e2] at this
  rw [this]
theorem getItem_tuple_cut {t sl : Addr} {items : Array Value} {vl vu : Value} {lo hi : Option Int} {Q : Value → Shared → Prop} (ht : IsTup s.heap t items) (hs : s.heap.IsSliceOf sl vl vu .none) (pl : IsPart vl lo) (pu : IsPart vu hi)
    (hw : ¬ (sIx items.size 0 lo = 0 ∧ sIx items.size items.size hi = items.size))
    (h : Q (.ref s.heap.objs.size) { s with heap := s.heap.push { cls := .type "tuple", data := .seq ((items.toList.drop (sIx items.size 0 lo)).take (sIx items.size items.size hi - sIx items.size 0 lo)).toArray } })
    (hsz : items.size ≤ sizeLine) : wpAny (model prog w) A (getItem (.ref t) (.ref sl)) Q E s := by
  have htake : sizeOk (.seq ((items.toList.drop (sIx items.size 0 lo)).take (sIx items.size items.size hi - sIx items.size 0 lo)).toArray) := by
    show ((items.toList.drop (sIx items.size 0 lo)).take (sIx items.size items.size hi - sIx items.size 0 lo)).toArray.size ≤ sizeLine
    rw [List.size_toArray, List.length_take, List.length_drop, Array.length_toList]
    omega
  have hj : sIx items.size items.size hi ≤ items.size := sIx_le _ _ (Nat.le_refl _) hi
  obtain ⟨os, hos, hcs, hds⟩ := id hs
  have hTs : s.TypeIs (.ref sl) "slice" := ⟨os, hos, hcs⟩
  unfold getItem
  try with_reducible refine wpAny_holding ?_
  first | refine wpAny_bind (wpAny_pure ?_) | skip
  refine wpAny_bind (wpAny_sequenceKey ht.typeIs (by decide) ?_)
  refine wpAny_bind (wpAny_callSpecial?_slot (name := Str.ofString "__getitem__") ht.typeIs PyProof.Rows.slot_tuple_getitem
    (wpAny_call_entry PyProof.Rows.slot_tuple_getitem ht.typeIs entry_tuple_getitem ?_ (args_tuple_getitem _ _)))
  show wpAny _ _ (Builtin.Tuple.tupleItemsOf (.ref t) >>= _) _ _ s
  refine wpAny_bind (tupleItemsOf_ ht ?_)
  refine wpAny_bind (wpAny_typeOf hTs ?_)
  rw [if_pos (by decide)]
  refine wpAny_bind (sliceApplied_gen hs pl pu ?_)
  have hno : ¬ ((((sIx items.size 0 lo : Nat) : Int) == 0 && (1 : Int) == 1 && (sIx items.size items.size hi - sIx items.size 0 lo) == items.size) = true) := by
    intro q
    rw [Bool.and_eq_true, Bool.and_eq_true] at q
    have q1 : ((sIx items.size 0 lo : Nat) : Int) = 0 := eq_of_beq q.1.1
    have q2 : sIx items.size items.size hi - sIx items.size 0 lo = items.size := eq_of_beq q.2
    exact hw ⟨by omega, by omega⟩
  show wpAny _ _ (if (((sIx items.size 0 lo : Nat) : Int) == 0 && (1 : Int) == 1 && (sIx items.size items.size hi - sIx items.size 0 lo) == items.size) = true then _ else _) _ _ s
  rw [if_neg hno, pick_gen]
  first
    | exact wpAny_bind (m := Builtin.Tuple.tupleExact _) (wpAny_newObj_type (wpAny_pure ⟨_, rfl, wpAny_pure h⟩) htake)
    | exact wpAny_bind (m := Builtin.Tuple.tupleExact _) (wpAny_newObj_type (wpAny_bind (wpAny_pure (wpAny_pure ⟨_, rfl, wpAny_pure h⟩))) htake)
    | exact wpAny_bind (wpAny_bind (m := Builtin.Tuple.tupleExact _) (wpAny_newObj_type (wpAny_pure (wpAny_pure ⟨_, rfl, wpAny_pure h⟩)) htake))
    | exact wpAny_bind (wpAny_bind (m := Builtin.Tuple.tupleExact _) (wpAny_newObj_type (wpAny_pure ⟨_, rfl, wpAny_pure h⟩) htake))
end
end HT
namespace L2
open PySem PySem.Spec PyProof.Rows
noncomputable abbrev TO := St → Hp → (Option Int → Hp → Prop) → Prop
noncomputable def PO (X : Cx) (e : Option Expr) (t : TO) : Prop :=
  ∀ (pins : List (Addr × Obj)) (s : Shared) (σ : St) (H : Hp) (Q : Option Int → Hp → Prop), Inv X pins σ H s → t σ H Q →
    wpAny (model X.prog X.w) X.A (evalPart e X.env) (fun u s' => ∃ o H', Inv X pins σ H' s' ∧ IsPart u o ∧ Q o H') X.xe s
noncomputable def tNoPart : TO := fun _ H Q => Q none H
noncomputable def tPart (t : TE) : TO := fun σ H Q => t σ H fun x H1 => ∃ i, x = .int i ∧ Q (some i) H1
section
variable {X : Cx} {e : Expr} {te : TE} {lo hi : Option Expr} {tl th : TO} {pos p2 : Pos}
theorem po_none : PO X none tNoPart := by
  intro pins s σ H Q I h
  rw [evalPart_none]
  exact wpAny_pure ⟨none, H, I, .none, h⟩
theorem po_some (h : PE X e te) : PO X (some e) (tPart te) := by
  intro pins s σ H Q I hw
  rw [evalPart_some]
  refine thn (h pins s σ H _ I hw) fun u s1 ⟨x, H1, I1, r1, q1⟩ => ?_
  obtain ⟨i, rfl, q⟩ := q1
  obtain ⟨t, rfl⟩ := r1
  exact ⟨some i, H1, I1, .int i t, q⟩
noncomputable def SlR (X : Cx) (r : V → Option Int → Option Int → Hp → VK → Prop) : Prop :=
  ∀ (pins : List (Addr × Obj)) (s : Shared) (σ : St) (H : Hp) (x : V) (v vl vu : Value) (lo hi : Option Int) (sl : Addr) (Q : VK), Inv X pins σ H s → RelV x v → s.heap.IsSliceOf sl vl vu .none → IsPart vl lo → IsPart vu hi → r x lo hi H Q →
    ∃ T id, typeLookup (.type T) "__getitem__" = pure (some (.builtin id)) ∧ s.TypeIs v T ∧ wpAny (model X.prog X.w) X.A (getItem v (.ref sl)) (EP X pins σ Q) X.xe s
theorem SlR.or {r r' : V → Option Int → Option Int → Hp → VK → Prop} (h : SlR X r) (h' : SlR X r') : SlR X (fun x lo hi H Q => r x lo hi H Q ∨ r' x lo hi H Q) := by
  intro pins s σ H x v vl vu lo hi sl Q I rx hs pl pu q
  rcases q with q | q
  · exact h pins s σ H x v vl vu lo hi sl Q I rx hs pl pu q
  · exact h' pins s σ H x v vl vu lo hi sl Q I rx hs pl pu q
noncomputable def tSl (r : V → Option Int → Option Int → Hp → VK → Prop) (te : TE) (tl th : TO) : TE := fun σ H Q => te σ H fun x H1 => tl σ H1 fun l H2 => th σ H2 fun u H3 => r x l u H3 Q
theorem pe_slice {r : V → Option Int → Option Int → Hp → VK → Prop} (hr : SlR X r) (he : PE X e te) (hl : PO X lo tl) (hu : PO X hi th) : PE X (.Subscript e (.Slice lo hi none p2) pos) (tSl r te tl th) := by
  intro pins s σ H Q I h
  refine Subscript_ (thn (he pins s σ H _ I h) fun v s1 ⟨x, H1, I1, r1, q1⟩ => ?_)
  refine wpAny_Slice (thn (hl pins s1 σ H1 _ I1 q1) fun vl s2 ⟨l, H2, I2, pl, q2⟩ => thn (hu pins s2 σ H2 _ I2 q2) fun vu s3 ⟨u, H3, I3, pu, q3⟩ => ?_)
  rw [evalPart_none]
  refine wpAny_pure ?_
  have I4 : Inv X pins σ H3 { s3 with heap := s3.heap.push { cls := .type "slice", data := .fields #[vl, vu, .none] } } := I3.kept (t' := s3.toks) fun b ob q => Heap.get?_push_of_some _ q
  obtain ⟨T, id, hT, ht, hg⟩ := hr pins { s3 with heap := s3.heap.push { cls := .type "slice", data := .fields #[vl, vu, .none] } } σ H3 x v vl vu l u s3.heap.objs.size Q I4 r1 (Heap.IsSliceOf.new ..) pl pu q3
  show wpAny (model X.prog X.w) X.A (subscriptTail e (.Slice lo hi none p2) v (.ref s3.heap.objs.size)) (EP X pins σ Q) X.xe { s3 with heap := s3.heap.push { cls := .type "slice", data := .fields #[vl, vu, .none] } }
  exact tail_any (ops := [.ref s3.heap.objs.size, v]) ht hT hg (by with_unfolding_all rfl)
noncomputable def cutV (xs : List V) (lo hi : Option Int) : List V := (xs.drop (HT.sIx xs.length 0 lo)).take (HT.sIx xs.length xs.length hi - HT.sIx xs.length 0 lo)
theorem cutV_length (xs : List V) (lo hi : Option Int) : (cutV xs lo hi).length ≤ xs.length := by
  unfold cutV
  rw [List.length_take, List.length_drop]
  omega
noncomputable def rSlT (K : PySem.W.Frag) : V → Option Int → Option Int → Hp → VK → Prop := fun x lo hi H Q => ∃ a xs, x = .ref a ∧ SqT K H a xs ∧
  ¬ (HT.sIx xs.length 0 lo = 0 ∧ HT.sIx xs.length xs.length hi = xs.length) ∧ ∀ p, H p = none → Q (.ref p) (upd H p (.tup (cutV xs lo hi)))
theorem sl_tup : SlR X (rSlT X.K) := by
  intro pins s σ H x v vl vu lo hi sl Q I rx hs pl pu h
  obtain ⟨a, xs, rfl, hx, hw, q⟩ := h
  cases rx
  obtain ⟨its, r, ht, hz⟩ := I.tuple hx
  have hlen : its.toArray.size = xs.length := by rw [List.size_toArray]; exact r.length.symm
  refine ⟨"tuple", _, PyProof.Rows.slot_tuple_getitem.lookup, ht.typeIs, ?_⟩
  refine HT.getItem_tuple_cut ht hs pl pu (by rw [hlen]; exact hw) ?_ (by rw [hlen]; exact hz)
  rw [hlen]
  refine ⟨.ref s.heap.objs.size, _, I.laid (t' := s.toks) (o := .tup (cutV xs lo hi)) (fun b ob q => Heap.get?_push_of_some _ q) (Nat.le_refl _) ?_, rfl, q _ (I.hok.fresh (Nat.le_refl _))⟩
  exact ⟨Nat.le_trans (cutV_length xs lo hi) hz, _, (r.drop (HT.sIx xs.length 0 lo)).take (HT.sIx xs.length xs.length hi - HT.sIx xs.length 0 lo), IsTup.new _ _⟩
noncomputable def rCatT (K : PySem.W.Frag) : R2 := fun x y H Q => ∃ a b xs ys, x = .ref a ∧ y = .ref b ∧ SqT K H a xs ∧ SqT K H b ys ∧ xs ≠ [] ∧ xs.length + ys.length ≤ sizeLine ∧
  (ys = [] → Q (.ref a) H) ∧ (ys ≠ [] → ∀ p, H p = none → Q (.ref p) (upd H p (.tup (xs ++ ys))))
theorem Vals.nil_iff {xs : List V} {us : List Value} (r : Vals xs us) : us = [] ↔ xs = [] := by
  cases r with
  | nil => simp
  | cons _ _ => simp
theorem op_catT : OpR X (binaryOp .Add) (rCatT X.K) := by
  intro pins s σ H x y v u Q I rx ry h
  obtain ⟨a, b, xs, ys, rfl, rfl, ha, hb, hx, hz, q1, q2⟩ := h
  cases rx
  cases ry
  obtain ⟨its, r1, p1, _⟩ := I.tuple ha
  obtain ⟨its2, r2, p2, _⟩ := I.tuple hb
  refine HT.cat_tup p1 p2 (fun z => hx (r1.nil_iff.mp z)) (fun z => ⟨.ref a, H, I, rfl, q1 (r2.nil_iff.mp z)⟩) (fun z => ?_) (by rw [← r1.length, ← r2.length]; exact hz)
  refine ⟨.ref s.heap.objs.size, _, I.laid (t' := s.toks) (o := .tup (xs ++ ys)) (fun b ob q => Heap.get?_push_of_some _ q) (Nat.le_refl _) ?_, rfl, q2 (fun w => z (r2.nil_iff.mpr w)) _ (I.hok.fresh (Nat.le_refl _))⟩
  exact ⟨by rw [List.length_append]; exact hz, _, r1.append r2, IsTup.new _ _⟩
end
end L2
namespace L2
open PySem PySem.Spec PyProof.Rows
noncomputable def ixN (n : Nat) (i : Int) : Option Nat := if 0 ≤ i then (if i < n then some i.toNat else none) else if -(n : Int) ≤ i then some (i + n).toNat else none
noncomputable def atI {α : Type} (xs : List α) (i : Int) : Option α := (ixN xs.length i).bind fun j => xs[j]?
theorem ixN_seq {n : Nat} {i : Int} {j : Nat} (h : ixN n i = some j) : seqIndex? i n = some j ∧ j < n ∧ -(n : Int) ≤ i ∧ i < n := by
  unfold ixN at h
  by_cases h0 : 0 ≤ i
  · rw [if_pos h0] at h
    by_cases h1 : i < n
    · rw [if_pos h1] at h
      have e : i.toNat = j := Option.some.inj h
      exact ⟨by rw [seqIndex_of h0 h1, e], by omega, by omega, h1⟩
    · rw [if_neg h1] at h; cases h
  · rw [if_neg h0] at h
    by_cases h1 : -(n : Int) ≤ i
    · rw [if_pos h1] at h
      have e : (i + n).toNat = j := Option.some.inj h
      exact ⟨by rw [seqIndex_neg (by omega) h1, e], by omega, h1, by omega⟩
    · rw [if_neg h1] at h; cases h
theorem atI_get {α : Type} {xs : List α} {i : Int} {v : α} (h : atI xs i = some v) : ∃ j, seqIndex? i xs.length = some j ∧ xs[j]? = some v ∧ j < xs.length ∧ -(xs.length : Int) ≤ i ∧ i < xs.length := by
  unfold atI at h
  cases e : ixN xs.length i with
  | none => rw [e] at h; cases h
  | some j =>
    rw [e] at h
    obtain ⟨h1, h2, h3, h4⟩ := ixN_seq e
    exact ⟨j, h1, h, h2, h3, h4⟩
theorem atI_nat {α : Type} {xs : List α} {j : Nat} {v : α} (h : xs[j]? = some v) : atI xs (j : Int) = some v := by
  have hj : j < xs.length := (List.getElem?_eq_some_iff.mp h).1
  have e : ixN xs.length (j : Int) = some j := by
    unfold ixN
    rw [if_pos (by omega), if_pos (by omega)]; simp
  unfold atI; rw [e]; exact h
noncomputable def PlainIx (b : Expr) : Prop := ∀ o i, subscripted b false o i = operate [o, i] (getItem o i)
noncomputable def IxR (X : Cx) (r : R2) : Prop :=
  ∀ (value slice : Expr) (pins : List (Addr × Obj)) (s : Shared) (σ : St) (H : Hp) (x y : V) (v u : Value) (Q : VK), Inv X pins σ H s → RelV x v → RelV y u → r x y H Q →
    subscripted slice false v u = operate [v, u] (getItem v u) → wpAny (model X.prog X.w) X.A (subscriptTail value slice v u) (EP X pins σ Q) X.xe s
noncomputable def MtR (X : Cx) (id : String) (r : V → List V → Hp → VK → Prop) : Prop :=
  ∀ (pins : List (Addr × Obj)) (s : Shared) (σ : St) (H : Hp) (x : V) (xs : List V) (v : Value) (us : List Value) (Q : VK), Inv X pins σ H s → RelV x v → Vals xs us → r x xs H Q →
    wpAny (model X.prog X.w) X.A (call (.builtin id) (v :: us)) (EP X pins σ Q) X.xe s
section
variable {X : Cx} {a b : Expr} {ta tb : TE} {pos : Pos}
theorem IxR.or {r r' : R2} (h : IxR X r) (h' : IxR X r') : IxR X (fun x y H Q => r x y H Q ∨ r' x y H Q) := by
  intro value slice pins s σ H x y v u Q I rx ry q hs
  rcases q with q | q
  · exact h value slice pins s σ H x y v u Q I rx ry q hs
  · exact h' value slice pins s σ H x y v u Q I rx ry q hs
theorem pe_ix {r : R2} (hr : IxR X r) (ha : PE X a ta) (hb : PE X b tb) (hs : PlainIx b) : PE X (.Subscript a b pos) (tOp r ta tb) := by
  intro pins s σ H Q I h
  exact Subscript_ (binT ha hb I h fun v u s2 x y H2 I2 rx ry q => hr a b pins s2 σ H2 x y v u Q I2 rx ry q (hs _ _))
noncomputable def rIxL (K : PySem.W.Frag) : R2 := fun x y H Q => ∃ p xs i v, x = .ref p ∧ y = .int i ∧ SqL K H p xs ∧ atI xs i = some v ∧ Q v H
noncomputable def rIxT (K : PySem.W.Frag) : R2 := fun x y H Q => ∃ p xs i v, x = .ref p ∧ y = .int i ∧ SqT K H p xs ∧ atI xs i = some v ∧ Q v H
noncomputable def rIxS : R2 := fun x y H Q => ∃ z i c, x = .str z ∧ y = .int i ∧ z.length ≤ sizeLine ∧ atI z.cps.toList i = some c ∧ Q (.str ⟨#[c]⟩) H
theorem ix_list : IxR X (rIxL X.K) := by
  intro value slice pins s σ H x y v u Q I rx ry h hs
  obtain ⟨p, xs, i, z, rfl, rfl, hq, he, q⟩ := h
  cases rx
  obtain ⟨t, rfl⟩ := ry
  obtain ⟨its, r, pl, hz⟩ := I.list hq
  obtain ⟨j, h1, h2, h3, h4, h5⟩ := atI_get he
  obtain ⟨w, ew, rw'⟩ := r.get h2
  have hl := r.length
  have hn := line63
  have fin : EP X pins σ Q w s := ⟨z, H, I, rw', q⟩
  by_cases h0 : 0 ≤ i
  · have hj : i.toNat = j := by
      rw [seqIndex_of h0 h5] at h1
      exact Option.some.inj h1
    exact item_listR pl.isList h0 (by omega) (by rw [hj]; simpa using ew) fin hs
  · have hj : (i + (its.toArray.size : Int)).toNat = j := by
      rw [seqIndex_neg (by omega) h4] at h1
      rw [List.size_toArray, ← hl]
      exact Option.some.inj h1
    exact subscriptTail_builtinR (x := w) pl.isList.typeIs slot_list_getitem.lookup
      (wpAny_getItem_list_neg (Q := fun r s' => r = w ∧ EP X pins σ Q r s') pl.isList (by omega) (by rw [List.size_toArray] <;> omega) (by omega) (by rw [hj]; simpa using ew) ⟨rfl, fin⟩) hs
theorem ix_tup : IxR X (rIxT X.K) := by
  intro value slice pins s σ H x y v u Q I rx ry h hs
  obtain ⟨p, xs, i, z, rfl, rfl, hq, he, q⟩ := h
  cases rx
  obtain ⟨t, rfl⟩ := ry
  obtain ⟨its, r, pl, hz⟩ := I.tuple hq
  obtain ⟨j, h1, h2, h3, h4, h5⟩ := atI_get he
  obtain ⟨w, ew, rw'⟩ := r.get h2
  have hl := r.length
  have hn := line63
  have fin : EP X pins σ Q w s := ⟨z, H, I, rw', q⟩
  exact subscriptTail_builtinR (x := w) pl.typeIs slot_tuple_getitem.lookup
    (getItem_tuple (j := j) (Q := fun r s' => r = w ∧ EP X pins σ Q r s') pl (by omega) (by omega) (by rw [List.size_toArray, ← hl]; exact h1) (by simpa using ew) ⟨rfl, fin⟩) hs
theorem ix_str : IxR X rIxS := by
  intro value slice pins s σ H x y v u Q I rx ry h hs
  obtain ⟨z, i, c, rfl, rfl, hz, he, q⟩ := h
  obtain ⟨t, rfl⟩ := rx
  obtain ⟨t', rfl⟩ := ry
  obtain ⟨j, h1, h2, h3, h4, h5⟩ := atI_get he
  have hl : z.cps.toList.length = z.length := by simp [Str.length]
  rw [hl] at h1 h4 h5
  have hn := line63
  exact tail_any (typeIs_str s z t) slot_str_getitem.lookup (getItem_str (c := c) (by
    have e1 : decide (i < -(2 ^ 63 : Int)) = false := decide_eq_false (by omega)
    have e2 : decide (i ≥ 2 ^ 63) = false := decide_eq_false (by omega)
    rw [e1, e2, Bool.or_false]) (by rw [h1]; simpa using h2) ⟨.str ⟨#[c]⟩, H, I.tok _, ⟨_, rfl⟩, q⟩) hs
noncomputable def rIx (K : PySem.W.Frag) : R2 := fun x y H Q => rIxL K x y H Q ∨ rIxT K x y H Q ∨ rIxS x y H Q
theorem ix_seq : IxR X (rIx X.K) := ix_list.or (ix_tup.or ix_str)
theorem mapSeq_set (its : List Value) (n j : Nat) (u : Value) : Obj.mapSeq (·.setIfInBounds j u) { cls := .type "list", data := .seq its.toArray n } = { cls := .type "list", data := .seq (its.set j u).toArray n } := by
  simp [Obj.mapSeq]
theorem Inv.lst {pins : List (Addr × Obj)} {σ : St} {H : Hp} {s : Shared} {p : Addr} {xs : List V} (I : Inv X pins σ H s) (h : H p = some (.lst xs)) :
    ∃ (its : List Value) (n : Nat), Vals xs its ∧ s.heap.get? p = some { cls := .type "list", data := .seq its.toArray n } ∧ xs.length ≤ sizeLine := by
  obtain ⟨z, its, n, r, e⟩ := I.hok p _ h
  exact ⟨its, n, r, e, z⟩
theorem Inv.lstUpd {pins : List (Addr × Obj)} {σ : St} {H : Hp} {s : Shared} {p : Addr} {xs ys : List V} {its its' : List Value} {n n' : Nat} {f : Obj → Obj} (I : Inv X pins σ H s) (h : H p = some (.lst xs))
    (ho : s.heap.get? p = some { cls := .type "list", data := .seq its.toArray n }) (hf : f { cls := .type "list", data := .seq its.toArray n } = { cls := .type "list", data := .seq its'.toArray n' }) (r : Vals ys its') (hz : ys.length ≤ sizeLine) (t : Nat) :
    Inv X pins σ (upd H p (.lst ys)) { s with heap := s.heap.update p f, toks := t } := by
  have e : (s.heap.update p f).get? p = some { cls := .type "list", data := .seq its'.toArray n' } := by
    rw [Heap.get?_update_self f ho (by rw [hf] <;> rfl), hf]
  refine I.write (x := p) (e := p) (by rw [h]; trivial) (.inl rfl) (fun b u hb q => (Heap.get?_update_other _ _ (Ne.symm hb)).trans q) ⟨_, e⟩ ?_
  exact ⟨hz, its', n', r, e⟩
noncomputable def rSetL : V → V → V → Hp → (Hp → Prop) → Prop := fun o i v H Q => ∃ p xs k j, o = .ref p ∧ i = .int k ∧ H p = some (.lst xs) ∧ ixN xs.length k = some j ∧ Q (upd H p (.lst (xs.set j v)))
theorem set_list : PSet X rSetL := by
  intro pins s σ H o i v ov iv u Q I ro ri rv h
  obtain ⟨p, xs, k, j, rfl, rfl, hp, hj, q⟩ := h
  cases ro
  obtain ⟨t, rfl⟩ := ri
  obtain ⟨its, n, r, ho, hz⟩ := I.lst hp
  obtain ⟨h1, h2, h3, h4⟩ := ixN_seq hj
  have hl := r.length
  have hn := line63
  have I' : Inv X pins σ (upd H p (.lst (xs.set j v))) { s with heap := s.heap.update p (Obj.mapSeq (·.setIfInBounds j u)) } :=
    I.lstUpd hp ho (mapSeq_set its n j u) (r.set rv j) (by rw [List.length_set]; exact hz) s.toks
  by_cases h0 : 0 ≤ k
  · have hk : k.toNat = j := by
      rw [seqIndex_of h0 h4] at h1
      exact Option.some.inj h1
    exact PySem.W.ki_setAt ho h0 (by omega) (by rw [List.size_toArray, ← hl]; exact h4) (by rw [hk]; exact ⟨_, I', q⟩)
  · have hk : (k + (its.toArray.size : Int)).toNat = j := by
      rw [seqIndex_neg (by omega) h3] at h1
      rw [List.size_toArray, ← hl]
      exact Option.some.inj h1
    exact PySem.W.ki_setBack ho (by omega) (by rw [List.size_toArray, ← hl]; exact h3) (by omega) (by rw [hk]; exact ⟨_, I', q⟩)
theorem slice_bounds (lo hi : Option Int) (n : Nat) : (sliceBounds lo hi none n).1 = ((HT.sIx n 0 lo : Nat) : Int) ∧ (sliceBounds lo hi none n).2.1 = ((HT.sIx n n hi : Nat) : Int) ∧ (sliceBounds lo hi none n).2.2 = 1 := by
  refine ⟨?_, ?_, rfl⟩
  · cases lo with
    | none => simp [sliceBounds, HT.sIx]
    | some i =>
      simp only [sliceBounds, HT.sIx, Option.getD_none, show (1 : Int) > 0 by decide, if_true]
      by_cases h : i < 0
      · simp only [h, if_true] <;> omega
      · simp only [h, if_false] <;> omega
  · cases hi with
    | none => simp [sliceBounds, HT.sIx]
    | some i =>
      simp only [sliceBounds, HT.sIx, Option.getD_none, show (1 : Int) > 0 by decide, if_true]
      by_cases h : i < 0
      · simp only [h, if_true] <;> omega
      · simp only [h, if_false] <;> omega
theorem slicePick_cut (its : List Value) (lo hi : Option Int) : slicePick its.toArray lo hi none = ((its.drop (HT.sIx its.length 0 lo)).take (HT.sIx its.length its.length hi - HT.sIx its.length 0 lo)).toArray := by
  obtain ⟨h1, h2, h3⟩ := slice_bounds lo hi its.toArray.size
  unfold slicePick
  rw [h1, h2, h3]
  simp only [sliceRange_one, pick_run, List.size_toArray] <;> rfl
noncomputable def rSlL (K : PySem.W.Frag) : V → Option Int → Option Int → Hp → VK → Prop := fun x lo hi H Q => ∃ a xs, x = .ref a ∧ SqL K H a xs ∧ ∀ p, H p = none → Q (.ref p) (upd H p (.lst (cutV xs lo hi)))
theorem sl_list : SlR X (rSlL X.K) := by
  intro pins s σ H x v vl vu lo hi sl Q I rx hs pl pu h
  obtain ⟨a, xs, rfl, hx, q⟩ := h
  cases rx
  obtain ⟨its, r, ht, hz⟩ := I.list hx
  have hlen := r.length
  refine ⟨"list", _, slot_list_getitem.lookup, ht.isList.typeIs, ?_⟩
  refine wpAny_getItem_list_slice ht.isList hs pl pu .none (by simp) ?_ (by rw [List.size_toArray] <;> omega)
  rw [slicePick_cut, ← hlen]
  refine ⟨.ref s.heap.objs.size, _, I.laid (t' := s.toks) (o := .lst (cutV xs lo hi)) (fun b ob q => Heap.get?_push_of_some _ q) (Nat.le_refl _) ?_, rfl, q _ (I.hok.fresh (Nat.le_refl _))⟩
  exact ⟨Nat.le_trans (cutV_length xs lo hi) hz, _, 0, (r.drop (HT.sIx xs.length 0 lo)).take (HT.sIx xs.length xs.length hi - HT.sIx xs.length 0 lo), Heap.get?_push_size _ rfl⟩
noncomputable def flatV : V → Bool
  | .non => true
  | .bl _ => true
  | .int _ => true
  | .str _ => true
  | _ => false
noncomputable def eqV : V → V → Bool
  | .non, .non => true
  | .bl a, .bl b => a == b
  | .bl a, .int b => (if a then 1 else 0) == b
  | .int a, .bl b => a == (if b then 1 else 0)
  | .int a, .int b => a == b
  | .str a, .str b => a == b
  | _, _ => false
theorem eqAt_V {A : Around} {s : Shared} {y x : V} {u v : Value} (ry : RelV y u) (rx : RelV x v) (fy : flatV y = true) (fx : flatV x = true) : SeqAt.EqAt A s u v (eqV y x) := by
  cases y with
  | non =>
    cases ry
    cases x with
    | non => cases rx; exact SeqAt.EqAt.same _
    | bl b => cases rx; exact SeqAt.EqAt.none_bool b
    | int b => obtain ⟨t, rfl⟩ := rx; exact SeqAt.EqAt.none_int b t
    | str b => obtain ⟨t, rfl⟩ := rx; exact SeqAt.EqAt.none_str b t
    | _ => exact absurd (show false = true from fx) Bool.false_ne_true
  | bl a =>
    cases ry
    cases x with
    | non => cases rx; exact SeqAt.EqAt.bool_none a
    | bl b => cases rx; exact SeqAt.EqAt.bool_bool a b
    | int b => obtain ⟨t, rfl⟩ := rx; exact SeqAt.EqAt.bool_int a b t
    | str b => obtain ⟨t, rfl⟩ := rx; exact SeqAt.EqAt.bool_str a b t
    | _ => exact absurd (show false = true from fx) Bool.false_ne_true
  | int a =>
    obtain ⟨t', rfl⟩ := ry
    cases x with
    | non => cases rx; exact SeqAt.EqAt.int_none a t'
    | bl b => cases rx; exact SeqAt.EqAt.int_bool a t' b
    | int b => obtain ⟨t, rfl⟩ := rx; exact SeqAt.EqAt.int_int a t' b t
    | str b => obtain ⟨t, rfl⟩ := rx; exact SeqAt.EqAt.int_str a t' b t
    | _ => exact absurd (show false = true from fx) Bool.false_ne_true
  | str a =>
    obtain ⟨t', rfl⟩ := ry
    cases x with
    | non => cases rx; exact SeqAt.EqAt.str_none a t'
    | bl b => cases rx; exact SeqAt.EqAt.str_bool a t' b
    | int b => obtain ⟨t, rfl⟩ := rx; exact SeqAt.EqAt.str_int a t' b t
    | str b => obtain ⟨t, rfl⟩ := rx; exact SeqAt.EqAt.str_str a t' b t
    | _ => exact absurd (show false = true from fx) Bool.false_ne_true
  | _ => exact absurd (show false = true from fy) Bool.false_ne_true
noncomputable def eqU (x : V) (u : Value) : Bool := match u with
  | .none => eqV .non x
  | .bool b => eqV (.bl b) x
  | .int i _ => eqV (.int i) x
  | .str z _ => eqV (.str z) x
  | _ => false
theorem eqU_of {x y : V} {u : Value} (r : RelV y u) (f : flatV y = true) : eqU x u = eqV y x := by
  cases y with
  | non => cases r; rfl
  | bl b => cases r; rfl
  | int i => obtain ⟨t, rfl⟩ := r; rfl
  | str z => obtain ⟨t, rfl⟩ := r; rfl
  | _ => exact absurd (show false = true from f) Bool.false_ne_true
theorem any_eqU {x : V} : ∀ {xs : List V} {us : List Value}, Vals xs us → xs.all flatV = true → us.any (eqU x) = xs.any fun y => eqV y x
  | _, _, .nil, _ => rfl
  | y :: xs, u :: us, .cons r t, f => by
    rw [List.all_cons, Bool.and_eq_true] at f
    rw [List.any_cons, List.any_cons, eqU_of r f.1, any_eqU t f.2]
theorem mem_eqAt {A : Around} {s : Shared} {x : V} {v : Value} (rx : RelV x v) (fx : flatV x = true) : ∀ {xs : List V} {us : List Value}, Vals xs us → xs.all flatV = true → ∀ u ∈ us, SeqAt.EqAt A s u v (eqU x u)
  | _, _, .nil, _ => fun u hu => by cases hu
  | y :: xs, u :: us, .cons r t, f => fun u' hu => by
    rw [List.all_cons, Bool.and_eq_true] at f
    rcases List.mem_cons.mp hu with rfl | hu
    · rw [eqU_of r f.1]; exact eqAt_V r rx f.1 fx
    · exact mem_eqAt rx fx t f.2 u' hu
noncomputable def inV (x : V) (xs : List V) : Bool := xs.any fun y => eqV y x
noncomputable def rIn (K : PySem.W.Frag) (neg : Bool) : R2 := fun x y H Q => ∃ p xs, y = .ref p ∧ (SqL K H p xs ∨ SqT K H p xs) ∧ flatV x = true ∧ xs.all flatV = true ∧ Q (.bl (if neg then !inV x xs else inV x xs)) H
theorem op_in_seq : OpR X (compareOp .In) (rIn X.K false) := by
  intro pins s σ H x y v u Q I rx ry h
  obtain ⟨p, xs, rfl, hq, fx, fs, q⟩ := h
  cases ry
  rcases hq with hq | hq
  · obtain ⟨its, r, pl, hz⟩ := I.list hq
    refine SeqAt.in_listAt (eqU x) pl.isList (fun w hw => mem_eqAt rx fx r fs w (by simpa using hw)) ⟨.bl _, H, I, rfl, ?_⟩
    rw [show its.toArray.any (eqU x) = its.any (eqU x) by simp, any_eqU r fs]
    exact q
  · obtain ⟨its, r, pl, hz⟩ := I.tuple hq
    refine SeqAt.in_tupleAt (eqU x) pl (fun w hw => mem_eqAt rx fx r fs w (by simpa using hw)) ⟨.bl _, H, I, rfl, ?_⟩
    rw [show its.toArray.any (eqU x) = its.any (eqU x) by simp, any_eqU r fs]
    exact q
theorem op_notIn_seq : OpR X (compareOp .NotIn) (rIn X.K true) := by
  intro pins s σ H x y v u Q I rx ry h
  obtain ⟨p, xs, rfl, hq, fx, fs, q⟩ := h
  cases ry
  rcases hq with hq | hq
  · obtain ⟨its, r, pl, hz⟩ := I.list hq
    refine SeqAt.notIn_listAt (eqU x) pl.isList (fun w hw => mem_eqAt rx fx r fs w (by simpa using hw)) ⟨.bl _, H, I, rfl, ?_⟩
    rw [show its.toArray.any (eqU x) = its.any (eqU x) by simp, any_eqU r fs]
    exact q
  · obtain ⟨its, r, pl, hz⟩ := I.tuple hq
    refine SeqAt.notIn_tupleAt (eqU x) pl (fun w hw => mem_eqAt rx fx r fs w (by simpa using hw)) ⟨.bl _, H, I, rfl, ?_⟩
    rw [show its.toArray.any (eqU x) = its.any (eqU x) by simp, any_eqU r fs]
    exact q
theorem op_notIn_str : OpR X (compareOp .NotIn) (fun x y H Q => ∃ i j, x = .str i ∧ y = .str j ∧ Q (.bl (!(!(Builtin.Str.occurrences j i 0 j.length 1).isEmpty))) H) := by
  intro pins s σ H x y v u Q I rx ry h
  obtain ⟨i, j, rfl, rfl, q⟩ := h
  obtain ⟨t, rfl⟩ := rx
  obtain ⟨t', rfl⟩ := ry
  exact notIn_str ⟨.bl _, H, I, rfl, q⟩
theorem CallR.or {f : Value} {r r' : List V → Hp → VK → Prop} (h : CallR X f r) (h' : CallR X f r') : CallR X f (fun xs H Q => r xs H Q ∨ r' xs H Q) := by
  intro pins s σ H xs us Q I rs q
  rcases q with q | q
  · exact h pins s σ H xs us Q I rs q
  · exact h' pins s σ H xs us Q I rs q
theorem call_tuple_of : CallR X (.type "tuple") (fun xs H Q => ∃ p ys, xs = [.ref p] ∧ ((SqL X.K H p ys ∧ ∀ l, H l = none → Q (.ref l) (upd H l (.tup ys))) ∨ (SqT X.K H p ys ∧ Q (.ref p) H))) := by
  intro pins s σ H xs us Q I r h
  obtain ⟨p, ys, rfl, h⟩ := h
  obtain ⟨u, rfl, rx⟩ := vals1 r
  cases rx
  rcases h with ⟨hq, q⟩ | ⟨hq, q⟩
  · obtain ⟨its, r', pl, hz⟩ := I.list hq
    have hlen := r'.length
    refine call_tuple_list pl.isList (fun h' kp => ?_) (by simp only [List.size_toArray] <;> omega)
    have I1 : Inv X pins σ H { s with heap := h' } := I.kept (t' := s.toks) kp
    have I2 : Inv X pins σ (upd H h'.objs.size (.tup ys)) { s with heap := h'.push { cls := .type "tuple", data := .seq its.toArray } } :=
      I1.laid (t' := s.toks) (fun b o e => Heap.get?_push_of_some _ e) (Nat.le_refl _) (show ObjOk X.prog X.w _ _ _ (.tup ys) from ⟨hz, its, r', IsTup.new _ _⟩)
    exact ⟨.ref h'.objs.size, _, I2, rfl, q _ (I1.hok.fresh (Nat.le_refl _))⟩
  · obtain ⟨its, r', pl, hz⟩ := I.tuple hq
    exact call_tuple_same pl ⟨.ref p, H, I, rfl, q⟩
noncomputable def tyV (K : PySem.W.Frag) (T : String) (x : V) (H : Hp) : Prop := match x with
  | .str _ => T = "str"
  | .int _ => T = "int"
  | .ref p => (T = "list" ∧ ∃ xs, SqL K H p xs) ∨ (T = "tuple" ∧ ∃ o, K.lookup p = some o ∧ o.cls = .type "tuple" ∧ o.dict = none) ∨
      (T = "dict" ∧ ((∃ kvs, H p = some (.dK kvs)) ∨ ∃ kvs, H p = some (.dT kvs))) ∨ (T = "set" ∧ ∃ S n, H p = some (.set S n))
  | _ => False
theorem tyV_is {pins : List (Addr × Obj)} {σ : St} {H : Hp} {s : Shared} {T : String} {x : V} {v : Value} (I : Inv X pins σ H s) (r : RelV x v) (ty : tyV X.K T x H) :
    s.TypeIs v T ∧ ∀ a, v = .ref a → ∃ ob, s.heap.get? a = some ob ∧ ob.dict = none := by
  cases x with
  | str z =>
    obtain ⟨t, rfl⟩ := r
    cases (show T = "str" from ty)
    exact ⟨typeIs_str s z t, fun _ e => nomatch e⟩
  | int i =>
    obtain ⟨t, rfl⟩ := r
    cases (show T = "int" from ty)
    exact ⟨typeIs_int s i t, fun _ e => nomatch e⟩
  | ref p =>
    cases r
    rcases ty with ⟨rfl, xs, hq⟩ | ⟨rfl, o, hk, hc, hd⟩ | ⟨rfl, hk⟩ | ⟨rfl, S, n, hk⟩
    · obtain ⟨its, _, pl, _⟩ := I.list hq
      refine ⟨pl.isList.typeIs, fun a e => ?_⟩
      cases e
      obtain ⟨o, n, e, c, hd, _⟩ := pl
      exact ⟨o, e, hd⟩
    · refine ⟨⟨o, I.kIn p o hk, hc⟩, fun a e => ?_⟩
      cases e
      exact ⟨o, I.kIn _ o hk, hd⟩
    · have z : ∃ o, s.heap.get? p = some o ∧ o.ExactDict := by
        rcases hk with ⟨kvs, hk⟩ | ⟨kvs, hk⟩
        · obtain ⟨_, _, _, _, o, _, _, e, ex, _⟩ := I.hok p _ hk
          exact ⟨o, e, ex⟩
        · obtain ⟨_, _, _, _, o, _, _, e, ex, _⟩ := I.hok p _ hk
          exact ⟨o, e, ex⟩
      obtain ⟨o, e, ex⟩ := z
      refine ⟨⟨o, e, ex.1⟩, fun a e2 => ?_⟩
      cases e2
      exact ⟨o, e, ex.2.1⟩
    · obtain ⟨o, _, _, _, e, ex, _⟩ := I.hok p _ hk
      refine ⟨⟨o, e, ex.1⟩, fun a e2 => ?_⟩
      cases e2
      exact ⟨o, e, ex.2.1⟩
  | _ => exact False.elim ty
noncomputable def tBM (K : PySem.W.Frag) (T : String) (r : V → List V → Hp → VK → Prop) (to : TE) (t : TA) : TE := fun σ H Q => to σ H fun x H1 => tyV K T x H1 ∧ t σ H1 fun xs H2 => r x xs H2 Q
variable {o e : Expr} {es : List Expr} {to : TE} {t : TA} {name : Str} {apos cpos : Pos} {T id : String} {r : V → List V → Hp → VK → Prop}
theorem pe_bm (pa : PlainAttrs T) (slot : Slot T name id) (hty : typeOf (.builtin id) = pure (.type "method_descriptor")) (hm : MtR X id r) (ho : PE X o to) (ha : PA X (e :: es) t)
    (hbase : attributeBase o name X.env (eval o X.env) = eval o X.env := by rfl)
    (hfew : ((backTo cpos (starEach (e :: es) X.env)).all (fun x => !x.1) && (backToKw cpos (keywordEach [] X.env)).all (fun x => x.1.isSome)
      && decide ((e :: es).length + ([] : List Keyword).length + (if ([] : List Keyword).isEmpty then 0 else 1) < 30)) = true := by rfl)
    (hline : (apos.endLine == cpos.line) = true := by rfl) (hs : starEach (e :: es) X.env = (false, eval e X.env) :: starEach es X.env := by rfl) (hplain : (backTo cpos (starEach es X.env)).any (·.1) = false := by rfl) :
    PE X (.Call (.Attribute o name apos) (e :: es) [] cpos) (tBM X.K T r to t) := by
  intro pins s σ H Q I h
  refine wpAny_Call_method_late hbase hfew hline rfl (thn (ho pins s σ H _ I h) fun v s1 ⟨x, H1, I1, r1, ty, q1⟩ => ?_)
  obtain ⟨h1, h2⟩ := tyV_is I1 r1 ty
  refine ⟨T, id, pa, slot, hty, h1, h2, ?_⟩
  have hA := ha cpos pins s1 σ H1 _ I1 q1
  rw [hs] at hA ⊢
  refine Calls.callWith_builtin (by show (false || (backTo cpos (starEach es X.env)).any (·.1)) = false; rw [hplain] <;> rfl) (Calls.evalArgs_plain ?_)
  exact thn hA fun us s2 ⟨vs, H2, I2, r2, q2⟩ => hm pins s2 σ H2 x vs v us Q I2 r1 r2 q2
/- xs.append(e), list.index on a module's tuple .. are MtR facts of 06m -/
end
end L2
namespace L2
open PySem PySem.Spec PyProof.Rows
noncomputable def MtM (X : Cx) (id : String) (r : V → List V → Hp → VK → Prop) : Prop :=
  ∀ (pins : List (Addr × Obj)) (s : Shared) (σ : St) (H : Hp) (x : V) (xs : List V) (v : Value) (us : List Value) (Q : VK), Inv X pins σ H s → RelV x v → Vals xs us → r x xs H Q →
    wpAny (model X.prog X.w) X.A (call (.builtin id) (v :: us)) (EP X pins σ Q) X.xe s
theorem Vals.one : ∀ {x : V} {us : List Value}, Vals [x] us → ∃ u, us = [u] ∧ RelV x u
  | _, _, .cons r .nil => ⟨_, rfl, r⟩
section
variable {X : Cx} {pins : List (Addr × Obj)} {σ : St} {H : Hp} {s : Shared} {l b : Addr} {xs ys zs : List V}
theorem Inv.lset {its its' : List Value} {n : Nat} {f : Array Value → Array Value} {t' : Nat} (I : Inv X pins σ H s) (hH : H l = some (.lst xs))
    (e : s.heap.get? l = some { cls := .type "list", data := .seq its.toArray n }) (hf : f its.toArray = its'.toArray) (hv : Vals ys its') (hz : ys.length ≤ sizeLine) :
    Inv X pins σ (upd H l (.lst ys)) { s with heap := s.heap.update l (Obj.mapSeq f), toks := t' } := by
  have q := PySem.IsL.update e f
  rw [hf] at q
  refine I.write (x := l) (e := l) (by rw [hH]; exact trivial) (.inl rfl) (fun b' u hb hu => (Heap.get?_update_other s.heap (Obj.mapSeq f) (Ne.symm hb)).trans hu) ⟨_, q⟩ ?_
  exact ⟨hz, its', _, hv, q⟩
theorem Inv.lnew {its : List Value} {t' : Nat} (I : Inv X pins σ H s) (hv : Vals ys its) (hz : ys.length ≤ sizeLine) :
    Inv X pins σ (upd H s.heap.objs.size (.lst ys)) { s with heap := s.heap.push { cls := .type "list", data := .seq its.toArray }, toks := t' } :=
  I.laid (fun _ _ q => Heap.get?_push_of_some _ q) (Nat.le_refl _) ⟨hz, its, 0, hv, Heap.get?_push_size _ rfl⟩
theorem Inv.fresh (I : Inv X pins σ H s) : H s.heap.objs.size = none := I.hok.fresh (Nat.le_refl _)
theorem Inv.lstM (I : Inv X pins σ H s) (hH : H l = some (.lst xs)) : xs.length ≤ sizeLine ∧ ∃ (its : List Value) (n : Nat), Vals xs its ∧ xs.length = its.length ∧ s.heap.get? l = some { cls := .type "list", data := .seq its.toArray n } := by
  obtain ⟨z, its, n, r, e⟩ := I.hok l _ hH
  exact ⟨z, its, n, r, r.length, e⟩
end
section
variable {X : Cx}
noncomputable def rAppend : V → List V → Hp → VK → Prop := fun x vs H Q => ∃ l xs y, x = .ref l ∧ vs = [y] ∧ H l = some (.lst xs) ∧ xs.length < sizeLine ∧ Q .non (upd H l (.lst (xs ++ [y])))
theorem mt_append : MtM X "list.append" rAppend := by
  intro pins s σ H x vs v us Q I rx rv h
  obtain ⟨l, xs, y, rfl, rfl, hH, hz, q⟩ := h
  cases rx
  obtain ⟨u, rfl, ru⟩ := rv.one
  obtain ⟨z, its, n, r, hl, e⟩ := I.lstM hH
  refine call_meets F.slot_list_append ⟨_, e, rfl⟩ F.entry_list_append (F.args_list_append_2 _ _) (PySem.list_append l its.toArray n u (by rw [List.size_toArray]; omega)) ⟨e, ?_⟩
  refine ⟨.non, _, I.lset (its' := its ++ [u]) hH e (by simp) (r.append (.cons ru .nil)) ?_, rfl, q⟩
  rw [List.length_append, List.length_singleton]
  omega
end
section
variable {prog : Program} {w : World} {A : Around} {E : Value → Shared → Prop} {s : Shared}
end
section
variable {X : Cx}
end
end L2
namespace L2
open PySem PySem.Spec PyProof.Rows
section
variable {κ : Type} [DecidableEq κ]
noncomputable def valV (kvs : List (κ × V)) (k : κ) : Option V := (kvs.find? fun kv => decide (kv.1 = k)).map (·.2)
noncomputable def putK (kvs : List (κ × V)) (k : κ) (v : V) : List (κ × V) :=
  if (kvs.any fun kv => decide (kv.1 = k)) = true then kvs.map (fun kv => if kv.1 = k then (kv.1, v) else kv) else kvs ++ [(k, v)]
theorem valV_pos {p : κ × V} {r : List (κ × V)} {k : κ} (e : p.1 = k) : valV (p :: r) k = some p.2 := by simp [valV, List.find?_cons, e]
theorem valV_neg {p : κ × V} {r : List (κ × V)} {k : κ} (e : ¬ p.1 = k) : valV (p :: r) k = valV r k := by simp [valV, List.find?_cons, e]
theorem valV_any (k : κ) : ∀ kvs : List (κ × V), (kvs.any fun kv => decide (kv.1 = k)) = (valV kvs k).isSome
  | [] => rfl
  | p :: r => by
    rw [List.any_cons]
    by_cases e : p.1 = k
    · simp only [valV_pos e, decide_eq_true e, Bool.true_or, Option.isSome_some]
    · rw [valV_neg e, decide_eq_false e, Bool.false_or]; exact valV_any k r
theorem length_putK (kvs : List (κ × V)) (k : κ) (v : V) : (putK kvs k v).length ≤ kvs.length + 1 := by
  unfold putK
  split
  · rw [List.length_map]; omega
  · rw [List.length_append, List.length_cons, List.length_nil]; omega
theorem RelO.isSome_eq {o : Option V} {u : Option Value} (r : RelO o u) : o.isSome = u.isSome := by
  cases o with
  | none => cases u with
    | none => rfl
    | some _ => exact (show False from r).elim
  | some _ => cases u with
    | none => exact (show False from r).elim
    | some _ => rfl
theorem KV.val {kvs : List (κ × V)} {vs : List (κ × Value)} (r : KV kvs vs) (k : κ) : RelO (valV kvs k) (valueAt vs k) := by
  unfold KV at r
  induction r with
  | nil => exact True.intro
  | @cons p q ps qs h t ih =>
    obtain ⟨h1, h2⟩ := h
    by_cases e : p.1 = k
    · have e' : q.1 = k := h1.symm.trans e
      have b : valueAt (q :: qs) k = some q.2 := by simp [valueAt, List.find?_cons, e']
      rw [valV_pos e, b]; exact h2
    · have e' : ¬ q.1 = k := fun z => e (h1.trans z)
      have b : valueAt (q :: qs) k = valueAt qs k := by simp [valueAt, List.find?_cons, e']
      rw [valV_neg e, b]; exact ih
theorem KV.any {kvs : List (κ × V)} {vs : List (κ × Value)} (r : KV kvs vs) (k : κ) : (kvs.any fun kv => decide (kv.1 = k)) = vs.any fun kv => decide (kv.1 = k) := by
  unfold KV at r
  induction r with
  | nil => rfl
  | cons h t ih => rw [List.any_cons, List.any_cons, ih, h.1]
theorem KV.repl {kvs : List (κ × V)} {vs : List (κ × Value)} (r : KV kvs vs) (k : κ) {y : V} {u : Value} (ry : RelV y u) :
    KV (kvs.map fun kv => if kv.1 = k then (kv.1, y) else kv) (vs.map fun kv => if kv.1 = k then (kv.1, u) else kv) := by
  unfold KV at r ⊢
  induction r with
  | nil => exact .nil
  | @cons p q ps qs h t ih =>
    rw [List.map_cons, List.map_cons]
    refine .cons ?_ ih
    obtain ⟨h1, h2⟩ := h
    by_cases e : p.1 = k
    · rw [if_pos e, if_pos (h1.symm.trans e)]; exact ⟨h1, ry⟩
    · rw [if_neg e, if_neg (fun z => e (h1.trans z))]; exact ⟨h1, h2⟩
theorem KV.put {kvs : List (κ × V)} {vs : List (κ × Value)} (r : KV kvs vs) (k : κ) {y : V} {u : Value} (ry : RelV y u) : KV (putK kvs k y) (stored vs k u) := by
  unfold putK stored
  rw [r.any k]
  by_cases e : (vs.any fun kv => decide (kv.1 = k)) = true
  · rw [if_pos e, if_pos e]; exact r.repl k ry
  · rw [if_neg e, if_neg e]; exact Paired.snoc r ⟨rfl, ry⟩
theorem KV.length {kvs : List (κ × V)} {vs : List (κ × Value)} (r : KV kvs vs) : kvs.length = vs.length := Paired.length r
end
theorem kV_is {P : Program} {w : World} {k : Key} {u : Value} (r : RelV (kV k) u) : (mixKind P w).is k u = true := by
  cases k with
  | inl i => obtain ⟨t, e⟩ := (show ∃ t, u = Value.int i t from r); subst e; exact mixKind_int P w i t
  | inr x => obtain ⟨t, e⟩ := (show ∃ t, u = Value.str x t from r); subst e; exact mixKind_str P w x t
theorem items_are {P : Program} {w : World} : ∀ {ks : List Key} {us : List Value}, Vals (ks.map kV) us → ItemsAre (mixKind P w) ks us
  | [], _, r => by rw [List.map_nil] at r; cases r; exact .nil
  | k :: ks, _, r => by
    rw [List.map_cons] at r
    cases r with
    | cons h t => exact .cons (kV_is h) (items_are t)
noncomputable abbrev KT (H : Hp) : List (List Key × V) → List (List Key × Addr × Value) → Prop := Paired fun p q => p.1 = q.1 ∧ H q.2.1 = some (.tup (p.1.map kV)) ∧ RelV p.2 q.2.2
theorem KT.val {H : Hp} {kvs : List (List Key × V)} {xs : List (List Key × Addr × Value)} (r : KT H kvs xs) (k : List Key) : RelO (valV kvs k) ((atKey xs k).map (·.2)) := by
  induction r with
  | nil => exact True.intro
  | @cons p q ps qs h t ih =>
    obtain ⟨h1, _, h2⟩ := h
    by_cases e : p.1 = k
    · have e' : q.1 = k := h1.symm.trans e
      have b : atKey (q :: qs) k = some q.2 := by simp [atKey, List.find?_cons, e']
      rw [valV_pos e, b]; exact h2
    · have e' : ¬ q.1 = k := fun z => e (h1.trans z)
      have b : atKey (q :: qs) k = atKey qs k := by simp [atKey, List.find?_cons, e']
      rw [valV_neg e, b]; exact ih
theorem KT.repl {H : Hp} {kvs : List (List Key × V)} {xs : List (List Key × Addr × Value)} (r : KT H kvs xs) (k : List Key) {y : V} {u : Value} (ry : RelV y u) :
    KT H (kvs.map fun kv => if kv.1 = k then (kv.1, y) else kv) (xs.map (putAt k u)) := by
  induction r with
  | nil => exact .nil
  | @cons p q ps qs h t ih =>
    rw [List.map_cons, List.map_cons]
    refine .cons ?_ ih
    obtain ⟨h1, h2, h3⟩ := h
    unfold putAt
    by_cases e : p.1 = k
    · rw [if_pos e, if_pos (h1.symm.trans e)]; exact ⟨h1, h2, ry⟩
    · rw [if_neg e, if_neg (fun z => e (h1.trans z))]; exact ⟨h1, h2, h3⟩
theorem KT.put {H : Hp} {kvs : List (List Key × V)} {xs : List (List Key × Addr × Value)} (r : KT H kvs xs) (k : List Key) {b : Addr} {y : V} {u : Value} (hb : H b = some (.tup (k.map kV))) (ry : RelV y u) :
    KT H (putK kvs k y) (storedH xs k b u) := by
  have e : (kvs.any fun kv => decide (kv.1 = k)) = (atKey xs k).isSome := by
    rw [valV_any, (r.val k).isSome_eq, Option.isSome_map]
  unfold putK storedH
  rw [e]
  by_cases q : (atKey xs k).isSome = true
  · rw [if_pos q, if_pos q]; exact r.repl k ry
  · rw [if_neg q, if_neg q]; exact Paired.snoc r ⟨rfl, hb, ry⟩
theorem KT.keeps {H H' : Hp} {kvs : List (List Key × V)} {xs : List (List Key × Addr × Value)} (r : KT H kvs xs) (ht : ∀ b ys, H b = some (.tup ys) → H' b = some (.tup ys)) : KT H' kvs xs :=
  Paired.mapP r fun _ _ z => ⟨z.1, ht _ _ z.2.1, z.2.2⟩
section
variable {P : Program} {w : World} {H : Hp} {h : Heap} {a : Addr}
theorem rd_of {u : HO} (ok : HOk P w H h) (e : Rd H a u) : ObjOk P w H h a u := e.ok ok
theorem dk_rd {kvs : List (Key × V)} (ok : HOk P w H h) (e : Rd H a (.dK kvs)) : kvs.length ≤ sizeLine ∧ (a == sysModules) = false ∧ ∃ vs, KV kvs vs ∧ h.DictOf (mixKind P w) a vs :=
  show ObjOk P w H h a (.dK kvs) from rd_of ok e
theorem dk_of {kvs : List (Key × V)} (ok : HOk P w H h) (e : H a = some (.dK kvs)) : kvs.length ≤ sizeLine ∧ (a == sysModules) = false ∧ ∃ vs, KV kvs vs ∧ h.DictOf (mixKind P w) a vs := dk_rd ok (.inl e)
theorem key_of {ks : List Key} (ok : HOk P w H h) (e : H a = some (.tup (ks.map kV))) : (tupleKind (mixKind P w)).is h ks a := by
  obtain ⟨_, its, r, o, h1, h2, n, h3⟩ := (show ObjOk P w H h a (.tup (ks.map kV)) from ok a _ e)
  exact ⟨o, its.toArray, n, h1, h2, h3, by simpa using items_are r⟩
theorem dt_rd {kvs : List (List Key × V)} (ok : HOk P w H h) (e : Rd H a (.dT kvs)) : kvs.length ≤ sizeLine ∧ (a == sysModules) = false ∧
    ∃ xs, KT H kvs xs ∧ h.DictOfH (tupleKind (mixKind P w)) a xs := by
  obtain ⟨z, y, xs, r, o, es, ep, h1, h2, h3, h4, h5⟩ := (show ObjOk P w H h a (.dT kvs) from rd_of ok e)
  refine ⟨z, y, xs, r, o, es, ep, h1, h2, h3, h4, fun x hx => ?_, h5⟩
  have all : ∀ {l : List (List Key × V)} {m : List (List Key × Addr × Value)}, KT H l m → ∀ x ∈ m, (tupleKind (mixKind P w)).is h x.1 x.2.1 := by
    intro l m q
    induction q with
    | nil => intro x hx; exact nomatch hx
    | @cons p q ps qs hq t ih =>
      intro x hx
      rcases List.mem_cons.mp hx with e | hx
      · subst e
        exact key_of ok (by rw [← hq.1]; exact hq.2.1)
      · exact ih x hx
  exact all r x hx
theorem dt_of {kvs : List (List Key × V)} (ok : HOk P w H h) (e : H a = some (.dT kvs)) : kvs.length ≤ sizeLine ∧ (a == sysModules) = false ∧
    ∃ xs, KT H kvs xs ∧ h.DictOfH (tupleKind (mixKind P w)) a xs := dt_rd ok (.inl e)
end
noncomputable def DGet (H : Hp) (a : Addr) (y : V) (r : Option V) : Prop :=
  (∃ kvs k, Rd H a (.dK kvs) ∧ y = kV k ∧ r = valV kvs k) ∨ ∃ kvs k b, Rd H a (.dT kvs) ∧ y = .ref b ∧ H b = some (.tup (k.map kV)) ∧ r = valV kvs k
noncomputable def DPut (H : Hp) (a : Addr) (y v : V) (H' : Hp) : Prop :=
  (∃ kvs k, H a = some (.dK kvs) ∧ y = kV k ∧ kvs.length < sizeLine ∧ H' = upd H a (.dK (putK kvs k v))) ∨
  ∃ kvs k b, H a = some (.dT kvs) ∧ y = .ref b ∧ H b = some (.tup (k.map kV)) ∧ kvs.length < sizeLine ∧ H' = upd H a (.dT (putK kvs k v))
section
variable {X : Cx} {pins : List (Addr × Obj)} {σ : St} {H : Hp} {s : Shared} {a : Addr} {y v : V} {u r : Value} {o : Option V} {A : Around} {E : Value → Shared → Prop}
theorem Inv.big (I : Inv X pins σ H s) : sysModules < s.heap.objs.size := by
  have h : mainGlobals < s.heap.objs.size := (I.mod.glob.keeps I.bk).lt
  exact Nat.lt_trans (by decide) h
theorem d_getItem {Q : Value → Shared → Prop} (hu : A.units + 1 < cLine) (I : Inv X pins σ H s) (g : DGet H a y (some v)) (ry : RelV y u) (h : ∀ w' s', Inv X pins σ H s' → RelV v w' → Q w' s') :
    wpAny (model X.prog X.w) A (getItem (.ref a) u) Q E s := by
  rcases g with ⟨kvs, k, e, ey, l⟩ | ⟨kvs, k, b, e, ey, eb, l⟩
  · subst ey
    obtain ⟨z, hd, vs, rel, dd⟩ := dk_rd I.hok e
    obtain ⟨w', hw, rw'⟩ := RelO.some_of (v := v) (o := valueAt vs k) (by rw [l]; exact rel.val k)
    exact wpAny_getItem_of (kV_is ry) dd.mapOf hw (h w' _ (I.tok _) rw')
  · subst ey
    cases (show u = Value.ref b from ry)
    obtain ⟨z, hd, xs, rel, dd⟩ := dt_rd I.hok e
    obtain ⟨w', hw, rw'⟩ := RelO.some_of (v := v) (o := (atKey xs k).map (·.2)) (by rw [l]; exact rel.val k)
    obtain ⟨p, hp, hp2⟩ := mS hw
    refine wpAny_getItem_heap (tupleKind_room_in1 hu) (key_of I.hok eb) dd hp ?_
    rw [hp2]
    exact h w' _ (I.tok _) rw'
theorem d_in {Q : Value → Shared → Prop} (hu : A.units + 1 < cLine) (I : Inv X pins σ H s) (g : DGet H a y o) (ry : RelV y u) (h : ∀ s', Inv X pins σ H s' → Q (.bool o.isSome) s') :
    wpAny (model X.prog X.w) A (compareOp .In u (.ref a)) Q E s := by
  rcases g with ⟨kvs, k, e, ey, l⟩ | ⟨kvs, k, b, e, ey, eb, l⟩
  · subst ey
    obtain ⟨z, hd, vs, rel, dd⟩ := dk_rd I.hok e
    refine wpAny_in_of (kV_is ry) hd dd.mapOf ?_
    rw [← (rel.val k).isSome_eq, ← l]
    exact h _ (I.tok _)
  · subst ey
    cases (show u = Value.ref b from ry)
    obtain ⟨z, hd, xs, rel, dd⟩ := dt_rd I.hok e
    refine wpAny_in_heap (tupleKind_room_in1 hu) (key_of I.hok eb) hd dd ?_
    have q := (rel.val k).isSome_eq
    rw [Option.isSome_map] at q
    rw [← q, ← l]
    exact h _ (I.tok _)
theorem d_notIn {Q : Value → Shared → Prop} (hu : A.units + 1 < cLine) (I : Inv X pins σ H s) (g : DGet H a y o) (ry : RelV y u) (h : ∀ s', Inv X pins σ H s' → Q (.bool (!o.isSome)) s') :
    wpAny (model X.prog X.w) A (compareOp .NotIn u (.ref a)) Q E s := by
  rcases g with ⟨kvs, k, e, ey, l⟩ | ⟨kvs, k, b, e, ey, eb, l⟩
  · subst ey
    obtain ⟨z, hd, vs, rel, dd⟩ := dk_rd I.hok e
    refine wpAny_notIn_of (kV_is ry) hd dd.mapOf ?_
    rw [← (rel.val k).isSome_eq, ← l]
    exact h _ (I.tok _)
  · subst ey
    cases (show u = Value.ref b from ry)
    obtain ⟨z, hd, xs, rel, dd⟩ := dt_rd I.hok e
    refine wpAny_notIn_heap (tupleKind_room_in1 hu) (key_of I.hok eb) hd dd ?_
    have q := (rel.val k).isSome_eq
    rw [Option.isSome_map] at q
    rw [← q, ← l]
    exact h _ (I.tok _)
theorem d_write {h' : Heap} {t' : Nat} {ob : HO} (I : Inv X pins σ H s) (mu : Mut (H a)) (hs : Heap.SameBut a s.heap h') (he : ∃ q, h'.get? a = some q) (new : ObjOk X.prog X.w (upd H a ob) h' a ob) :
    Inv X pins σ (upd H a ob) { s with heap := h', toks := t' } :=
  I.write (x := a) (e := a) mu (.inl rfl) (fun b q hb z => (hs.2 b hb).trans z) he new
theorem dk_new {P : Program} {w : World} {H' : Hp} {h' : Heap} {kvs : List (Key × V)} {vs : List (Key × Value)} (z : kvs.length ≤ sizeLine) (hd : (a == sysModules) = false) (rel : KV kvs vs) (dd : h'.DictOf (mixKind P w) a vs) :
    ObjOk P w H' h' a (.dK kvs) := ⟨z, hd, vs, rel, dd⟩
theorem d_setItem {H' : Hp} {Q : Unit → Shared → Prop} (hu : A.units + 1 < cLine) (I : Inv X pins σ H s) (g : DPut H a y v H') (ry : RelV y u) (rv : RelV v r) (h : ∀ s', Inv X pins σ H' s' → Q () s') :
    wpAny (model X.prog X.w) A (setItem (.ref a) u r) Q E s := by
  rcases g with ⟨kvs, k, e, ey, l, eH⟩ | ⟨kvs, k, b, e, ey, eb, l, eH⟩
  · subst ey eH
    obtain ⟨z, hd, vs, rel, dd⟩ := dk_of I.hok e
    have hz : vs.length ≤ sizeLine := by rw [← rel.length]; exact z
    have hl : (putK kvs k v).length ≤ sizeLine := by have := length_putK kvs k v; omega
    refine wpAny_setItem_pairs (hsz := hz) (kV_is ry) dd fun h' dd' hs => h _ ?_
    have he : ∃ q, h'.get? a = some q := let ⟨q, _, _, hq, _⟩ := dd'; ⟨q, hq⟩
    exact d_write I (by rw [e]; exact True.intro) hs he (dk_new hl hd (rel.put k rv) dd')
  · subst ey eH
    cases (show u = Value.ref b from ry)
    obtain ⟨z, hd, xs, rel, dd⟩ := dt_of I.hok e
    have hz : xs.length ≤ sizeLine := by rw [← Paired.length rel]; exact z
    have hl : (putK kvs k v).length ≤ sizeLine := by have := length_putK kvs k v; omega
    refine wpAny_setItem_heap (hsz := hz) (tupleKind_room_in1 hu) (key_of I.hok eb) dd fun h' dd' hs => h _ ?_
    obtain ⟨q, es, ep, hq, h2, h3, h4, _, h5⟩ := dd'
    refine d_write I (by rw [e]; exact True.intro) hs ⟨q, hq⟩ ⟨hl, hd, _, (rel.put k eb rv).keeps fun c ys ec => ?_, q, es, ep, hq, h2, h3, h4, h5⟩
    rw [upd_ne (ne_of ec e (fun z => nomatch z))]
    exact ec
end
section
variable {X : Cx} {pins : List (Addr × Obj)} {σ : St} {H : Hp} {s : Shared} {a : Addr} {kvs : List (Key × V)} {k : Key} {u : Value} {A : Around} {E : Value → Shared → Prop}
end
noncomputable def NoSl (i : Expr) : Prop := ∀ ov iv, subscripted i false ov iv = operate [ov, iv] (getItem ov iv)
theorem subD_of {prog : Program} {w : World} {A : Around} {E : Value → Shared → Prop} {s : Shared} {env : Env} {value slice : Expr} {pos : Pos} {T id : String} {Q : Value → Shared → Prop}
    (hl : typeLookup (.type T) "__getitem__" = pure (some (.builtin id))) (hs : NoSl slice)
    (h : wpAny (model prog w) A (eval value env) (fun o s₁ => wpAny (model prog w) A (eval slice env) (fun i s₂ => s₂.TypeIs o T ∧ wpAny (model prog w) A (getItem o i) Q E s₂) E s₁) E s) :
    wpAny (model prog w) A (eval (.Subscript value slice pos) env) Q E s := by
  refine Subscript_ (wpAny_mono h (fun o s₁ h₁ => wpAny_mono h₁ (fun i s₂ h₂ => ?_) fun _ _ x => x) fun _ _ x => x)
  obtain ⟨hT, h₂⟩ := h₂
  unfold subscriptTail
  refine wpAny_bind ?_
  rw [getitemInPython_of_ne hT.not_modules]
  refine wpAny_bind (wpAny_specialOf hT hl ?_)
  have fin : wpAny (model prog w) A (subscripted slice false o i) (fun r s₃ => wpAny (model prog w) A (letTemporaryGo value o r >>= fun _ => pure r) Q E s₃) E s₂ := by
    rw [hs o i]
    exact wpAny_operating (wpAny_mono h₂ (fun r s₃ h₃ => wpAny_bind (wpAny_letTemporaryGo (wpAny_pure h₃))) fun _ _ x => x)
  first
    | exact wpAny_pure (wpAny_bind fin)
    | exact wpAny_bind (wpAny_pure (wpAny_bind fin))
    | exact wpAny_bind fin
theorem dict_typeIs {X : Cx} {pins : List (Addr × Obj)} {σ : St} {H : Hp} {s : Shared} {a : Addr} {y : V} {o : Option V} (I : Inv X pins σ H s) (g : DGet H a y o) : s.TypeIs (.ref a) "dict" := by
  rcases g with ⟨kvs, k, e, _, _⟩ | ⟨kvs, k, b, e, _, _, _⟩
  · obtain ⟨_, _, vs, _, dd⟩ := dk_rd I.hok e
    exact dd.typeIs
  · obtain ⟨_, _, xs, _, dd⟩ := dt_rd I.hok e
    exact dd.typeIs
noncomputable def tDGet (td ty : TE) : TE := fun σ H Q => td σ H fun x H1 => ty σ H1 fun y H2 => ∃ a v, x = .ref a ∧ DGet H2 a y (some v) ∧ Q v H2
noncomputable def tDIn (ty td : TE) : TE := fun σ H Q => ty σ H fun y H1 => td σ H1 fun x H2 => ∃ a o, x = .ref a ∧ DGet H2 a y o ∧ Q (.bl o.isSome) H2
noncomputable def tDNotIn (ty td : TE) : TE := fun σ H Q => ty σ H fun y H1 => td σ H1 fun x H2 => ∃ a o, x = .ref a ∧ DGet H2 a y o ∧ Q (.bl (!o.isSome)) H2
noncomputable def sDPut (td ty tv : TE) : TS := fun D σ H => tv σ H fun v H1 => td σ H1 fun x H2 => ty σ H2 fun y H3 => ∃ a H4, x = .ref a ∧ DPut H3 a y v H4 ∧ D.nx σ H4
section
variable {X : Cx} {o i e value : Expr} {pos pos' tpos : Pos} {td ty tv : TE}
theorem pe_dget (hu : X.A.units + 1 < cLine) (ho : PE X o td) (hi : PE X i ty) (hs : NoSl i) : PE X (.Subscript o i pos) (tDGet td ty) := by
  intro pins s σ H Q I h
  refine subD_of PySem.F.slot_dict_getitem.lookup hs (thn (ho pins s σ H _ I h) fun u s1 ⟨x, H1, I1, rx, q1⟩ => thn (hi pins s1 σ H1 _ I1 q1) fun iv s2 ⟨y, H2, I2, ry, a, v, ex, g, q2⟩ => ?_)
  subst ex
  obtain rfl : u = Value.ref a := rx
  exact ⟨dict_typeIs I2 g, d_getItem hu I2 g ry fun w' s3 I3 rw' => ⟨v, H2, I3, rw', q2⟩⟩
theorem pc_din (hu : X.A.units + 1 < cLine) (hi : PE X i ty) (ho : PE X o td) : PC X .In i o (tDIn ty td) := by
  intro pins s σ H Q I h
  refine thn (hi pins s σ H _ I h) fun iv s1 ⟨y, H1, I1, ry, q1⟩ => thn (ho pins s1 σ H1 _ I1 q1) fun u s2 ⟨x, H2, I2, rx, a, ov, ex, g, q2⟩ => ?_
  subst ex
  obtain rfl : u = Value.ref a := rx
  exact d_in hu I2 g ry fun s3 I3 => ⟨.bl ov.isSome, H2, I3, rfl, q2⟩
theorem pc_dnotin (hu : X.A.units + 1 < cLine) (hi : PE X i ty) (ho : PE X o td) : PC X .NotIn i o (tDNotIn ty td) := by
  intro pins s σ H Q I h
  refine thn (hi pins s σ H _ I h) fun iv s1 ⟨y, H1, I1, ry, q1⟩ => thn (ho pins s1 σ H1 _ I1 q1) fun u s2 ⟨x, H2, I2, rx, a, ov, ex, g, q2⟩ => ?_
  subst ex
  obtain rfl : u = Value.ref a := rx
  exact d_notIn hu I2 g ry fun s3 I3 => ⟨.bl (!ov.isSome), H2, I3, rfl, q2⟩
theorem ps_dput (hu : X.A.units + 1 < cLine) (ho : PE X o td) (hi : PE X i ty) (hv : PE X value tv) (hs : swapsWith value (some (.Subscript o i pos')) pos.line X.env = pure false) :
    PS X (.Assign [.Subscript o i pos'] value pos) (sDPut td ty tv) := by
  intro pins s σ H D I h
  refine wpAny_Assign_Subscript (thn (hv pins s σ H _ I h) fun r s1 ⟨v, H1, I1, rv, q1⟩ => thn (ho pins s1 σ H1 _ I1 q1) fun u s2 ⟨x, H2, I2, rx, q2⟩ => thn (hi pins s2 σ H2 _ I2 q2) fun iv s3 ⟨y, H3, I3, ry, a, H4, ex, g, q3⟩ => ?_) hs
  subst ex
  obtain rfl : u = Value.ref a := rx
  exact d_setItem hu I3 g ry rv fun s4 I4 => ⟨σ, H4, I4, q3⟩
end
theorem dk_empty {P : Program} {w : World} {H : Hp} (h : Heap) (hb : sysModules < h.objs.size) : ObjOk P w H (h.push { cls := .type "dict", data := .dict #[] }) h.objs.size (.dK []) :=
  ⟨Nat.zero_le _, beq_eq_false_iff_ne.mpr (Ne.symm (Nat.ne_of_lt hb)), [], .nil, Heap.DictOf.new h⟩
noncomputable def tDNewK : TE := fun _ H Q => ∀ p, H p = none → Q (.ref p) (upd H p (.dK []))
section
variable {X : Cx} {pos : Pos}
theorem pe_dnewK : PE X (.Dict [] [] pos) tDNewK := fun pins s σ H Q I h =>
  wpAny_Dict_empty ⟨.ref s.heap.objs.size, _, I.laid (a := s.heap.objs.size) (o := .dK []) (t' := s.toks) (fun _ _ q => Heap.get?_push_of_some _ q) (Nat.le_refl _) (dk_empty s.heap I.big), rfl, h _ (I.hok.fresh (Nat.le_refl _))⟩
end
section
variable {X : Cx} {pins : List (Addr × Obj)} {σ : St} {H : Hp} {s : Shared} {a : Addr} {y d : V} {u r : Value} {o : Option V} {A : Around} {E : Value → Shared → Prop}
end
section
variable {X : Cx} {o e f : Expr} {apos cpos : Pos} {td ty tx : TE}
end
section
variable {X : Cx} {pins : List (Addr × Obj)} {σ : St} {H : Hp} {s : Shared} {a : Addr} {kvs : List (Key × V)} {A : Around} {E : Value → Shared → Prop}
end
section
variable {X : Cx} {pins : List (Addr × Obj)} {σ : St} {H : Hp} {s : Shared} {a : Addr} {y : V} {u : Value} {A : Around} {E : Value → Shared → Prop}
end
end L2
namespace Att
open PySem PySem.W PySem.Calls PyProof.Rows
theorem ints_of_wellAll {P : Params} {h : Heap} : ∀ (ns : List Int) (vs : List Value), WellAll P h vs (ns.map WData.int) → IntsAre vs ns := by
  intro ns
  induction ns with
  | nil =>
    intro vs w
    rw [List.map_nil] at w
    cases w
    exact .nil
  | cons n ns ih =>
    intro vs w
    rw [List.map_cons] at w
    cases w with
    | cons a b =>
      cases a
      exact .cons _ _ (ih _ b)
theorem script_of {l : OpenLaw} {n : Nat} (hn : l.most = some n) {P : Params} {h : Heap} {args : List WData} {vals : List Value}
    (hpre : l.row.toRowW.claim.pre args = true) (hwl : WellAll P h vals args) :
    ∃ a vs ns, vals = [Value.ref a] ∧ args = [WData.list (ns.map WData.int)] ∧ h.get? a = some { cls := .type "list", data := .seq vs.toArray } ∧ IntsAre vs ns ∧ ns.length ≤ n := by
  have hsh : WShape.hasAll [] args [.list .int] = true := (pre_splitW hpre).1
  have hc : l.pre.holds [] { args := args } = true := (pre_splitW hpre).2
  obtain ⟨d, r, rfl, h1, h2⟩ := hasAllW_cons hsh
  obtain rfl := hasAllW_nil h2
  obtain ⟨xs, rfl, h3⟩ := hasW_list h1
  obtain ⟨ns, rfl⟩ := items_int h3
  have hlen : ns.length ≤ n := by
    unfold OpenLaw.pre at hc
    have h4 : (WTm.not (.lt (.lit (.int (n : Int))) (.len (.arg 0)))).holds [] { args := [.list (ns.map .int)] } = true := by
      have h4 := (holds_andW hc).1
      rw [hn] at h4
      exact h4
    have h5 := condW_of h4 (w_not (w_lt w_lit (w_len_list (w_arg rfl))))
    rw [List.length_map] at h5
    refine Nat.le_of_not_lt fun q => ?_
    have q' : (n : Int) < ((ns.length : Nat) : Int) := by omega
    first
      | (rw [decide_eq_true q'] at h5; exact absurd h5 (by decide))
      | (simp at h5; omega)
  cases hwl with
  | cons w1 w2 =>
    cases w2
    cases w1 with
    | list ho hall => exact ⟨_, _, ns, rfl, rfl, ho, ints_of_wellAll ns _ hall, hlen⟩
theorem post_true (l : OpenLaw) (args : List WData) : l.row.toRowW.claim.post args (.bool true) args = true :=
  postW_of (r := l.row.toRowW) (X := (true == true))
    (show WShape.has [] (.bool true) .bool = true by first | rfl | decide | simp [WShape.has, WShape.arms, WShape.armsAll])
    (show (WTm.eq .res (.lit (.bool true))).value [] { args := args, res := some (.bool true), after := args } = some (.bool (true == true)) from w_eq_bool (w_res rfl) w_lit) rfl
theorem attach_call {l : OpenLaw} {n : Nat} {q : Program} {loose : List Str} {XP : (Str → Option Value) → Heap → Prop} {YP : World → Heap → Prop} {d : DefRec}
    (hn : l.most = some n) (hdf : d.params.defaults = [])
    (call : ∀ (w : World) (s₀ s₁ : Shared) (mg mb : Str → Option Value) (fa : Addr) (o : Obj) (pm cd doc : Value) (a : Addr) (vs : List Value) (ns : List Int),
      Ground q loose [] XP w s₀ mg mb s₁.heap → YP w s₁.heap →
      s₁.heap.get? fa = some o → o.data = .func (docDef d.name d.params d.body d.scope pm cd doc) → s₁.heap.CodeRec cd d.name → mg d.name = some (.ref fa) →
      s₁.heap.get? a = some { cls := .type "list", data := .seq vs.toArray } → IntsAre vs ns → ns.length ≤ n → s₁.gens = #[] →
      codeAny (model l.prog w) callerA (.call (.ref fa) ⟨[.ref a], []⟩) (fun r s' => r = .ok (.ret (.bool true)) ∧ OldK s₁.heap s'.heap ∧ s'.os = s₁.os ∧ AllBare s'.gens) s₁) :
    WalkO q loose XP YP l.row.toRowW d [] (fun f vs => PySem.call f vs) := by
  intro w s₀ s₁ mg mb G Y fa o pm cd doc dV kV ho hd hcd hD hmg hg args vals as hpre hlay hrd hwl hlo
  obtain rfl : dV = .none := Dflts.none hD hdf
  obtain rfl : kV = .none := Dflts.noKw hD
  obtain ⟨a, vs, ns, rfl, rfl, hobj, hints, hlen⟩ := script_of hn hpre hwl
  refine enter_call (codeAny_mono (call w s₀ s₁ mg mb fa o pm cd doc a vs ns G Y ho (fd_plain hd) hcd hmg hobj hints hlen hg) fun r s' hq => ?_)
  obtain ⟨rfl, h2, h3, h4⟩ := hq
  exact ⟨.inl ⟨.bool true, .bool true, [], rfl, fun _ => rfl, .bool true, post_true l _, fun _ => ⟨List.Pairwise.nil, fun _ hm => (nomatch hm)⟩⟩, h2, h3, h4⟩
section
variable {prog : Program} {w : World} {A : Around} {E : Value → Shared → Prop} {s : Shared} {K : Frag}
end
end Att
namespace L2
open PySem PySem.Spec PyProof.Rows
theorem vals_ints : ∀ {vs : List Value} {ns : List Int}, IntsAre vs ns → Vals (ns.map V.int) vs
  | _, _, .nil => .nil
  | _, _, .cons n t h => .cons ⟨t, rfl⟩ (vals_ints h)
noncomputable def Only (H : Hp) : Prop := ∀ b, H b = none ∨ ∃ o xs, H b = some (.frz o (.lst xs))
theorem law_call {P : Program} {w : World} {K : PySem.W.Frag} {mg mb : Str → Option Value} {CX : CXT} {k : Nat} {fa a : Addr} {fd : FuncData} {x : Str} {sp : Sp} {s₁ : Shared} {vs : List Value} {ns : List Int}
    (KX : K.In s₁.heap) (hns : s₁.heap.Ns mainGlobals mg) (hb : s₁.heap.Ns builtinsNs mb) (hbb : ∀ x : Str, x ≠ "__name__" → mb x = bootBuiltins x) (hlim : s₁.heap.NoLimit) (hg : s₁.gens = #[])
    (ha : s₁.heap.get? a = some { cls := .type "list", data := .seq vs.toArray }) (hi : IntsAre vs ns) (hl : ns.length ≤ sizeLine) (hr : Room k callerA)
    (F : ∀ base : Heap, K.In base → base.Ns mainGlobals mg → FnOk P w K mg base CX k fa fd [x] sp) (hbind : ∀ (s : Shared) (u : Value), BindsTo s fd ⟨[u], []⟩ [(x, u)])
    (hsp : ∀ H : Hp, Only H → SqL K H a (ns.map V.int) → sp [.ref a] H (fun v _ => v = .bl true) fun _ _ _ => False)
    (hCX : ∀ H e s', CX [] H s₁ (fun _ _ _ => False) e s' → False) :
    codeAny (model P w) callerA (.call (.ref fa) ⟨[.ref a], []⟩) (fun r s' => r = .ok (.ret (.bool true)) ∧ OldK s₁.heap s'.heap ∧ s'.os = s₁.os ∧ AllBare s'.gens) s₁ := by
  have rv := vals_ints hi
  have lenV := hi.length
  -- from an abstract heap in which nothing but the script may be tracked
  have core : ∀ H : Hp, Only H → SqL K H a (ns.map V.int) → HOk P w H s₁.heap → (∀ b, H b ≠ none → b = a) → (H a ≠ none → K.lookup a = none) →
      codeAny (model P w) callerA (.call (.ref fa) ⟨[.ref a], []⟩) (fun r s' => r = .ok (.ret (.bool true)) ∧ OldK s₁.heap s'.heap ∧ s'.os = s₁.os ∧ AllBare s'.gens) s₁ := by
    intro H hO hS hok hA hK
    have base_of : ∀ {b : Addr} {o : Obj}, s₁.heap.get? b = some o → H b = none → (hidT s₁.heap H).get? b = some o := fun e n => hidT_get e n
    have noA : ∀ {b : Addr} {o : Obj} {es : Array DictEntry} {ep : Nat}, s₁.heap.get? b = some o → o.data = .dict es ep → H b = none := fun {b o es ep} e d => by
      cases q : H b with
      | none => rfl
      | some u =>
        have e' : b = a := hA b (by rw [q]; simp)
        subst e'
        rw [ha] at e; cases e
        have d' : Data.seq vs.toArray _ = Data.dict es ep := d
        cases d'
    have nsK : ∀ {b : Addr} {m : Str → Option Value}, s₁.heap.Ns b m → (hidT s₁.heap H).Ns b m := fun {b m} ⟨o, es, ep, e, d, r⟩ => ⟨o, es, ep, base_of e (noA e d), d, r⟩
    have hKb : K.In (hidT s₁.heap H) := fun b o e => base_of (KX b o e) (by
      cases q : H b with
      | none => rfl
      | some u =>
        have e' : b = a := hA b (by rw [q]; simp)
        subst e'
        rw [hK (by rw [q]; simp)] at e; cases e)
    have hM : Mod K mg (hidT s₁.heap H) := ⟨hKb, nsK hns, ⟨mb, nsK hb, hbb⟩, let ⟨mc, h1, h2⟩ := hlim; ⟨mc, nsK h1, h2⟩⟩
    have e0 : Env0 P w K mg (hidT s₁.heap H) callerA [] s₁ H := ⟨rfl, hM, fun b o e => of_hidT e, Nat.le_of_eq (hidT_size _ _), trivial, fun b hb => absurd (show b ∈ ([] : List Addr) from hb) (by simp), hok, .of_eq hg⟩
    refine codeAny_mono ((F _ hKb (nsK hns)).run callerA [] s₁ H ⟨[.ref a], []⟩ [.ref a] [.ref a] _ _ hr e0 (hbind s₁ (.ref a)) (.cons rfl .nil) (hsp H hO hS)) fun r s' h => ?_
    cases r with
    | error e => exact (hCX H e s' h).elim
    | ok fl =>
      cases fl with
      | next => exact False.elim h
      | brk => exact False.elim h
      | cont => exact False.elim h
      | ret u =>
        obtain ⟨v, H', os, bare, un, hok', r', q⟩ := h
        have q' : v = .bl true := q
        subst q'
        obtain rfl : u = Value.bool true := r'
        refine ⟨rfl, OldK.of_keep fun b o e => ?_, os, bare⟩
        cases q : H b with
        | none => exact un.keep b o e q (by intro z; exact absurd (show b ∈ ([] : List Addr) from z) (by simp)) (by simp)
        | some u =>
          rcases hO b with z | ⟨ob, xs, z⟩
          · rw [q] at z; cases z
          · have z2 := un.frzs b ob _ z
            obtain ⟨e1, _⟩ := hok b _ z
            obtain ⟨e2, _⟩ := hok' b _ z2
            rw [e] at e1; cases e1
            exact e2
  cases hk : K.lookup a with
  | some o =>
    -- the script is one of the module's own objects
    have e := KX a o hk
    rw [ha] at e
    cases e
    refine core (fun _ => none) (fun _ => .inl rfl) (.inr ⟨_, vs.toArray, _, hk, rfl, rfl, rfl, by rw [List.size_toArray, lenV]; exact hl, by simpa using rv⟩) (fun b u z => by have z' : (none : Option HO) = some u := z; cases z') (fun b z => absurd rfl z) fun z => absurd rfl z
  | none =>
    refine core (fun b => if b = a then some (.frz { cls := .type "list", data := .seq vs.toArray } (.lst (ns.map V.int))) else none) (fun b => ?_) (.inl (.inr ⟨{ cls := .type "list", data := .seq vs.toArray }, if_pos rfl⟩)) (fun b u z => ?_) (fun b z => ?_) fun _ => hk
    · by_cases hb : b = a
      · exact .inr ⟨_, _, if_pos hb⟩
      · exact .inl (if_neg hb)
    · by_cases hb : b = a
      · have z' := (if_pos hb).symm.trans z
        cases z'
        subst hb
        exact ⟨ha, by rw [List.length_map]; exact hl, vs, _, rv, ha⟩
      · have z' := (if_neg hb).symm.trans z
        cases z'
    · by_cases hb : b = a
      · exact hb
      · exact absurd (if_neg hb) z
end L2
namespace L2
open PySem PySem.Spec PyProof.Rows
theorem walk_of {l : PySem.W.OpenLaw} {n k : Nat} {q : Program} {loose : List Str} {XP : (Str → Option Value) → Heap → Prop} {YP : World → Heap → Prop} {d : DefRec} {K : Params → PySem.W.Frag} {CX : World → CXT} {sp : World → Sp} {x : Str}
    (hn : l.most = some n) (hn2 : n ≤ sizeLine) (hdf : d.params.defaults = []) (hr : Room k callerA)
    (hY : ∀ (w : World) (h : Heap), YP w h → (K w.params).In h)
    (F : ∀ (w : World) (mg : Str → Option Value) (fa : Addr) (h : Heap), (K w.params).In h → h.Ns mainGlobals mg → mg d.name = some (.ref fa) →
      ∃ fd : FuncData, (∀ (s : Shared) (u : Value), BindsTo s fd ⟨[u], []⟩ [(x, u)]) ∧
        ∀ base : Heap, (K w.params).In base → base.Ns mainGlobals mg → FnOk l.prog w (K w.params) mg base (CX w) k fa fd [x] (sp w))
    (hsp : ∀ (w : World) (H : Hp) (a : Addr) (ns : List Int), ns.length ≤ n → Only H → SqL (K w.params) H a (ns.map V.int) → sp w [.ref a] H (fun v _ => v = .bl true) fun _ _ _ => False)
    (hCX : ∀ (w : World) (H : Hp) (s : Shared) (e : Value) (s' : Shared), CX w [] H s (fun _ _ _ => False) e s' → False) :
    PySem.W.WalkO q loose XP YP l.row.toRowW d [] (fun f vs => PySem.call f vs) := by
  refine Att.attach_call hn hdf fun w s₀ s₁ mg mb fa o pm cd doc a vs ns G Y ho hd hcd hmg hobj hints hlen hg => ?_
  have KX := hY w _ Y
  obtain ⟨fd, hb, hF⟩ := F w mg fa _ KX G.T.g hmg
  exact law_call KX G.T.g G.T.b G.T.builtins G.T.nolimit hg hobj hints (Nat.le_trans hlen hn2) hr hF hb (fun H hO hS => hsp w H a ns hlen hO hS) fun H e s' => hCX w H s₁ e s'
end L2
/- THE LAST THEOREM (shape; LID, My.* are yours):
   My.Adr: a structure of the addresses that your layer names (classes, functions); My.Txt K t: a structure (Prop) of the equations over K;
   My.txt_mk : {K} {implicit addresses ..} (e1 : nsIn K mainGlobals "law" = some (some (.ref f))) (e2 : K.lookup f = some ⟨oc, od, .func (fnOf "law" "law" params body scope dV kV doc pm an cdv ct), sl⟩) (e3 : codeIn K cdv "law" = true) .. : ∃ t, My.Txt K t
(the tactic k_is has no namespace: write k_is) -/
namespace L2
open PySem PySem.Spec PyProof.Rows
noncomputable def defArgs (s : Stmt) : Arguments := match s with
  | .FunctionDef _ a _ _ _ _ _ _ _ _ => a
  | _ => { posonlyargs := [], args := [], vararg := none, kwonlyargs := [], kw_defaults := [], kwarg := none, defaults := [] }
noncomputable def defBody (s : Stmt) : List Stmt := match s with
  | .FunctionDef _ _ b _ _ _ _ _ _ _ => b
  | _ => []
noncomputable def defScope (s : Stmt) : Scope := match s with
  | .FunctionDef _ _ _ _ _ _ sc _ _ _ => sc
  | _ => { kind := .function, names := [], isGenerator := false, isCoroutine := false }
noncomputable abbrev CX0 : CXT := fun _ _ _ _ _ _ => False
noncomputable abbrev E0 : XK := fun _ _ _ => False
theorem pass0 {X : Cx} : Passes CX0 X E0 := fun _ _ _ _ _ _ _ h => h.elim
structure Fun (K : PySem.W.Frag) (x qual : Str) (st : Stmt) (f : Addr) (fd : FuncData) : Prop where
  ex : ∃ (oc : Value) (od : Option Addr) (kV doc pm : Value) (an : Option Addr) (cdv ct : Value) (osl : Array (Option Value)),
    fd = PySem.W.fnOf x qual (defArgs st) (defBody st) (defScope st) .none kV doc pm an cdv ct ∧ K.lookup f = some ⟨oc, od, .func fd, osl⟩ ∧ PySem.W.codeIn K cdv qual = true
  kp : PySem.W.keepIn K (.ref f) = true
section
variable {P : Program} {w : World} {K : PySem.W.Frag} {mg : Str → Option Value} {base : Heap}
theorem Fun.ok {x qual : Str} {st : Stmt} {f : Addr} {fd : FuncData} {N ps : List Str} {k : Nat} {sp : Sp} (F : Fun K x qual st f fd) (S : FnScope N ps (defScope st)) (len : ∀ vs H Q E, sp vs H Q E → vs.length = ps.length)
    (hbody : ∀ (cdv : Value) (A : Around) (outer : List Env) (s : Shared) (H : Hp) (vs : List V) (Q : VK) (E : XK), Room k (A.deeper (envOfC qual (defScope st) s.heap.objs.size f cdv)) → sp vs H Q E →
      ∃ t, PSs (cxOf CX0 P w K mg base N qual (defScope st) f cdv A outer s H E).nox (defBody st) t ∧ t { nx := fun _ H' => Q .non H', rt := Q } (start N vs) H) : FnOk P w K mg base CX0 (k + 1) f fd ps sp := by
  obtain ⟨oc, od, kV, doc, pm, an, cdv, ct, osl, rfl, lk, hcd⟩ := F.ex
  refine fn_of lk hcd S len fun A outer s H vs Q E hr hsp => ?_
  obtain ⟨t, h, q⟩ := hbody cdv A outer s H vs Q E hr hsp
  exact ⟨t, h.nox, q⟩
theorem Fun.binds {x qual : Str} {st : Stmt} {f : Addr} {fd : FuncData} {ps : List Str} (F : Fun K x qual st f fd)
    (h : ∀ (kV doc pm : Value) (an : Option Addr) (cdv ct : Value) (us : List Value), us.length = ps.length → bindArgs (PySem.W.fnOf x qual (defArgs st) (defBody st) (defScope st) .none kV doc pm an cdv ct) ⟨us, []⟩ = pure (ps.zip us)) : Binds K fd ps [] := by
  obtain ⟨oc, od, kV, doc, pm, an, cdv, ct, osl, rfl, lk, hcd⟩ := F.ex
  exact .all (h kV doc pm an cdv ct)
theorem fun_mk {x qual : Str} {st : Stmt} {f : Addr} {oc : Value} {od an : Option Addr} {osl : Array (Option Value)} {kV doc pm cdv ct : Value} (l : K.lookup f = some ⟨oc, od, .func (PySem.W.fnOf x qual (defArgs st) (defBody st) (defScope st) .none kV doc pm an cdv ct), osl⟩)
    (c : PySem.W.codeIn K cdv qual = true) (k : PySem.W.keepIn K (.ref f) = true) : Fun K x qual st f (PySem.W.fnOf x qual (defArgs st) (defBody st) (defScope st) .none kV doc pm an cdv ct) := ⟨⟨oc, od, kV, doc, pm, an, cdv, ct, osl, rfl, l, c⟩, k⟩
end
theorem hu_of {A : Around} {k : Nat} (hr : Room k A) : A.units + 1 < cLine := Nat.lt_of_le_of_lt (Nat.add_le_add_left (by decide : 1 ≤ 64) _) hr.units
section
variable {X : Cx}
end
noncomputable def Same (H H' : Hp) : Prop := ∀ b o, H b = some o → H' b = some o
theorem Same.refl (H : Hp) : Same H H := fun _ _ h => h
theorem Same.trans {H H1 H2 : Hp} (a : Same H H1) (b : Same H1 H2) : Same H H2 := fun c o h => b c o (a c o h)
theorem Same.free {H H' : Hp} (e : Same H H') {l : Addr} (h : H' l = Option.none) : H l = Option.none := by
  cases q : H l with
  | none => rfl
  | some o =>
    rw [e l o q] at h
    cases h
theorem Same.seq {K : PySem.W.Frag} {H H' : Hp} {a : Addr} {xs : List V} (e : Same H H') (h : SqL K H a xs) : SqL K H' a xs := by
  rcases h with (h | ⟨o, h⟩) | h
  · exact .inl (.inl (e _ _ h))
  · exact .inl (.inr ⟨o, e _ _ h⟩)
  · exact .inr h
section
variable {κ : Type} [DecidableEq κ]
end
end L2
set_option maxRecDepth 100000
set_option maxHeartbeats 4000000
namespace L2
open PySem PySem.Spec PyProof.Rows
noncomputable def clOf (names : List (Str × NameKind)) (cells : List (Str × Addr)) : List (Str × Addr) :=
  names.foldl (fun cs nk => if nk.2 == NameKind.free then (nk.1, (cells.lookup nk.1).getD 0) :: cs else cs) []
theorem clOf_go {cells : List (Str × Addr)} {env : Env} (hc : env.cells = cells) : ∀ (names : List (Str × NameKind)) (acc : List (Str × Addr)), (∀ x ∈ names, x.2 = .free → ∃ c, cells.lookup x.1 = some c) →
    (forIn names acc (fun (x : Str × NameKind) (r : List (Str × Addr)) => if (x.2 == NameKind.free) = true then (do let c ← cellOf env x.1; pure (ForInStep.yield ((x.1, c) :: r))) else (pure (ForInStep.yield r) : Sem _)))
      = (pure (names.foldl (fun cs nk => if nk.2 == NameKind.free then (nk.1, (cells.lookup nk.1).getD 0) :: cs else cs) acc) : Sem (List (Str × Addr)))
  | [], acc, _ => rfl
  | x :: r, acc, h => by
    have ih := fun acc => clOf_go hc r acc fun y hy => h y (List.mem_cons_of_mem _ hy)
    simp only [List.forIn_cons, List.foldl_cons]
    cases e : (x.2 == NameKind.free) with
    | false =>
      simp only [Bool.false_eq_true, if_false]
      exact ih acc
    | true =>
      obtain ⟨c, hcx⟩ := h x List.mem_cons_self (by simpa using e)
      have hcell : cellOf env x.1 = pure c := by unfold cellOf; rw [hc, hcx]
      simp only [if_true, hcell, hcx, Option.getD_some]
      exact ih _
theorem closure_eq {scope : Scope} {env : Env} (h : ∀ x ∈ scope.names, x.2 = .free → ∃ c, env.cells.lookup x.1 = some c) : closureFor scope env = pure (clOf scope.names env.cells) := by
  have := clOf_go (env := env) rfl scope.names [] h
  unfold closureFor clOf
  rw [← this]
  simp only [bind_pure]
theorem clOf_look {cells : List (Str × Addr)} : ∀ {names : List (Str × NameKind)} {acc : List (Str × Addr)} {x : Str} {c : Addr}, (∀ y ∈ names, y.2 = .free → ∃ c, cells.lookup y.1 = some c) →
    (names.foldl (fun cs nk => if nk.2 == NameKind.free then (nk.1, (cells.lookup nk.1).getD 0) :: cs else cs) acc).lookup x = some c → (∀ c, acc.lookup x = some c → cells.lookup x = some c) → cells.lookup x = some c
  | [], acc, x, c, _, h, ha => ha c h
  | y :: r, acc, x, c, hy, h, ha => by
    simp only [List.foldl_cons] at h
    refine clOf_look (fun z hz => hy z (List.mem_cons_of_mem _ hz)) h ?_
    intro c' h'
    split at h'
    · rename_i hf
      obtain ⟨c0, e0⟩ := hy y List.mem_cons_self (by simpa using hf)
      rw [List.lookup_cons] at h'
      split at h'
      · rename_i hx
        have hx' : x = y.1 := by simpa using hx
        rw [e0] at h'
        subst hx'
        rw [e0]
        simpa using h'
      · exact ha c' h'
    · exact ha c' h'
theorem clOf_lookup {names : List (Str × NameKind)} {cells : List (Str × Addr)} {x : Str} {c : Addr} (hy : ∀ y ∈ names, y.2 = .free → ∃ c, cells.lookup y.1 = some c) (h : (clOf names cells).lookup x = some c) : cells.lookup x = some c :=
  clOf_look hy h fun c h => by simp at h
theorem clOf_has0 {cells : List (Str × Addr)} : ∀ {names : List (Str × NameKind)} {acc : List (Str × Addr)} {x : Str}, ((x, NameKind.free) ∈ names ∨ (acc.lookup x).isSome) →
    ((names.foldl (fun cs nk => if nk.2 == NameKind.free then (nk.1, (cells.lookup nk.1).getD 0) :: cs else cs) acc).lookup x).isSome
  | [], acc, x, h => by simpa using h
  | y :: r, acc, x, h => by
    simp only [List.foldl_cons]
    refine clOf_has0 ?_
    rcases h with h | h
    · rcases List.mem_cons.mp h with e | h
      · subst e
        right
        simp [List.lookup_cons]
      · exact .inl h
    · right
      split
      · rw [List.lookup_cons]
        split
        · rfl
        · exact h
      · exact h
theorem clOf_has {names : List (Str × NameKind)} {cells : List (Str × Addr)} {x : Str} (h : (x, NameKind.free) ∈ names) : ∃ c, (clOf names cells).lookup x = some c :=
  Option.isSome_iff_exists.mp (clOf_has0 (.inl h))
structure CmpScope (N : List Str) (outer scope : Scope) (M : List Str) (src : List (Option Nat)) : Prop where
  kind : scope.kind = .function
  nocell : ∀ y ∈ scope.names, y.2 ≠ .cell
  free : ∀ y ∈ scope.names, y.2 = .free → outer.names.lookup y.1 = some .cell ∨ outer.names.lookup y.1 = some .free
  names : ∀ y ∈ scope.names, y.2 = .local → scope.names.lookup y.1 = some .local
  lf : ∀ y ∈ scope.names, y.2 = .free → scope.names.lookup y.1 = some .free
  len : M.length = src.length
  nd : M.Nodup
  src : ∀ p ∈ M.zip src, ∀ j ∈ p.2, N[j]? = some p.1 ∧ (p.1, NameKind.free) ∈ scope.names
noncomputable def stC (src : List (Option Nat)) (σ : St) : St := src.map fun o => o.bind fun j => (σ[j]?).join
noncomputable def cxC (X : Cx) (M : List Str) (scope : Scope) (C : Addr) (s : Shared) (H : Hp) (ex : List Addr) : Cx :=
  { X with N := M, s₀ := s, H₀ := H, env := compEnvC scope (clOf scope.names X.env.cells) C X.env, outer := X.stack, ex := ex, fn := fun _ => false, pn := [], xe := fun _ _ => False }
noncomputable def PTs (X : Cx) (ifs : List Expr) (t : TT) : Prop :=
  ∀ (pins : List (Addr × Obj)) (s : Shared) (σ : St) (H : Hp) (Q : Bool → Hp → Prop), Inv X pins σ H s → t σ H Q →
    wpAny (model X.prog X.w) X.A (forIn ifs true fun c r => if r = true then do let ok ← isTrue c X.env (eval c X.env); pure (ForInStep.yield ok) else pure (ForInStep.yield r)) (TP X pins σ Q) X.xe s
noncomputable def tYes : TT := fun _ H Q => Q true H
theorem pts_nil {X : Cx} : PTs X [] tYes := fun pins s σ H Q I h => wpAny_tests_nil ⟨H, I, h⟩
theorem pts_one {X : Cx} {c : Expr} {t : TT} (h : PT X c t) : PTs X [c] t := fun pins s σ H Q I hq => wpAny_tests_one (h pins s σ H Q I hq)
noncomputable def Wk (a b : St) : Prop := a.length = b.length ∧ ∀ (i : Nat) v, a[i]? = some (some v) → b[i]? = some (some v)
noncomputable def tComp (src : List (Option Nat)) (wi : TI) (g : TG) (tt : TT) (te : TE) : TE := fun σ H Q => wi σ H fun J H1 => ∀ D, H1 D = none → ∃ W : Nat → Nat → Hp → Prop, (∃ m, W 0 m (upd H1 D (.lst []))) ∧ ∀ i m H, W i m H →
  (J.stop i H ∧ Q (.ref D) H) ∨ (J.go i H ∧ ∃ N : Hp → Prop, (∀ H', N H' → ∃ m', m' < m ∧ W (i + 1) m' H') ∧ ∀ x H', J.yld i H x H' →
    g x (stC src σ) H' fun σ2 H2 => Wk (stC src σ) σ2 ∧ tt σ2 H2 fun b H3 => if b = true then te σ2 H3 fun v H4 => ∃ ys, H4 D = some (.lst ys) ∧ ys.length < sizeLine ∧ N (upd H4 D (.lst (ys ++ [v]))) else N H3)
theorem compLoop_gen {prog : Program} {w : World} {A : Around} {R : Result → Shared → Prop} {s : Shared} {elt target iter : Expr} {ifs : List Expr} {scope : Scope} {pos : Pos} {it acc : Value} {env : Env} (I : Nat → Shared → Prop)
    (turn : ∀ n s, I n s → wpAny (model prog w) A (pyNext it) (fun r s₁ => match r with
      | none => R (.ok .next) s₁
      | some v => wpAny (model prog w) A (letOwnedTupleGo target it v) (fun _ s₁' => wpAny (model prog w) A (assign target env v) (fun _ s₂ =>
          wpAny (model prog w) A (forIn ifs true fun c r => if r = true then do let ok ← isTrue c env (eval c env); pure (ForInStep.yield ok) else pure (ForInStep.yield r)) (fun ok s₃ =>
            if ok = true then wpAny (model prog w) A (eval elt env) (fun x s₄ =>
              wpAny (model prog w) A (call (.builtin "list.append") [acc, x]) (fun _ s₅ => ∃ m, m < n ∧ I m s₅) (fun _ _ => False) s₄) (fun _ _ => False) s₃
            else ∃ m, m < n ∧ I m s₃) (fun _ _ => False) s₂) (fun _ _ => False) s₁') (fun _ _ => False) s₁) (fun _ _ => False) s)
    (n : Nat) (h : I n s) :
    codeAny (model prog w) A (.compLoop (.ListComp elt [⟨target, iter, ifs, 0⟩] scope pos) 0 it acc env) R s := by
  refine codeAny_loop rfl I (fun n s hI => ?_) n h
  show wpAny _ A ((compTurn (.ListComp elt [⟨target, iter, ifs, 0⟩] scope pos) 0 it acc env).onRaise (fun x => do noteFrame x env; theTreesLotGoes x)) _ _ s
  refine wpAny_noted ?_
  rw [compTurn_list]
  refine wpAny_bind (wpAny_standAt (wpAny_bind (wpAny_mono (turn n s hI) (fun r s₁ h₁ => ?_) fun _ _ h' => h'.elim)))
  cases r with
  | none => exact wpAny_pure h₁
  | some v =>
    refine wpAny_bind (wpAny_mono h₁ (fun _ s₁' h₁' => ?_) fun _ _ h' => h'.elim)
    refine wpAny_bind (wpAny_mono h₁' (fun _ s₂ h₂ => wpAny_bind (wpAny_mono h₂ (fun ok s₃ h₃ => ?_) fun _ _ h' => h'.elim)) fun _ _ h' => h'.elim)
    cases ok with
    | false => exact wpAny_pure ⟨rfl, h₃⟩
    | true =>
      exact wpAny_bind (wpAny_bind (wpAny_mono h₃ (fun x s₄ h₄ => wpAny_bind (wpAny_mono h₄ (fun _ s₅ h₅ => wpAny_pure (wpAny_pure ⟨rfl, h₅⟩)) fun _ _ h' => h'.elim)) fun _ _ h' => h'.elim))
section
variable {X : Cx} {elt tg iter : Expr} {ifs : List Expr} {scope : Scope} {pos : Pos} {M : List Str} {src : List (Option Nat)} {wi : TI} {g : TG} {tt : TT} {te : TE}
theorem relabel_free {env : Env} {scope : Scope} {x : Str} (hn : ∀ y ∈ scope.names, y.2 ≠ .cell) (h : (relabel scope env).names.lookup x = some .cell ∨ (relabel scope env).names.lookup x = some .free) : (x, NameKind.free) ∈ scope.names := by
  have key : ∀ k, (relabel scope env).names.lookup x = some k → (k = .cell ∨ k = .free) → (x, NameKind.free) ∈ scope.names := by
    intro k hk hkk
    have hm := PySem.mem_of_lookup hk
    unfold relabel at hm
    obtain ⟨⟨n, k0⟩, hy, e⟩ := List.mem_map.mp hm
    dsimp only at e
    split at e
    · rename_i hc
      simp only [Bool.and_eq_true] at hc
      have : k0 = .free := by simpa using hc.1.1
      subst this
      cases e
      exact hy
    · cases e
      rcases hkk with z | z
      · subst z; exact absurd rfl (hn _ hy)
      · subst z; exact hy
  rcases h with h | h
  · exact key _ h (.inl rfl)
  · exact key _ h (.inr rfl)
theorem inv_comp {pins : List (Addr × Obj)} {σ : St} {H : Hp} {s s1 : Shared} {fp : List Addr} {m1 : Str → Option Value} (S : CmpScope X.N X.env.scope scope M src) (I : Inv X pins σ H s) (hf : ∀ b ∈ fp, FpOk X pins H b)
    (hfl : ∀ b ∈ fp, b < s.heap.objs.size) (hn : s1.heap.Ns s.heap.objs.size m1) (hk : ∀ b o, s.heap.get? b = some o → s1.heap.get? b = some o) (hos : s1.os = s.os) (hg : s1.gens = s.gens) :
    Inv (cxC X M scope s.heap.objs.size s H fp) [] (stC src σ) H s1 := by
  have hcells : ∀ x ∈ scope.names, x.2 = .free → ∃ c, X.env.cells.lookup x.1 = some c := fun x hx hfr => I.ok.has x.1 (S.free x hx hfr)
  have sub : ∀ x c, (clOf scope.names X.env.cells).lookup x = some c → X.env.cells.lookup x = some c := fun x c h => clOf_lookup hcells h
  have cellK : ∀ c v, s.heap.IsCell c v → s1.heap.IsCell c v := fun c v ⟨o, ho, hd⟩ => ⟨o, hk c o ho, hd⟩
  refine ⟨⟨I.ok.mod, S.kind, I.ok.glob, I.ok.blt, Nat.le_refl _, fun y z c h1 h2 => I.ok.inj y z c (sub _ _ h1) (sub _ _ h2), fun x hx => clOf_has (relabel_free S.nocell hx), fun x c h => (nomatch h), I.ok.hd, I.ok.frames, .inl rfl,
    fun b hb => ⟨Nat.ne_of_lt (hfl b hb), fun x c h => (hf b hb).2.2.2.2.1 x c (sub _ _ h)⟩, I.bs, Nat.le_trans I.ok.bsz I.sz, fun b o e hb => ?_, fun b hb z => ?_, I.stack, I.stkFree⟩,
    hos, (by rw [hg]; exact I.bare), Un.kept hk, ⟨m1, hn, fun i x v h1 h2 h3 => ?_⟩, fun x c h => ?_, I.hok.fresh (Nat.le_refl _), fun x c h => I.freeC x c (sub _ _ h), fun p hp => absurd hp (by simp [cxC]), I.hok.kept hk, ?_⟩
  · rcases (hf b hb).2.2.2.1 with z | z
    · exact I.ok.noex b o e z
    · exact absurd (Nat.lt_of_lt_of_le (Heap.lt_size e) (Nat.le_trans I.ok.bsz z)) (Nat.lt_irrefl _)
  · rcases List.mem_cons.mp (I.stkSub b z) with q | q
    · exact (hf b hb).2.1 q
    · exact (hf b hb).2.2.1 q
  · -- a name taken over
    have h1 : M[i]? = some x := h1
    unfold stC at h2
    rw [List.getElem?_map] at h2
    cases hs : src[i]? with
    | none => rw [hs] at h2; cases h2
    | some o =>
      rw [hs] at h2
      simp only [Option.map_some, Option.some.injEq] at h2
      cases o with
      | none => cases h2
      | some j =>
        simp only [Option.bind_some] at h2
        have hmem : (x, some j) ∈ M.zip src := by
          have : (M.zip src)[i]? = some (x, some j) := by rw [List.getElem?_zip_eq_some]; exact ⟨h1, hs⟩
          exact List.mem_of_getElem? this
        obtain ⟨hN, hfr⟩ := S.src _ hmem j rfl
        have hσ : σ[j]? = some (some v) := by
          cases e : σ[j]? with
          | none => rw [e] at h2; cases h2
          | some o => rw [e] at h2; simp only [Option.join_some] at h2; rw [h2]
        have hkind := S.free _ hfr rfl
        obtain ⟨m, hm, hl⟩ := I.loc
        obtain ⟨u, r, l⟩ := hl j x v hN hσ (.inr hkind)
        refine ⟨u, r, ?_⟩
        have hloc : X.env.kindOf x ≠ some .local := by
          show X.env.scope.names.lookup x ≠ _
          rcases hkind with q | q <;> rw [q] <;> decide
        rcases l with l | ⟨_, c, e, z⟩
        · exact absurd l.1 hloc
        · obtain ⟨c', e'⟩ := clOf_has (cells := X.env.cells) hfr
          have := sub _ _ e'
          rw [e] at this
          cases this
          refine .inr ⟨?_, c, e', cellK _ _ z⟩
          rcases h3 with q | q
          · exact absurd q (by
              -- a name that is free in the block is not local there
              exact (by
                intro q
                have : scope.names.lookup x = some .local := by
                  have hb : ∀ (names : List (Str × NameKind)), (names.map fun (n, k) => if (k == NameKind.free && X.env.scope.kind == .function && X.env.kindOf n == some .cell) then (n, NameKind.cell) else (n, k)).lookup x = some .local → names.lookup x = some .local := by
                    intro names
                    induction names with
                    | nil => intro h; simp at h
                    | cons y r ih =>
                      obtain ⟨n, k⟩ := y
                      intro h
                      simp only [List.map_cons] at h
                      by_cases hx : x = n
                      · subst hx
                        split at h
                        · simp [List.lookup_cons] at h
                        · simpa [List.lookup_cons] using h
                      · have hx' : (x == n) = false := by simpa using hx
                        split at h
                        · simp only [List.lookup_cons, hx'] at h ⊢; exact ih h
                        · simp only [List.lookup_cons, hx'] at h ⊢; exact ih h
                  exact hb _ q
                rw [S.lf _ hfr rfl] at this
                cases this))
          · exact q
  · obtain ⟨v, z⟩ := I.cell x c (sub _ _ h)
    exact ⟨v, cellK _ _ z⟩
  · show (stC src σ).length = M.length
    unfold stC
    rw [List.length_map, S.len]
theorem pe_lcomp (S : CmpScope X.N X.env.scope scope M src) (hc : X.calm = true) (hi : PI X tg iter wi) (hg : M.Nodup → ∀ C s H ex, PG (cxC X M scope C s H ex) tg g) (ht : ∀ C s H ex, PTs (cxC X M scope C s H ex) ifs tt)
    (he : ∀ C s H ex, PE (cxC X M scope C s H ex) elt te) (hs : ∀ x, foldedSetIterable iter X.env x = pure x := by intro _; rfl) :
    PE X (.ListComp elt [⟨tg, iter, ifs, 0⟩] scope pos) (tComp src wi g tt te) := by
  intro pins s σ H Q I h
  rw [eval_ListComp]
  have hcells : ∀ x ∈ scope.names, x.2 = .free → ∃ c, X.env.cells.lookup x.1 = some c := fun x hx hfr => I.ok.has x.1 (S.free x hx hfr)
  refine wpAny_comprehension_free (use := none) rfl hs (closure_eq hcells) S.kind S.names (thn (hi pins s σ H _ I h) fun v s1 h1 => thn h1 fun itv s2 h2 => ?_)
  obtain ⟨it, fp, tn, J, H2, rfl, I2, T, st2, f2, hq⟩ := h2
  refine wpAny_newObj_type ?_
  have I3 : Inv X pins σ (upd H2 s2.heap.objs.size (.lst [])) { s2 with heap := s2.heap.push { cls := .type "list", dict := none, data := .seq ([] : List Value).toArray }, toks := s2.toks } := I2.lnew (its := []) (ys := []) (t' := s2.toks) .nil (by simp)
  have hD : H2 s2.heap.objs.size = none := I2.fresh
  obtain ⟨W, ⟨m0, w0⟩, turn⟩ := hq _ hD
  generalize hDn : s2.heap.objs.size = D at *
  generalize hs3 : ({ s2 with heap := s2.heap.push { cls := .type "list", dict := none, data := .seq ([] : List Value).toArray }, toks := s2.toks } : Shared) = s3 at *
  have f3 : ∀ b ∈ fp, FpOk X pins (upd H2 D (.lst [])) b := fun b hb => ⟨by
    obtain ⟨o, e, _⟩ := T.obj _ _ st2 b hb
    rw [upd_ne (by rw [← hDn]; exact Nat.ne_of_lt (Heap.lt_size e))]
    exact (f2 b hb).1, (f2 b hb).2⟩
  have k23 : ∀ b o, s2.heap.get? b = some o → s3.heap.get? b = some o := fun b o e => by rw [← hs3]; exact Heap.get?_push_of_some _ e
  have st3 : tn 0 s3.heap := T.keep _ _ _ st2 fun b _ o e => k23 b o e
  have fl3 : ∀ b ∈ fp, b < s3.heap.objs.size := fun b hb => by
    obtain ⟨o, e, _⟩ := T.obj _ _ st3 b hb
    exact Heap.lt_size e
  refine wpAny_newFunctionEnv S.nocell (by intro y hy; simp at hy) (fun h₁ hns₁ hsb₁ => ?_) S.kind
  have k34 : ∀ b o, s3.heap.get? b = some o → h₁.get? b = some o := fun b o e => hsb₁.extBut b o (Nat.ne_of_lt (Heap.lt_size e)) (Heap.get?_push_of_some _ e)
  generalize hs4 : ({ s3 with heap := h₁, toks := s3.toks + ([] : List (Str × Value)).length } : Shared) = s4
  have I4 : Inv (cxC X M scope s3.heap.objs.size s3 (upd H2 D (.lst [])) fp) [] (stC src σ) (upd H2 D (.lst [])) s4 := by
    rw [← hs4]
    exact inv_comp S I3 f3 fl3 hns₁ k34 rfl rfl
  have st4 : tn 0 s4.heap := T.keep _ _ _ st3 fun b _ o e => by rw [← hs4]; exact k34 b o e
  generalize hX' : cxC X M scope s3.heap.objs.size s3 (upd H2 D (.lst [])) fp = X' at *
  have hg' : PG X' tg g := by rw [← hX']; exact hg S.nd _ _ _ _
  have ht' : PTs X' ifs tt := by rw [← hX']; exact ht _ _ _ _
  have he' : PE X' elt te := by rw [← hX']; exact he _ _ _ _
  have eP : X'.prog = X.prog := by rw [← hX']; rfl
  have eW : X'.w = X.w := by rw [← hX']; rfl
  have eK : X'.K = X.K := by rw [← hX']; rfl
  have eA : X'.A = X.A := by rw [← hX']; rfl
  have ex' : X'.xe = fun _ _ => False := by rw [← hX']; rfl
  have ec : X'.calm = true := by rw [← hX']; exact hc
  have eE : X'.env = compEnvC scope (clOf scope.names X.env.cells) s3.heap.objs.size X.env := by rw [← hX']; rfl
  have stat : ∀ {H' : Hp}, (∀ b ∈ fp, H' b = none) → ∀ b ∈ fp, FpOk X' [] H' b := fun hn b hb => by
    rw [← hX']
    refine ⟨hn b hb, Nat.ne_of_lt (fl3 b hb), fun z => ?_, .inl hb, fun x c h => (f3 b hb).2.2.2.2.1 x c (clOf_lookup hcells h), fun p hp => absurd hp (by simp [cxC])⟩
    rcases List.mem_cons.mp (I3.stkSub b z) with q | q
    · exact (f3 b hb).2.1 q
    · exact (f3 b hb).2.2.1 q
  -- behind the block
  have fin : ∀ (H' : Hp) (s' : Shared), Inv X' [] (stC src σ) H' s' → Q (.ref D) H' → compPost (model X.prog X.w) X.A X.xe none (EP X pins σ Q) (.ref D) s3.heap.objs.size (.ok .next) s' := by
    intro H' s' J' q
    rw [← hX'] at J'
    obtain ⟨m, hn, _⟩ := id J'.loc
    refine ⟨m, hn, fun h' sb => ⟨.ref D, H', ?_, rfl, q⟩⟩
    have hC : H' s3.heap.objs.size = none := J'.free
    have un : Un (frs X.stack) fp (upd H2 D (.lst [])) H' s3.heap s'.heap := J'.base
    have kC : ∀ b o, b ≠ s3.heap.objs.size → s'.heap.get? b = some o → h'.get? b = some o := fun b o hb e => sb.extBut b o hb e
    have un' : Un (frs X.stack) fp (upd H2 D (.lst [])) H' s3.heap h' :=
      ⟨fun b o e n hb hx => kC b o (Nat.ne_of_lt (Heap.lt_size e)) (un.keep b o e n hb hx),
       fun b o e n hb hx => by
        obtain ⟨sl, e'⟩ := un.slot b o e n hb hx
        exact ⟨sl, kC b _ (Nat.ne_of_lt (Heap.lt_size e)) e'⟩,
       un.free,
       fun b o e hx => by
        obtain ⟨o', e'⟩ := un.there b o e hx
        exact ⟨o', kC b _ (Nat.ne_of_lt (Heap.lt_size e)) e'⟩, un.tups, un.frzs, un.tbls⟩
    have hok' : HOk X.prog X.w H' h' := fun b u e => by
      have nb : b ≠ s3.heap.objs.size := fun z => by rw [z, hC] at e; cases e
      refine (J'.hok b u e).stay (fun c v hc' q => kC c v ?_ q) (fun _ q => q) fun _ _ q => q
      rcases hc' with z | z
      · rw [z]; exact nb
      · intro w; rw [w, hC] at z; cases z
    exact I3.call' (s' := { s' with heap := h' }) (show s'.os = s3.os from J'.os) un' hok' J'.bare fun b hb => ⟨(f3 b hb).2.2.2.1, (f3 b hb).2.1, (f3 b hb).2.2.2.2.1, (f3 b hb).2.2.2.2.2⟩
  have loop : ∀ s4' : Shared, s4' = s4 → codeAny (model X.prog X.w) X.A (.compLoop (.ListComp elt [⟨tg, iter, ifs, 0⟩] scope pos) 0 (.ref it) (.ref D) X'.env) (compPost (model X.prog X.w) X.A X.xe none (EP X pins σ Q) (.ref D) s3.heap.objs.size) s4' := by
    rintro _ rfl
    refine compLoop_gen (fun n s' => ∃ i H', Inv X' [] (stC src σ) H' s' ∧ tn i s'.heap ∧ (∀ b ∈ fp, H' b = none) ∧ W i n H') ?_ m0 ⟨0, _, I4, st4, fun b hb => (f3 b hb).1, w0⟩
    rintro n s5 ⟨i, H5, I5, st5, fr5, w5⟩
    rcases turn i n H5 w5 with ⟨stop, qn⟩ | ⟨go, N, hN, step⟩
    · have := T.done X' eP eW eK ec i [] s5 (stC src σ) H5 (fun _ _ => False) I5 (stat fr5) st5 stop
      rw [eA] at this
      refine thn this fun r s6 ⟨hr, I6⟩ => ?_
      subst hr
      exact fin H5 s6 I6 qn
    · have := T.item X' eP eW eK ec i [] s5 (stC src σ) H5 (fun _ _ => False) I5 (stat fr5) st5 go
      rw [eA] at this
      refine thn this fun r s6 ⟨u, hr, h6⟩ => ?_
      subst hr
      refine thn h6 fun _ s7 ⟨x, H7, I7, r7, y7, st7, fr7⟩ => ?_
      have I7' := I7.pinned (stat fr7) (T.obj _ _ st7)
      have a1 := hg' _ s7 (stC src σ) H7 x u _ I7' r7 (step x H7 y7)
      rw [ex', eP, eW, eA] at a1
      refine thn a1 fun _ s8 ⟨σ8, H8, I8, wk8, q8⟩ => ?_
      have a2 := ht' _ s8 σ8 H8 _ I8 q8
      rw [ex', eP, eW, eA] at a2
      refine thn a2 fun ok s9 ⟨H9, I9, q9⟩ => ?_
      have again : ∀ {H7' : Hp} {s' : Shared}, Inv X' ([] ++ pinsAt fp s7.heap) σ8 H7' s' → N H7' → ∃ m, m < n ∧ ∃ i H', Inv X' [] (stC src σ) H' s' ∧ tn i s'.heap ∧ (∀ b ∈ fp, H' b = none) ∧ W i m H' := fun {H7' s'} J7 n7 => by
        obtain ⟨m', hm, w7⟩ := hN H7' n7
        refine ⟨m', hm, i + 1, H7', J7.unpinned.weak wk8.1 wk8.2, T.keep _ _ _ st7 fun b hb o e => (J7.pin (b, o) (List.mem_append_right _ (List.mem_append_right _ (mem_pinsAt hb e)))).1, fun b hb => ?_, w7⟩
        obtain ⟨o, e, d⟩ := T.obj _ _ st7 b hb
        exact (J7.pin (b, o) (List.mem_append_right _ (List.mem_append_right _ (mem_pinsAt hb e)))).2.1
      cases ok with
      | false => exact again I9 q9
      | true =>
        have a3 := he' _ s9 σ8 H9 _ I9 q9
        rw [ex', eP, eW, eA] at a3
        refine thn a3 fun v s10 ⟨y, H10, I10, r10, ys, hl, hz, q10⟩ => ?_
        have a4 := mt_append (X := X') _ s10 σ8 H10 (.ref D) [y] (.ref D) [v] (fun _ H' => N H') I10 rfl (.cons r10 .nil) ⟨D, ys, y, rfl, rfl, hl, hz, q10⟩
        rw [ex', eP, eW, eA] at a4
        refine thn a4 fun _ s11 ⟨_, H11, I11, _, q11⟩ => ?_
        exact again I11 q11
  have e4 : ∀ c : Env, c = X'.env → codeAny (model X.prog X.w) X.A (.compStart (.ListComp elt [⟨tg, iter, ifs, 0⟩] scope pos) 0 (.ref it) (.ref D) c) (compPost (model X.prog X.w) X.A X.xe none (EP X pins σ Q) (.ref D) s3.heap.objs.size) s4 := by
    rintro _ rfl
    exact codeAny_compStart_list (loop _ rfl) (T.self _ _ _ _ _ st4 (loop _ rfl))
  exact e4 _ (by rw [eE]; rfl)
end
end L2
namespace L2
open PySem PySem.Spec PyProof.Rows
noncomputable def Its (x : Str) : It := ⟨fun i _ => i < x.cps.size, fun i H v H' => H' = H ∧ ∃ c, x.cps[i]? = some c ∧ v = .str ⟨#[c]⟩, fun i _ => i = x.cps.size⟩
theorem turn_strA {P : Program} {w : World} {K : PySem.W.Frag} {tg : Expr} (x : Str) (t : Tok) (it : Addr) : Turn P w K tg (Its x) [it] it (fun i h => h.IsStrIter it "str_ascii_iterator" x t i) where
  mem := by simp
  obj := fun i h st b hb => by
    have e : b = it := by simpa using hb
    subst e
    obtain ⟨o, e, c, d⟩ := st
    exact ⟨o, e, fun v z => by rw [d] at z; cases z⟩
  keep := fun i h h' st k => let ⟨o, ho, r⟩ := st; ⟨o, k it (by simp) o ho, r⟩
  item := by
    intro X hP hw hK hc i pins s σ H E I hf st hg
    subst hP hw hK
    obtain ⟨f0, f1, f2, f3, f4, f5⟩ := hf it (by simp)
    have hg : i < x.cps.size := hg
    refine wpAny_pyNext_ascii_item st (c := x.cps[i]) (by simp [hg]) fun h' st' sb => ?_
    have I1 : Inv X pins σ H { s with heap := h', toks := s.toks + 1 } := I.turned (t' := s.toks + 1) (fun b o hb e => (sb.2 b hb).trans e) f0 f1 f3 f4 f5
    obtain ⟨o, e, c, d⟩ := id st'
    exact ⟨_, rfl, go_of (s := { s with heap := h', toks := s.toks + 1 }) e c d (by decide) ⟨.str ⟨#[x.cps[i]]⟩, H, I1, ⟨_, rfl⟩, ⟨rfl, x.cps[i], by simp [hg], rfl⟩, st', fun b hb => (hf b hb).1⟩⟩
  done := by
    intro X hP hw hK hc i pins s σ H E I hf st hg
    subst hP hw hK
    have hg : i = x.cps.size := hg
    obtain ⟨f0, f1, f2, f3, f4, f5⟩ := hf it (by simp)
    exact wpAny_pyNext_ascii_end (I.ok.hd hc) st (by simp [hg]) fun h' eb => ⟨rfl, I.turned (t' := s.toks) (fun b o hb e => eb b o hb e) f0 f1 f3 f4 f5⟩
  self := fun _ _ _ _ _ st h => wpAny_pyIter_striter_ascii st h
theorem turn_strW {P : Program} {w : World} {K : PySem.W.Frag} {tg : Expr} (x : Str) (t : Tok) (it : Addr) : Turn P w K tg (Its x) [it] it (fun i h => h.IsStrIter it "str_iterator" x t i) where
  mem := by simp
  obj := fun i h st b hb => by
    have e : b = it := by simpa using hb
    subst e
    obtain ⟨o, e, c, d⟩ := st
    exact ⟨o, e, fun v z => by rw [d] at z; cases z⟩
  keep := fun i h h' st k => let ⟨o, ho, r⟩ := st; ⟨o, k it (by simp) o ho, r⟩
  item := by
    intro X hP hw hK hc i pins s σ H E I hf st hg
    subst hP hw hK
    obtain ⟨f0, f1, f2, f3, f4, f5⟩ := hf it (by simp)
    have hg : i < x.cps.size := hg
    refine wpAny_pyNext_wide_item st (c := x.cps[i]) (by simp [hg]) fun h' st' sb => ?_
    have I1 : Inv X pins σ H { s with heap := h', toks := s.toks + 1 } := I.turned (t' := s.toks + 1) (fun b o hb e => (sb.2 b hb).trans e) f0 f1 f3 f4 f5
    obtain ⟨o, e, c, d⟩ := id st'
    exact ⟨_, rfl, go_of (s := { s with heap := h', toks := s.toks + 1 }) e c d (by decide) ⟨.str ⟨#[x.cps[i]]⟩, H, I1, ⟨_, rfl⟩, ⟨rfl, x.cps[i], by simp [hg], rfl⟩, st', fun b hb => (hf b hb).1⟩⟩
  done := by
    intro X hP hw hK hc i pins s σ H E I hf st hg
    subst hP hw hK
    have hg : i = x.cps.size := hg
    obtain ⟨f0, f1, f2, f3, f4, f5⟩ := hf it (by simp)
    exact wpAny_pyNext_wide_end (I.ok.hd hc) st (by simp [hg]) fun h' eb => ⟨rfl, I.turned (t' := s.toks) (fun b o hb e => eb b o hb e) f0 f1 f3 f4 f5⟩
  self := fun _ _ _ _ _ st h => wpAny_pyIter_striter_wide st h
section
variable {X : Cx} {tg : Expr}
noncomputable def iStr (tl : TE) : TI := fun σ H R => tl σ H fun v H1 => ∃ x, v = .str x ∧ R (Its x) H1
theorem pi_str {l : Expr} {tl : TE} (hl : PE X l tl) : PI X tg l (iStr tl) := by
  intro pins s σ H R I h
  refine thn (hl pins s σ H _ I h) fun v s1 ⟨y, H1, I1, r1, q1⟩ => ?_
  obtain ⟨x, e, q⟩ := q1
  subst e
  obtain ⟨t, rfl⟩ := r1
  have fin : ∀ b ∈ [s1.heap.objs.size], FpOk X pins H1 b := fun b hb => by
    have e : b = s1.heap.objs.size := by simpa using hb
    subst e
    exact I1.fpOk (Nat.le_refl _) (I1.hok.fresh (Nat.le_refl _))
  cases ha : x.cps.all (· < 128)
  · refine wpAny_pyIter_wide ha ?_
    exact ⟨s1.heap.objs.size, [s1.heap.objs.size], _, _, H1, rfl, I1.kept (t' := s1.toks) fun b o e => Heap.get?_push_of_some _ e, turn_strW x t _, ⟨_, Heap.get?_push_size _ rfl, rfl, rfl⟩, fin, q⟩
  · refine wpAny_pyIter_ascii ha ?_
    exact ⟨s1.heap.objs.size, [s1.heap.objs.size], _, _, H1, rfl, I1.kept (t' := s1.toks) fun b o e => Heap.get?_push_of_some _ e, turn_strA x t _, ⟨_, Heap.get?_push_size _ rfl, rfl, rfl⟩, fin, q⟩
theorem vals_bools : ∀ {bs : List Bool} {us : List Value}, Vals (bs.map V.bl) us → us = bs.map Value.bool
  | [], _, .nil => rfl
  | b :: r, _, .cons h t => by
    have h : _ = Value.bool b := h
    rw [h, vals_bools t]
    rfl
theorem range_get {bs : List Bool} : (List.range bs.length).map (fun i => bs.getD i false) = bs := by
  apply List.ext_getElem
  · simp
  · intro i h1 h2
    simp at h1
    simp [h1]
theorem call_all (hc : X.calm = true) : CallR X (.builtin "all") (fun xs H Q => ∃ (a : Addr) (bs : List Bool), xs = [.ref a] ∧ SqL X.K H a (bs.map V.bl) ∧ Q (.bl (bs.all id)) H) := by
  intro pins s σ H xs us Q I r h
  obtain ⟨a, bs, rfl, hq, q⟩ := h
  obtain ⟨u, rfl, ru⟩ := vals1 r
  cases ru
  obtain ⟨its, rv, p, hz⟩ := I.list hq
  have eu := vals_bools rv
  subst eu
  have hne : a ≠ s.heap.objs.size := by
    obtain ⟨o, n, e, _⟩ := p
    exact Nat.ne_of_lt (Heap.lt_size e)
  refine call_all_walk (wpAny_pyIter_list p.isList ⟨s.heap.objs.size, _, _, _, _, _, fun i => bs.getD i false, rfl, Walks.list (A := X.A.in1) (I.ok.hd hc) _ a hne (bs.map Value.bool).toArray, ⟨⟨_, Heap.get?_push_size _ rfl, rfl, rfl⟩, ?_⟩, ?_, ?_⟩)
  · obtain ⟨o, ho, hr⟩ := p.isList
    exact ⟨o, Heap.get?_push_of_some _ ho, hr⟩
  · intro i v s' Q' E' hP hQ
    rw [List.getElem?_toArray, List.getElem?_map] at hP
    cases e : bs[i]? with
    | none => rw [e] at hP; cases hP
    | some b =>
      rw [e] at hP
      cases hP
      refine wpAny_truthy_bool ?_
      dsimp only at hQ
      rw [List.getD_eq_getElem?_getD, e] at hQ
      exact hQ
  · intro h' tk hk
    refine ⟨.bl _, H, I.kept (h' := h') (t' := tk) fun b o e => hk b o (fun z => ?_) (Heap.get?_push_of_some _ e), rfl, ?_⟩
    · have z : b = s.heap.objs.size := by simpa using z
      subst z
      exact absurd (Heap.lt_size e) (Nat.lt_irrefl _)
    · have e : (List.range (bs.map Value.bool).toArray.size).all (fun i => bs.getD i false) = bs.all id := by
        conv => rhs; rw [← range_get (bs := bs)]
        rw [List.all_map]
        simp
      rw [e]
      exact q
theorem mt_startswith : MtR X "str.startswith" (fun x vs H Q => ∃ a b, x = .str a ∧ vs = [.str b] ∧ Q (.bl (Txt.startswith a b)) H) := by
  intro pins s σ H x vs v us Q I rx rv h
  obtain ⟨a, b, rfl, rfl, q⟩ := h
  obtain ⟨t, rfl⟩ := rx
  obtain ⟨u, rfl, ru⟩ := rv.one
  obtain ⟨t', rfl⟩ := ru
  exact SC.startswith ⟨.bl _, H, I, rfl, q⟩
theorem vals_strs : ∀ {ts : List Str} {us : List Value}, Vals (ts.map V.str) us → ∃ l, us = strValues l ∧ l.map (·.1) = ts
  | [], _, .nil => ⟨[], rfl, rfl⟩
  | x :: r, _, .cons h t => by
    obtain ⟨tk, rfl⟩ := h
    obtain ⟨l, e1, e2⟩ := vals_strs t
    exact ⟨(x, tk) :: l, by rw [e1]; rfl, by rw [← e2]; rfl⟩
theorem mt_join : MtR X "str.join" (fun x vs H Q => ∃ (a : Str) (l : Addr) (ts : List Str), x = .str a ∧ vs = [.ref l] ∧ SqL X.K H l (ts.map V.str) ∧ JoinOk a ts = true ∧ Q (.str (Txt.join a ts)) H) := by
  intro pins s σ H x vs v us Q I rx rv h
  obtain ⟨a, l, ts, rfl, rfl, hq, hj, q⟩ := h
  obtain ⟨t, rfl⟩ := rx
  obtain ⟨u, rfl, ru⟩ := rv.one
  cases ru
  obtain ⟨its, r, p, hz⟩ := I.list hq
  obtain ⟨ls, rfl, e2⟩ := vals_strs r
  exact SC.join p.isList e2 hj fun t' k => ⟨.str _, H, I.tok _, ⟨_, rfl⟩, q⟩
theorem call_int_str : CallR X (.type "int") (fun xs H Q => ∃ x n, xs = [.str x] ∧ PySem.intText? x = some n ∧ x.length ≤ 640 ∧ Q (.int n) H) := by
  intro pins s σ H xs us Q I r h
  obtain ⟨x, n, rfl, hn, hl, q⟩ := h
  obtain ⟨u, rfl, ru⟩ := vals1 r
  obtain ⟨t, rfl⟩ := ru
  exact PySem.W.KIN.call_text hn hl ⟨.int n, H, I.tok _, ⟨_, rfl⟩, q⟩
theorem part_of {v : Value} {o : Option Int} (h : IsPart v o) : ∃ p : Option (Int × Tok), v = partValue p ∧ o = p.map (·.1) := by
  cases o with
  | none => exact ⟨none, by cases h <;> rfl, rfl⟩
  | some i =>
    cases h
    exact ⟨some (i, _), rfl, rfl⟩
noncomputable def rSlS : V → Option Int → Option Int → Hp → VK → Prop := fun x lo hi H Q => ∃ z, x = .str z ∧ z.length ≤ sizeLine ∧ Q (.str (Txt.slice z lo hi)) H
theorem sl_str : SlR X rSlS := by
  intro pins s σ H x v vl vu lo hi sl Q I rx hs pl pu h
  obtain ⟨z, rfl, hz, q⟩ := h
  obtain ⟨t, rfl⟩ := rx
  obtain ⟨l, rfl, rfl⟩ := part_of pl
  obtain ⟨u, rfl, rfl⟩ := part_of pu
  refine ⟨"str", _, F.slot_str_getitem.lookup, typeIs_str _ _ _, ?_⟩
  exact wpAny_getItem_str_slice (l := l) (u := u) (st := none) hs rfl (post_val_or_str ⟨Nat.le_trans (Txt.slice_le z _ _) hz, fun t' k => ⟨.str _, H, I.tok _, ⟨_, rfl⟩, q⟩⟩)
end
end L2
namespace L2
open PySem PySem.Spec PyProof.Rows
theorem bt_len : bootBuiltins "len" = some (.builtin "len") := by first | exact PySem.boot_len | exact PyProof.Rows.boot_len | decide +kernel
theorem bt_all : bootBuiltins "all" = some (.builtin "all") := by first | exact PySem.boot_all | exact PyProof.Rows.boot_all | decide +kernel
theorem bt_isinstance : bootBuiltins "isinstance" = some (.builtin "isinstance") := by first | exact PySem.boot_isinstance | exact PyProof.Rows.boot_isinstance | decide +kernel
theorem bt_int : bootBuiltins "int" = some (.type "int") := by first | exact PySem.boot_int | exact PyProof.Rows.boot_int | decide +kernel
theorem bt_str : bootBuiltins "str" = some (.type "str") := by first | exact PySem.boot_str | exact PyProof.Rows.boot_str | decide +kernel
theorem bt_bool : bootBuiltins "bool" = some (.type "bool") := by first | exact PySem.boot_bool | exact PyProof.Rows.boot_bool | decide +kernel
theorem bt_tuple : bootBuiltins "tuple" = some (.type "tuple") := by first | exact PySem.boot_tuple | exact PyProof.Rows.boot_tuple | decide +kernel
theorem bt_enumerate : bootBuiltins "enumerate" = some (.type "enumerate") := by first | exact PySem.boot_enumerate | exact PyProof.Rows.boot_enumerate | decide +kernel
theorem bt_zip : bootBuiltins "zip" = some (.type "zip") := by first | exact PySem.boot_zip | exact PyProof.Rows.boot_zip | decide +kernel
structure OkF (P : Program) (w : World) (K : PySem.W.Frag) (mg : Str → Option Value) (base : Heap) (x : Str) (k : Nat) (ps : List Str) (sp : Sp) : Prop where
  ex : ∃ f fd, mg x = some (.ref f) ∧ PySem.W.keepIn K (.ref f) = true ∧ Binds K fd ps [] ∧ FnOk P w K mg base CX0 k f fd ps sp
structure DefF (K : PySem.W.Frag) (mg : Str → Option Value) (x : Str) (st : Stmt) (ps : List Str) : Prop where
  ex : ∃ f fd, mg x = some (.ref f) ∧ PySem.W.keepIn K (.ref f) = true ∧ Binds K fd ps [] ∧ Fun K x x st f fd
section
variable {P : Program} {w : World} {K : PySem.W.Frag} {mg : Str → Option Value} {base : Heap}
theorem DefF.ok {x : Str} {st : Stmt} {N ps : List Str} {k : Nat} {sp : Sp} (F : DefF K mg x st ps) (S : FnScope N ps (defScope st)) (len : ∀ vs H Q E, sp vs H Q E → vs.length = ps.length)
    (hbody : ∀ (f : Addr) (cdv : Value) (A : Around) (outer : List Env) (s : Shared) (H : Hp) (vs : List V) (Q : VK) (E : XK), Room k (A.deeper (envOfC x (defScope st) s.heap.objs.size f cdv)) → sp vs H Q E →
      ∃ t, PSs (cxOf CX0 P w K mg base N x (defScope st) f cdv A outer s H E).nox (defBody st) t ∧ t { nx := fun _ H' => Q .non H', rt := Q } (start N vs) H) : OkF P w K mg base x (k + 1) ps sp := by
  obtain ⟨f, fd, h1, h2, h3, h4⟩ := F.ex
  exact ⟨f, fd, h1, h2, h3, h4.ok S len (hbody f)⟩
theorem DefF.mk' {x : Str} {st : Stmt} {ps : List Str} {f : Addr} {oc : Value} {od an : Option Addr} {osl : Array (Option Value)} {kV doc pm cdv ct : Value} {h : Heap} (X : K.In h) (G : h.Ns mainGlobals mg)
    (a : PySem.W.nsIn K mainGlobals x = some (some (.ref f)))
    (l : K.lookup f = some ⟨oc, od, .func (PySem.W.fnOf x x (defArgs st) (defBody st) (defScope st) .none kV doc pm an cdv ct), osl⟩) (c : PySem.W.codeIn K cdv x = true) (k : PySem.W.keepIn K (.ref f) = true)
    (hb : ∀ (kV doc pm : Value) (an : Option Addr) (cdv ct : Value) (us : List Value), us.length = ps.length → bindArgs (PySem.W.fnOf x x (defArgs st) (defBody st) (defScope st) .none kV doc pm an cdv ct) ⟨us, []⟩ = pure (ps.zip us)) : DefF K mg x st ps :=
  ⟨f, _, PySem.W.mg_of X G a, k, (fun_mk l c k).binds hb, fun_mk l c k⟩
end
section
variable {X : Cx} {k : Nat} {ps : List Str} {sp : Sp} {x : Str} {p pos : Pos} {e : Expr} {es : List Expr} {t : TA}
theorem pe_callF (F : OkF X.prog X.w X.K X.mg X.base x k ps sp) (hr : Room k X.A) (hg : Gl X x) (ha : PA X (e :: es) t) (hdb : (x == ("__debug__" : Str)) = false := by decide)
    (he : starEach (e :: es) X.env = (false, eval e X.env) :: starEach es X.env := by rfl) (hpl : (backTo pos (starEach es X.env)).any (·.1) = false := by rfl) : PE X (.Call (.Name x p) (e :: es) [] pos) (tCall sp [] E0 t) := by
  obtain ⟨f, fd, h1, h2, h3, h4⟩ := F.ex
  exact pe_call h4 hr hg h1 h2 h3 .nil pass0 ha hdb he hpl
end
noncomputable def cmpOk (N : List Str) (outer scope : Scope) (M : List Str) (src : List (Option Nat)) : Bool :=
  (match scope.kind with | .function => true | _ => false) &&
  scope.names.all (fun y => decide (y.2 ≠ .cell)) &&
  scope.names.all (fun y => !decide (y.2 = .free) || (decide (outer.names.lookup y.1 = some .cell) || decide (outer.names.lookup y.1 = some .free))) &&
  scope.names.all (fun y => !decide (y.2 = .local) || decide (scope.names.lookup y.1 = some .local)) &&
  scope.names.all (fun y => !decide (y.2 = .free) || decide (scope.names.lookup y.1 = some .free)) &&
  decide (M.length = src.length) && decide M.Nodup &&
  (M.zip src).all (fun p => match p.2 with | none => true | some j => decide (N[j]? = some p.1) && decide ((p.1, NameKind.free) ∈ scope.names))
theorem CmpScope.of {N : List Str} {outer scope : Scope} {M : List Str} {src : List (Option Nat)} (h : cmpOk N outer scope M src = true) : CmpScope N outer scope M src := by
  unfold cmpOk at h
  simp only [Bool.and_eq_true, List.all_eq_true, Bool.or_eq_true, Bool.not_eq_true', decide_eq_true_eq, decide_eq_false_iff_not] at h
  obtain ⟨⟨⟨⟨⟨⟨⟨h1, h2⟩, h3⟩, h4⟩, h5⟩, h6⟩, h7⟩, h8⟩ := h
  refine ⟨?_, h2, fun y hy e => (h3 y hy).resolve_left fun z => z e, fun y hy e => (h4 y hy).resolve_left fun z => z e, fun y hy e => (h5 y hy).resolve_left fun z => z e, h6, h7, fun p hp j hj => ?_⟩
  · revert h1
    cases scope.kind <;> simp
  · have := h8 p hp
    cases e : p.2 with
    | none => rw [e] at hj; cases hj
    | some j' =>
      rw [e] at hj this
      cases hj
      simpa using this
noncomputable def Plain (J : It) (xs : List V) (ok : Hp → Prop) : Prop := ∀ i H, ok H → (i < xs.length → J.go i H) ∧ (i = xs.length → J.stop i H) ∧ ∀ x H', i < xs.length → J.yld i H x H' → H' = H ∧ xs[i]? = some x
theorem plain_list {K : PySem.W.Frag} {a : Addr} {xs : List V} : Plain (Itl K a) xs (fun H => SqL K H a xs) := fun i H h =>
  ⟨fun hi => ⟨xs, xs[i], h, by simp [hi]⟩, fun e => ⟨xs, h, by omega⟩, fun x H' _ y => ⟨y.1, y.2 xs h⟩⟩
theorem plain_tup {K : PySem.W.Frag} {a : Addr} {xs : List V} : Plain (Itt K a) xs (fun H => SqT K H a xs) := fun i H h =>
  ⟨fun hi => ⟨xs, xs[i], h, by simp [hi]⟩, fun e => ⟨xs, h, by omega⟩, fun x H' _ y => ⟨y.1, y.2 xs h⟩⟩
noncomputable def rangeV (lo : Int) (n : Nat) : List V := (List.range n).map fun (i : Nat) => V.int (lo + i)
theorem plain_range {lo : Int} {n : Nat} : Plain (Itr lo n) (rangeV lo n) (fun _ => True) := fun i H h => by
  refine ⟨fun hi => ?_, fun e => ?_, fun x H' hi y => ?_⟩
  · show i < n
    simpa [rangeV] using hi
  · show n ≤ i
    simp [rangeV] at e
    omega
  · obtain ⟨e, rfl⟩ := y
    refine ⟨e, ?_⟩
    unfold rangeV at hi ⊢
    rw [List.length_map, List.length_range] at hi
    rw [List.getElem?_map, List.getElem?_range hi]
    rfl
noncomputable def signV (x : Str) : List V := x.cps.toList.map fun c => V.str ⟨#[c]⟩
theorem plain_str {x : Str} : Plain (Its x) (signV x) (fun _ => True) := fun i H h => by
  refine ⟨fun hi => ?_, fun e => ?_, fun v H' hi y => ?_⟩
  · show i < x.cps.size
    simpa [signV] using hi
  · show i = x.cps.size
    simpa [signV] using e
  · obtain ⟨e, c, hc, rfl⟩ := y
    refine ⟨e, ?_⟩
    unfold signV
    rw [List.getElem?_map, Array.getElem?_toList, hc]
    rfl
noncomputable def CompW (src : List (Option Nat)) (g : TG) (tt : TT) (te : TE) (σ : St) (J : It) (H1 : Hp) (Q : VK) (D : Addr) : Prop := ∃ W : Nat → Nat → Hp → Prop, (∃ m, W 0 m (upd H1 D (.lst []))) ∧ ∀ i m H, W i m H →
  (J.stop i H ∧ Q (.ref D) H) ∨ (J.go i H ∧ ∃ N : Hp → Prop, (∀ H', N H' → ∃ m', m' < m ∧ W (i + 1) m' H') ∧ ∀ x H', J.yld i H x H' →
    g x (stC src σ) H' fun σ2 H2 => Wk (stC src σ) σ2 ∧ tt σ2 H2 fun b H3 => if b = true then te σ2 H3 fun v H4 => ∃ ys, H4 D = some (.lst ys) ∧ ys.length < sizeLine ∧ N (upd H4 D (.lst (ys ++ [v]))) else N H3)
theorem tComp_eq {src : List (Option Nat)} {wi : TI} {g : TG} {tt : TT} {te : TE} {σ : St} {H : Hp} {Q : VK} : tComp src wi g tt te σ H Q = wi σ H fun J H1 => ∀ D, H1 D = none → CompW src g tt te σ J H1 Q D := rfl
noncomputable def ForW (g : TG) (tb : TS) (D : Ends) (J : It) (σ : St) (H1 : Hp) : Prop := ∃ W : Nat → Nat → St → Hp → Prop, (∃ m, W 0 m σ H1) ∧ ∀ i m σ H, W i m σ H →
  (J.stop i H ∧ D.nx σ H) ∨ (J.go i H ∧ ∃ N : St → Hp → Prop, (∀ σ' H', N σ' H' → ∃ m', m' < m ∧ W (i + 1) m' σ' H') ∧ ∀ x H', J.yld i H x H' → g x σ H' fun σ2 H2 => tb { D with nx := N, ct := N, bk := D.nx } σ2 H2)
theorem tFor_eq {wi : TI} {g : TG} {tb : TS} {D : Ends} {σ : St} {H : Hp} : tFor wi g tb D σ H = wi σ H fun J H1 => ForW g tb D J σ H1 := rfl
theorem pe_globE {X : Cx} {x : Str} {v : V} {pos : Pos} (hg : Gl X x) (hm : ∃ u, X.mg x = some u ∧ RelV v u) (hd : (x == ("__debug__" : Str)) = false := by decide) : PE X (.Name x pos) (tC v) := by
  obtain ⟨u, h1, h2⟩ := hm
  exact pe_glob hg h1 h2 hd
end L2
namespace L2
open PySem PySem.Spec PyProof.Rows
section
variable {X : Cx} {K : PySem.W.Frag} {tg : Expr}
end
end L2
namespace L2
open PySem PySem.Spec PyProof.Rows
noncomputable def relabelS (scope outer : Scope) : Scope := { scope with names := scope.names.map fun (n, k) => if (k == .free && outer.kind == .function && outer.names.lookup n == some .cell) then (n, .cell) else (n, k) }
noncomputable def nmOk (sc : Scope) (N : List Str) (i : Nat) (x : Str) : Bool :=
  decide (N[i]? = some x) && (decide (sc.names.lookup x = some .local) || (decide (sc.names.lookup x = some .cell) || decide (sc.names.lookup x = some .free))) && !(x == ("__debug__" : Str)) && !(x == ("__classdict__" : Str))
noncomputable def lcOk (sc : Scope) (x : Str) : Bool := decide (sc.names.lookup x = some .local) || decide (sc.names.lookup x = some .cell)
noncomputable def glOk (sc : Scope) (x : Str) : Bool := decide (sc.names.lookup x = some .globalImplicit) && !(x == ("__debug__" : Str)) && !decide (x = ("__name__" : Str))
section
variable {sc : Scope} {N : List Str} {i : Nat} {x : Str}
theorem nm_nth (h : nmOk sc N i x = true) : N[i]? = some x := by
  unfold nmOk at h
  simp only [Bool.and_eq_true, decide_eq_true_eq] at h
  exact h.1.1.1
theorem nm_vis (h : nmOk sc N i x = true) : Vis sc x := by
  unfold nmOk at h
  simp only [Bool.and_eq_true, Bool.or_eq_true, decide_eq_true_eq] at h
  exact h.1.1.2
theorem nm_dbg (h : nmOk sc N i x = true) : (x == ("__debug__" : Str)) = false := by
  unfold nmOk at h
  simp only [Bool.and_eq_true, Bool.not_eq_true'] at h
  exact h.1.2
theorem nm_cd (h : nmOk sc N i x = true) : (x == ("__classdict__" : Str)) = false := by
  unfold nmOk at h
  simp only [Bool.and_eq_true, Bool.not_eq_true'] at h
  exact h.2
theorem lc_loc (h : lcOk sc x = true) : Loc sc x := by
  unfold lcOk at h
  simp only [Bool.or_eq_true, decide_eq_true_eq] at h
  exact h
theorem z152 (h : glOk sc x = true) : sc.names.lookup x = some .globalImplicit := by
  unfold glOk at h
  simp only [Bool.and_eq_true, decide_eq_true_eq] at h
  exact h.1.1
theorem gl_dbg (h : glOk sc x = true) : (x == ("__debug__" : Str)) = false := by
  unfold glOk at h
  simp only [Bool.and_eq_true, Bool.not_eq_true'] at h
  exact h.1.2
theorem z125 (h : glOk sc x = true) : x ≠ ("__name__" : Str) := by
  unfold glOk at h
  simp only [Bool.and_eq_true, Bool.not_eq_true', decide_eq_false_iff_not] at h
  exact h.2
end
noncomputable def ScIs (X : Cx) (sc : Scope) : Prop := X.env.scope = sc
section
variable {X : Cx} {sc : Scope} {N : List Str} {x : Str} {pos p : Pos}
theorem pvD (i : Nat) (h : nmOk sc N i x = true) (e1 : ScIs X sc := by rfl) (e2 : X.N = N := by rfl) : PE X (.Name x pos) (tVar i) := by
  have e1 : X.env.scope = sc := e1
  subst e1 e2
  exact pe_var (nm_nth h) (nm_vis h) (nm_dbg h) (nm_cd h)
theorem glD (h : glOk sc x = true) (e1 : ScIs X sc := by rfl) : Gl X x := by
  have e1 : X.env.scope = sc := e1
  subst e1
  exact z152 h
theorem ps_setD {i : Nat} {e : Expr} {te : TE} {pos' : Pos} (h : nmOk sc N i x = true) (hl : lcOk sc x = true) (nd : N.Nodup) (he : PE X e te) (e1 : ScIs X sc := by rfl) (e2 : X.N = N := by rfl) (hf : X.fn x = true ∨ X.env.scope.names.lookup x = some .local := by exact .inl rfl)
    (hs : swapsWith e (some (.Name x pos')) pos.line X.env = pure false := by rfl) : PS X (.Assign [.Name x pos'] e pos) (tAsg te (gName i)) := by
  have e1 : X.env.scope = sc := e1
  subst e1 e2
  exact ps_set nd (nm_nth h) (lc_loc hl) he hs hf
theorem pg_nameD {i : Nat} (h : nmOk sc N i x = true) (hl : lcOk sc x = true) (nd : N.Nodup) (e1 : ScIs X sc := by rfl) (e2 : X.N = N := by rfl) (hf : X.fn x = true ∨ X.env.scope.names.lookup x = some .local := by exact .inl rfl) : PG X (.Name x pos) (gName i) := by
  have e1 : X.env.scope = sc := e1
  subst e1 e2
  exact pg_name nd (nm_nth h) (lc_loc hl) hf
noncomputable def loOk (sc : Scope) (x : Str) : Bool := decide (sc.names.lookup x = some .local)
theorem pg_nameC {i : Nat} (h : nmOk sc N i x = true) (hl : loOk sc x = true) (nd : X.N.Nodup) (e1 : ScIs X sc) (e2 : X.N = N := by rfl) : PG X (.Name x pos) (gName i) := by
  have e1 : X.env.scope = sc := e1
  subst e1 e2
  have hl : X.env.scope.names.lookup x = some .local := of_decide_eq_true hl
  exact pg_name nd (nm_nth h) (.inl hl) (.inr hl)
theorem pe_globD {v : V} (h : glOk sc x = true) (hm : ∃ u, X.mg x = some u ∧ RelV v u) (e1 : ScIs X sc := by rfl) : PE X (.Name x pos) (tC v) := pe_globE (glD h e1) hm (gl_dbg h)
theorem pe_bltnD {v : V} {u : Value} (h : glOk sc x = true) (hm : X.mg x = none) (hv : bootBuiltins x = some u) (r : RelV v u) (e1 : ScIs X sc := by rfl) : PE X (.Name x pos) (tC v) := pe_bltn (glD h e1) hm hv r (z125 h) (gl_dbg h)
variable {e : Expr} {es : List Expr} {t : TA} {id T : String} {r : List V → Hp → VK → Prop} {k : Nat} {ps : List Str} {sp : Sp}
theorem pe_callBD (h : glOk sc x = true) (hc : CallR X (.builtin id) r) (hm : X.mg x = none) (hv : bootBuiltins x = some (.builtin id)) (ha : PA X (e :: es) t) (e1 : ScIs X sc := by rfl)
    (he : starEach (e :: es) X.env = (false, eval e X.env) :: starEach es X.env := by rfl) (hpl : (backTo pos (starEach es X.env)).any (·.1) = false := by rfl) : PE X (.Call (.Name x p) (e :: es) [] pos) (tCB r t) :=
  pe_callB hc (glD h e1) hm hv ha (z125 h) (gl_dbg h) he hpl
theorem pe_callTyD (h : glOk sc x = true) (hc : CallR X (.type T) r) (hm : X.mg x = none) (hv : bootBuiltins x = some (.type T)) (ha : PA X (e :: es) t) (e1 : ScIs X sc := by rfl)
    (he : starEach (e :: es) X.env = (false, eval e X.env) :: starEach es X.env := by rfl) (hpl : (backTo pos (starEach es X.env)).any (·.1) = false := by rfl) : PE X (.Call (.Name x p) (e :: es) [] pos) (tCB r t) :=
  pe_callTy hc (glD h e1) hm hv ha (z125 h) (gl_dbg h) he hpl
theorem pe_callFD (h : glOk sc x = true) (F : OkF X.prog X.w X.K X.mg X.base x k ps sp) (hr : Room k X.A) (ha : PA X (e :: es) t) (e1 : ScIs X sc := by rfl)
    (he : starEach (e :: es) X.env = (false, eval e X.env) :: starEach es X.env := by rfl) (hpl : (backTo pos (starEach es X.env)).any (·.1) = false := by rfl) : PE X (.Call (.Name x p) (e :: es) [] pos) (tCall sp [] E0 t) :=
  pe_callF F hr (glD h e1) ha (gl_dbg h) he hpl
variable {tg a b : Expr} {ta : TA}
theorem pi_range1D (h : glOk sc "range" = true) (hm : X.mg "range" = none) (ha : PA X [a] ta) (e1 : ScIs X sc := by rfl) (hs : starEach [a] X.env = [(false, eval a X.env)] := by rfl) : PI X tg (.Call (.Name "range" p) [a] [] pos) (iRng1 ta) := pi_range1 (glD h e1) hm ha hs
end
section
variable {X : Cx} {M : List Str} {scope outer : Scope} {C : Addr} {s : Shared} {H : Hp} {ex : List Addr} {x : Str} {pos p : Pos}
theorem scC (ho : ScIs X outer) : ScIs (cxC X M scope C s H ex) (relabelS scope outer) := by
  have ho : X.env.scope = outer := ho
  subst ho
  rfl
end
end L2
namespace L2
open PySem PySem.Spec PyProof.Rows
inductive Dt where
  | non | bl (b : Bool) | int (i : Int) | str (x : Str) | tup (l : List Dt) | lst (l : List Dt) | dct (ks : List Key) (l : List Dt) | dcT (ks : List (List Key)) (l : List Dt)
  | ins (c : Str) (ns : List Str) (l : List Dt)
mutual
noncomputable def peq : Dt → Dt → Bool
  | .non, .non => true
  | .bl a, .bl b => a == b
  | .bl a, .int j => (if a then (1 : Int) else 0) == j
  | .int i, .bl b => i == (if b then (1 : Int) else 0)
  | .int i, .int j => i == j
  | .str x, .str y => x == y
  | .tup l, .tup m => peqs l m
  | .lst l, .lst m => peqs l m
  | .dct ks l, .dct js m => decide (ks = js) && peqs l m
  | .dcT ks l, .dcT js m => decide (ks = js) && peqs l m
  | .ins _ _ _, .ins _ _ _ => true
  | _, _ => false
noncomputable def peqs : List Dt → List Dt → Bool
  | [], [] => true
  | d :: l, e :: m => peq d e && peqs l m
  | _, _ => false
end
mutual
theorem peq_self : ∀ d : Dt, peq d d = true
  | .non => by simp [peq]
  | .bl b => by simp [peq]
  | .int i => by simp [peq]
  | .str x => by simp [peq]
  | .tup l => by simp only [peq]; exact peqs_self l
  | .lst l => by simp only [peq]; exact peqs_self l
  | .dct ks l => by simp only [peq, decide_true, Bool.true_and]; exact peqs_self l
  | .dcT ks l => by simp only [peq, decide_true, Bool.true_and]; exact peqs_self l
  | .ins c ns l => by simp only [peq]
theorem peqs_self : ∀ l : List Dt, peqs l l = true
  | [] => by simp [peqs]
  | d :: l => by simp only [peqs, peq_self d, peqs_self l, Bool.and_self]
end
mutual
noncomputable def deep : Dt → Nat
  | .tup l => deeps l + 1
  | .lst l => deeps l + 1
  | _ => 0
noncomputable def deeps : List Dt → Nat
  | [] => 0
  | d :: l => max (deep d) (deeps l)
end
noncomputable def ClsAt (K : PySem.W.Frag) (c : Str) (C : Addr) : Prop := PySem.W.nsIn K mainGlobals c = some (some (.ref C))
mutual
noncomputable def Rep (K : PySem.W.Frag) (H : Hp) : Dt → V → Prop
  | .non, v => v = .non
  | .bl b, v => v = .bl b
  | .int i, v => v = .int i
  | .str x, v => v = .str x
  | .tup l, v => ∃ a vs, v = .ref a ∧ SqT K H a vs ∧ Reps K H l vs
  | .lst l, v => ∃ a vs, v = .ref a ∧ SqL K H a vs ∧ Reps K H l vs
  | .dct ks l, v => ∃ a kvs, v = .ref a ∧ Rd H a (.dK kvs) ∧ kvs.map (·.1) = ks ∧ Reps K H l (kvs.map (·.2))
  | .dcT ks l, v => ∃ a kvs, v = .ref a ∧ Rd H a (.dT kvs) ∧ kvs.map (·.1) = ks ∧ Reps K H l (kvs.map (·.2))
  | .ins c ns l, v => ∃ a C dx fs, v = .ref a ∧ ClsAt K c C ∧ H a = some (.ins C dx fs) ∧ fs.map (·.1) = ns ∧ Reps K H l (fs.map (·.2))
noncomputable def Reps (K : PySem.W.Frag) (H : Hp) : List Dt → List V → Prop
  | [], vs => vs = []
  | d :: l, vs => ∃ v ws, vs = v :: ws ∧ Rep K H d v ∧ Reps K H l ws
end
theorem Same.tup {K : PySem.W.Frag} {H H' : Hp} {a : Addr} {xs : List V} (e : Same H H') (h : SqT K H a xs) : SqT K H' a xs := by
  rcases h with (h | ⟨o, h⟩) | h
  · exact .inl (.inl (e _ _ h))
  · exact .inl (.inr ⟨o, e _ _ h⟩)
  · exact .inr h
theorem Same.rd {H H' : Hp} {a : Addr} {u : HO} (e : Same H H') (h : Rd H a u) : Rd H' a u := by
  rcases h with h | ⟨o, h⟩
  · exact .inl (e _ _ h)
  · exact .inr ⟨o, e _ _ h⟩
mutual
theorem Rep.same {K : PySem.W.Frag} {H H' : Hp} (e : Same H H') : ∀ {d : Dt} {v : V}, Rep K H d v → Rep K H' d v
  | .non, v, h => h
  | .bl _, v, h => h
  | .int _, v, h => h
  | .str _, v, h => h
  | .tup l, v, h => by
    unfold Rep at h ⊢
    obtain ⟨a, vs, h1, h2, h3⟩ := h
    exact ⟨a, vs, h1, e.tup h2, Reps.same e h3⟩
  | .lst l, v, h => by
    unfold Rep at h ⊢
    obtain ⟨a, vs, h1, h2, h3⟩ := h
    exact ⟨a, vs, h1, e.seq h2, Reps.same e h3⟩
  | .dct ks l, v, h => by
    unfold Rep at h ⊢
    obtain ⟨a, vs, h1, h2, h3, h4⟩ := h
    exact ⟨a, vs, h1, e.rd h2, h3, Reps.same e h4⟩
  | .dcT ks l, v, h => by
    unfold Rep at h ⊢
    obtain ⟨a, vs, h1, h2, h3, h4⟩ := h
    exact ⟨a, vs, h1, e.rd h2, h3, Reps.same e h4⟩
  | .ins c ns l, v, h => by
    unfold Rep at h ⊢
    obtain ⟨a, C, dx, fs, h1, h2, h3, h4, h5⟩ := h
    exact ⟨a, C, dx, fs, h1, h2, e _ _ h3, h4, Reps.same e h5⟩
theorem Reps.same {K : PySem.W.Frag} {H H' : Hp} (e : Same H H') : ∀ {l : List Dt} {vs : List V}, Reps K H l vs → Reps K H' l vs
  | [], vs, h => h
  | d :: l, vs, h => by
    unfold Reps at h ⊢
    obtain ⟨v, ws, h1, h2, h3⟩ := h
    exact ⟨v, ws, h1, Rep.same e h2, Reps.same e h3⟩
end
theorem Reps.length {K : PySem.W.Frag} {H : Hp} : ∀ {l : List Dt} {vs : List V}, Reps K H l vs → vs.length = l.length
  | [], vs, h => by unfold Reps at h; rw [h]; rfl
  | d :: l, vs, h => by
    unfold Reps at h
    obtain ⟨v, ws, rfl, _, h3⟩ := h
    simp [Reps.length h3]
theorem Reps.get {K : PySem.W.Frag} {H : Hp} : ∀ {l : List Dt} {vs : List V} {i : Nat} {d : Dt}, Reps K H l vs → l[i]? = some d → ∃ v, vs[i]? = some v ∧ Rep K H d v
  | [], vs, i, d, h, e => by simp at e
  | d0 :: l, vs, 0, d, h, e => by
    unfold Reps at h
    obtain ⟨v, ws, rfl, h2, _⟩ := h
    simp at e
    subst e
    exact ⟨v, rfl, h2⟩
  | d0 :: l, vs, i + 1, d, h, e => by
    unfold Reps at h
    obtain ⟨v, ws, rfl, _, h3⟩ := h
    obtain ⟨u, e1, e2⟩ := Reps.get (i := i) h3 (by simpa using e)
    exact ⟨u, by simpa using e1, e2⟩
theorem Reps.append {K : PySem.W.Frag} {H : Hp} : ∀ {l m : List Dt} {vs ws : List V}, Reps K H l vs → Reps K H m ws → Reps K H (l ++ m) (vs ++ ws)
  | [], m, vs, ws, h, h' => by unfold Reps at h; rw [h]; exact h'
  | d :: l, m, vs, ws, h, h' => by
    unfold Reps at h
    obtain ⟨v, us, rfl, h2, h3⟩ := h
    show Reps K H (d :: (l ++ m)) (v :: (us ++ ws))
    unfold Reps
    exact ⟨v, _, rfl, h2, Reps.append h3 h'⟩
theorem Reps.one {K : PySem.W.Frag} {H : Hp} {d : Dt} {v : V} (h : Rep K H d v) : Reps K H [d] [v] := by
  unfold Reps
  exact ⟨v, [], rfl, h, by unfold Reps; rfl⟩
theorem Reps.take {K : PySem.W.Frag} {H : Hp} : ∀ {l : List Dt} {vs : List V} (n : Nat), Reps K H l vs → Reps K H (l.take n) (vs.take n)
  | _, _, 0, _ => by simp [Reps]
  | [], vs, n + 1, h => by unfold Reps at h; rw [h]; simp [Reps]
  | d :: l, vs, n + 1, h => by
    unfold Reps at h
    obtain ⟨v, us, rfl, h2, h3⟩ := h
    show Reps K H (d :: l.take n) (v :: us.take n)
    unfold Reps
    exact ⟨v, _, rfl, h2, Reps.take n h3⟩
theorem Reps.drop {K : PySem.W.Frag} {H : Hp} : ∀ {l : List Dt} {vs : List V} (n : Nat), Reps K H l vs → Reps K H (l.drop n) (vs.drop n)
  | _, _, 0, h => h
  | [], vs, n + 1, h => by unfold Reps at h; rw [h]; simp [Reps]
  | d :: l, vs, n + 1, h => by
    unfold Reps at h
    obtain ⟨v, us, rfl, h2, h3⟩ := h
    exact Reps.drop n h3
section
variable {X : Cx} {pins : List (Addr × Obj)} {σ : St} {H : Hp} {s : Shared} {K : PySem.W.Frag}
theorem Inv.notBoth {a : Addr} {xs ys : List V} (I : Inv X pins σ H s) (h : SqL X.K H a xs) (h' : SqT X.K H a ys) : False := by
  obtain ⟨its, r, pl, _⟩ := I.list h
  obtain ⟨its', r', pt, _⟩ := I.tuple h'
  obtain ⟨o, n, e, hc, _⟩ := pl
  obtain ⟨o', e', hc', _⟩ := pt
  rw [e] at e'
  cases e'
  rw [hc] at hc'
  injection hc' with z
  exact absurd z (by decide)
theorem rd_dK {a : Addr} {u w : List (Key × V)} (h : Rd H a (.dK u)) (h' : Rd H a (.dK w)) : u = w := by
  rcases h with h | ⟨o, h⟩ <;> rcases h' with h' | ⟨o', h'⟩ <;> rw [h] at h' <;> cases h' <;> rfl
theorem rd_dT {a : Addr} {u w : List (List Key × V)} (h : Rd H a (.dT u)) (h' : Rd H a (.dT w)) : u = w := by
  rcases h with h | ⟨o, h⟩ <;> rcases h' with h' | ⟨o', h'⟩ <;> rw [h] at h' <;> cases h' <;> rfl
theorem rd_some {a : Addr} {u : HO} (h : Rd H a u) : ∃ o, H a = some o := by
  rcases h with h | ⟨o, h⟩
  · exact ⟨_, h⟩
  · exact ⟨_, h⟩
theorem Inv.kNone (I : Inv X pins σ H s) {a : Addr} {o : Obj} (h : X.K.lookup a = some o) : H a = none := (I.bs a o (I.ok.mod.kin a o h)).2
theorem Inv.sqT_dK (I : Inv X pins σ H s) {a : Addr} {xs : List V} {u : List (Key × V)} (h : SqT X.K H a xs) (h' : Rd H a (.dK u)) : False := by
  rcases h with h | ⟨o, _, _, h, _⟩
  · rcases h with h | ⟨o, h⟩ <;> rcases h' with h' | ⟨o', h'⟩ <;> rw [h] at h' <;> cases h'
  · obtain ⟨o', e⟩ := rd_some h'
    rw [I.kNone h] at e
    cases e
theorem Inv.sqT_dT (I : Inv X pins σ H s) {a : Addr} {xs : List V} {u : List (List Key × V)} (h : SqT X.K H a xs) (h' : Rd H a (.dT u)) : False := by
  rcases h with h | ⟨o, _, _, h, _⟩
  · rcases h with h | ⟨o, h⟩ <;> rcases h' with h' | ⟨o', h'⟩ <;> rw [h] at h' <;> cases h'
  · obtain ⟨o', e⟩ := rd_some h'
    rw [I.kNone h] at e
    cases e
theorem Inv.sqL_dK (I : Inv X pins σ H s) {a : Addr} {xs : List V} {u : List (Key × V)} (h : SqL X.K H a xs) (h' : Rd H a (.dK u)) : False := by
  rcases h with h | ⟨o, _, _, h, _⟩
  · rcases h with h | ⟨o, h⟩ <;> rcases h' with h' | ⟨o', h'⟩ <;> rw [h] at h' <;> cases h'
  · obtain ⟨o', e⟩ := rd_some h'
    rw [I.kNone h] at e
    cases e
theorem Inv.sqL_dT (I : Inv X pins σ H s) {a : Addr} {xs : List V} {u : List (List Key × V)} (h : SqL X.K H a xs) (h' : Rd H a (.dT u)) : False := by
  rcases h with h | ⟨o, _, _, h, _⟩
  · rcases h with h | ⟨o, h⟩ <;> rcases h' with h' | ⟨o', h'⟩ <;> rw [h] at h' <;> cases h'
  · obtain ⟨o', e⟩ := rd_some h'
    rw [I.kNone h] at e
    cases e
theorem rd_dKT {a : Addr} {u : List (Key × V)} {w : List (List Key × V)} (h : Rd H a (.dK u)) (h' : Rd H a (.dT w)) : False := by
  rcases h with h | ⟨o, h⟩ <;> rcases h' with h' | ⟨o', h'⟩ <;> rw [h] at h' <;> cases h'
noncomputable def kindD : Dt → Nat
  | .non => 0
  | .bl _ => 1
  | .int _ => 2
  | .str _ => 3
  | .tup _ => 4
  | .lst _ => 5
  | .dct _ _ => 6
  | .dcT _ _ => 7
  | .ins _ _ _ => 8
theorem sqT_ins (I : Inv X pins σ H s) {a C dx : Addr} {fs : List (Str × V)} {vs : List V} (h : SqT X.K H a vs) (h' : H a = some (.ins C dx fs)) : False := by
  rcases h with (h | ⟨o, h⟩) | ⟨o, its, n, h, _⟩
  · rw [h'] at h; cases h
  · rw [h'] at h; cases h
  · rw [I.kNone h] at h'; cases h'
theorem sqL_ins (I : Inv X pins σ H s) {a C dx : Addr} {fs : List (Str × V)} {vs : List V} (h : SqL X.K H a vs) (h' : H a = some (.ins C dx fs)) : False := by
  rcases h with (h | ⟨o, h⟩) | ⟨o, its, n, h, _⟩
  · rw [h'] at h; cases h
  · rw [h'] at h; cases h
  · rw [I.kNone h] at h'; cases h'
theorem rd_insK {a C dx : Addr} {fs : List (Str × V)} {u : List (Key × V)} (h : Rd H a (.dK u)) (h' : H a = some (.ins C dx fs)) : False := by
  rcases h with h | ⟨o, h⟩ <;> rw [h] at h' <;> cases h'
theorem rd_insT {a C dx : Addr} {fs : List (Str × V)} {u : List (List Key × V)} (h : Rd H a (.dT u)) (h' : H a = some (.ins C dx fs)) : False := by
  rcases h with h | ⟨o, h⟩ <;> rw [h] at h' <;> cases h'
theorem rep_kind (I : Inv X pins σ H s) {d e : Dt} {v : V} (h : Rep X.K H d v) (h' : Rep X.K H e v) : kindD d = kindD e := by
  cases d <;> cases e <;> first
    | rfl
    | (simp only [Rep] at h h'; subst h; cases h'; done)
    | (simp only [Rep] at h h'; obtain ⟨_, _, e, _⟩ := h'; rw [h] at e; cases e; done)
    | (simp only [Rep] at h h'; obtain ⟨_, _, e, _⟩ := h; rw [h'] at e; cases e; done)
    | (simp only [Rep] at h h'; obtain ⟨_, _, rfl, h2, _⟩ := h; obtain ⟨_, _, e, h2', _⟩ := h'; cases e
       first
         | exact (I.sqT_dK h2 h2').elim
         | exact (I.sqT_dK h2' h2).elim
         | exact (I.sqT_dT h2 h2').elim
         | exact (I.sqT_dT h2' h2).elim
         | exact (I.notBoth h2 h2').elim
         | exact (I.notBoth h2' h2).elim
         | exact (I.sqL_dK h2 h2').elim
         | exact (I.sqL_dK h2' h2).elim
         | exact (I.sqL_dT h2 h2').elim
         | exact (I.sqL_dT h2' h2).elim
         | exact (rd_dKT h2 h2').elim
         | exact (rd_dKT h2' h2).elim)
    | (simp only [Rep] at h h'; obtain ⟨_, _, _, _, e, _⟩ := h'; rw [h] at e; cases e; done)
    | (simp only [Rep] at h h'; obtain ⟨_, _, _, _, e, _⟩ := h; rw [h'] at e; cases e; done)
    | (simp only [Rep] at h h'; obtain ⟨_, _, _, _, rfl, _, h2, _⟩ := h; obtain ⟨_, _, e, h2', _⟩ := h'; cases e
       first
         | exact (sqT_ins I h2' h2).elim
         | exact (sqL_ins I h2' h2).elim
         | exact (rd_insK h2' h2).elim
         | exact (rd_insT h2' h2).elim)
    | (simp only [Rep] at h h'; obtain ⟨_, _, _, _, rfl, _, h2, _⟩ := h'; obtain ⟨_, _, e, h2', _⟩ := h; cases e
       first
         | exact (sqT_ins I h2' h2).elim
         | exact (sqL_ins I h2' h2).elim
         | exact (rd_insK h2' h2).elim
         | exact (rd_insT h2' h2).elim)
mutual
theorem rep_inj (I : Inv X pins σ H s) : ∀ (d e : Dt) (v : V), Rep X.K H d v → Rep X.K H e v → peq d e = true := fun d => by
  match d with
  | .tup l =>
    intro e v h h'
    have hk := rep_kind I h h'
    cases e <;> first | (simp [kindD] at hk; done) | skip
    simp only [Rep] at h h'
    obtain ⟨a, vs, rfl, h2, h3⟩ := h
    obtain ⟨b, ws, e, h2', h3'⟩ := h'
    cases e
    have := I.tuple_inj h2 h2'
    subst this
    simp only [peq]
    exact reps_inj I l _ _ h3 h3'
  | .lst l =>
    intro e v h h'
    have hk := rep_kind I h h'
    cases e <;> first | (simp [kindD] at hk; done) | skip
    simp only [Rep] at h h'
    obtain ⟨a, vs, rfl, h2, h3⟩ := h
    obtain ⟨b, ws, e, h2', h3'⟩ := h'
    cases e
    have := I.list_inj h2 h2'
    subst this
    simp only [peq]
    exact reps_inj I l _ _ h3 h3'
  | .dct ks l =>
    intro e v h h'
    have hk := rep_kind I h h'
    cases e <;> first | (simp [kindD] at hk; done) | skip
    simp only [Rep] at h h'
    obtain ⟨a, vs, rfl, h2, h3, h4⟩ := h
    obtain ⟨b, ws, e, h2', h3', h4'⟩ := h'
    cases e
    have := rd_dK h2 h2'
    subst this
    subst h3 h3'
    simp only [peq, decide_true, Bool.true_and]
    exact reps_inj I l _ _ h4 h4'
  | .dcT ks l =>
    intro e v h h'
    have hk := rep_kind I h h'
    cases e <;> first | (simp [kindD] at hk; done) | skip
    simp only [Rep] at h h'
    obtain ⟨a, vs, rfl, h2, h3, h4⟩ := h
    obtain ⟨b, ws, e, h2', h3', h4'⟩ := h'
    cases e
    have := rd_dT h2 h2'
    subst this
    subst h3 h3'
    simp only [peq, decide_true, Bool.true_and]
    exact reps_inj I l _ _ h4 h4'
  | .ins c ns l =>
    intro e v h h'
    have hk := rep_kind I h h'
    cases e <;> first | (simp [kindD] at hk; done) | skip
    simp only [peq]
  | .non =>
    intro e v h h'
    have hk := rep_kind I h h'
    cases e <;> first | (simp [kindD] at hk; done) | simp only [peq]
  | .bl b =>
    intro e v h h'
    have hk := rep_kind I h h'
    cases e <;> first | (simp [kindD] at hk; done) | (simp only [Rep] at h h'; rw [h] at h'; cases h'; exact peq_self _)
  | .int b =>
    intro e v h h'
    have hk := rep_kind I h h'
    cases e <;> first | (simp [kindD] at hk; done) | (simp only [Rep] at h h'; rw [h] at h'; cases h'; exact peq_self _)
  | .str b =>
    intro e v h h'
    have hk := rep_kind I h h'
    cases e <;> first | (simp [kindD] at hk; done) | (simp only [Rep] at h h'; rw [h] at h'; cases h'; exact peq_self _)
theorem reps_inj (I : Inv X pins σ H s) : ∀ (l m : List Dt) (vs : List V), Reps X.K H l vs → Reps X.K H m vs → peqs l m = true := fun l => by
  match l with
  | [] =>
    intro m vs h h'
    cases m with
    | nil => simp only [peqs]
    | cons e m => unfold Reps at h h'; obtain ⟨v, ws, e, _⟩ := h'; rw [h] at e; cases e
  | d :: l =>
    intro m vs h h'
    cases m with
    | nil => unfold Reps at h h'; obtain ⟨v, ws, e, _⟩ := h; rw [h'] at e; cases e
    | cons e m =>
      unfold Reps at h h'
      obtain ⟨v, ws, rfl, h2, h3⟩ := h
      obtain ⟨v', ws', e', h2', h3'⟩ := h'
      cases e'
      simp only [peqs, rep_inj I d _ _ h2 h2', reps_inj I l _ _ h3 h3', Bool.and_self]
end
end
end L2
namespace L2
open PySem PySem.Spec PyProof.Rows
mutual
noncomputable def cmpb : Dt → Dt → Bool
  | .tup l, .tup m => cmpbs l m
  | .lst l, .lst m => cmpbs l m
  | d, e => decide (kindD d < 4) && decide (kindD e < 4)
noncomputable def cmpbs : List Dt → List Dt → Bool
  | d :: l, e :: m => cmpb d e && cmpbs l m
  | _, _ => true
end
theorem cmpbs_get : ∀ {l m : List Dt} {j : Nat} {d e : Dt}, cmpbs l m = true → l[j]? = some d → m[j]? = some e → cmpb d e = true
  | [], _, j, d, e, _, h, _ => by simp at h
  | _ :: _, [], j, d, e, _, _, h => by simp at h
  | d0 :: l, e0 :: m, 0, d, e, h, h1, h2 => by
    simp only [cmpbs, Bool.and_eq_true] at h
    simp at h1 h2
    subst h1 h2
    exact h.1
  | d0 :: l, e0 :: m, j + 1, d, e, h, h1, h2 => by
    simp only [cmpbs, Bool.and_eq_true] at h
    exact cmpbs_get (j := j) h.2 (by simpa using h1) (by simpa using h2)
theorem deep_get : ∀ {l : List Dt} {j : Nat} {d : Dt}, l[j]? = some d → deep d ≤ deeps l
  | [], j, d, h => by simp at h
  | d0 :: l, 0, d, h => by
    simp at h
    subst h
    simp only [deeps]
    exact Nat.le_max_left ..
  | d0 :: l, j + 1, d, h => by
    simp only [deeps]
    exact Nat.le_trans (deep_get (j := j) (by simpa using h)) (Nat.le_max_right ..)
noncomputable def peqAt (l m : List Dt) (j : Nat) : Bool := peq (l.getD j .non) (m.getD j .non)
theorem peqs_range : ∀ (l m : List Dt), peqs l m = ((List.range (min l.length m.length)).all (peqAt l m) && l.length == m.length)
  | [], [] => by simp [peqs]
  | [], _ :: _ => by simp [peqs]
  | _ :: _, [] => by simp [peqs]
  | d :: l, e :: m => by
    have ih := peqs_range l m
    simp only [peqs, ih, List.length_cons]
    rw [show min (l.length + 1) (m.length + 1) = min l.length m.length + 1 by omega, List.range_succ_eq_map, List.all_cons, List.all_map]
    have e1 : peqAt (d :: l) (e :: m) 0 = peq d e := rfl
    have e2 : (peqAt (d :: l) (e :: m) ∘ Nat.succ) = peqAt l m := by
      funext j
      rfl
    have e3 : (l.length + 1 == m.length + 1) = (l.length == m.length) := by
      rw [Bool.eq_iff_iff]
      simp
    rw [e1, e2, e3, Bool.and_assoc]
section
variable {X : Cx} {pins : List (Addr × Obj)} {σ : St} {H : Hp} {s : Shared}
theorem items_get {l : List Dt} {vs : List V} {its : List Value} (h : Reps X.K H l vs) (r : Vals vs its) {j : Nat} (hj : j < its.length) : ∃ d v, l[j]? = some d ∧ Rep X.K H d v ∧ RelV v its[j] := by
  have hl : j < l.length := by rw [← h.length, r.length]; exact hj
  obtain ⟨v, e1, e2⟩ := h.get (i := j) (d := l[j]) (by simp [hl])
  obtain ⟨u, e3, e4⟩ := r.get e1
  have : its[j] = u := by
    have := List.getElem?_eq_getElem hj
    rw [this] at e3
    exact Option.some.inj e3
  exact ⟨l[j], v, by simp [hl], e2, by rw [this]; exact e4⟩
theorem eqAtD (I : Inv X pins σ H s) : ∀ (n : Nat) {A : Around} {d e : Dt} {v w : V} {u u' : Value}, deep d ≤ n → A.units + n < cLine → cmpb d e = true → Rep X.K H d v → Rep X.K H e w → RelV v u → RelV w u' → SeqAt.EqAt A s u u' (peq d e) := by
  intro n
  induction n with
  | zero =>
    intro A d e v w u u' hd hu hc h h' r r'
    cases d <;> cases e <;> first
      | (simp only [Rep] at h h'; subst h h'; exact eqAt_V r r' rfl rfl)
      | (simp only [deep] at hd; omega)
      | (simp [cmpb, kindD] at hc)
  | succ n ih =>
    intro A d e v w u u' hd hu hc h h' r r'
    cases d with
    | tup l =>
      cases e with
      | tup m =>
        have h0 := h
        have h0' := h'
        simp only [Rep] at h h'
        obtain ⟨a, vs, rfl, h2, h3⟩ := h
        obtain ⟨b, ws, rfl, h2', h3'⟩ := h'
        cases r
        cases r'
        by_cases hab : a = b
        · subst hab
          have := rep_inj I _ _ _ h0 h0'
          rw [this]
          exact SeqAt.EqAt.same _
        obtain ⟨its, rv, pt, _⟩ := I.tuple h2
        obtain ⟨its', rv', pt', _⟩ := I.tuple h2'
        have n1 : its.length = l.length := by rw [← h3.length, rv.length]
        have n2 : its'.length = m.length := by rw [← h3'.length, rv'.length]
        simp only [peq]
        rw [peqs_range, ← n1, ← n2]
        simp only [deep] at hd
        simp only [cmpb] at hc
        have key := SeqAt.RcAt.tuples (A := A) (e := peqAt l m) pt pt' (by omega) (fun j h1 h2 => by
          have h1' : j < its.length := by simpa using h1
          have h2' : j < its'.length := by simpa using h2
          obtain ⟨d, v, g1, g2, g3⟩ := items_get h3 rv h1'
          obtain ⟨e, w, g1', g2', g3'⟩ := items_get h3' rv' h2'
          have : peqAt l m j = peq d e := by unfold peqAt; rw [List.getD_eq_getElem?_getD, List.getD_eq_getElem?_getD, g1, g1']; rfl
          rw [this]
          have := ih (A := A.in1) (Nat.le_trans (deep_get g1) (by omega)) (show A.units + 1 + n < cLine by omega) (cmpbs_get hc g1 g1') g2 g2' g3 g3'
          simpa using this)
        have key' : SeqAt.RcAt A s (.ref a) (.ref b) ((List.range (min its.length its'.length)).all (peqAt l m) && its.length == its'.length) := by simpa using key
        exact SeqAt.EqAt.of_refs hab key'
      | _ => exact absurd hc (by simp [cmpb, kindD])
    | lst l =>
      cases e with
      | lst m =>
        have h0 := h
        have h0' := h'
        simp only [Rep] at h h'
        obtain ⟨a, vs, rfl, h2, h3⟩ := h
        obtain ⟨b, ws, rfl, h2', h3'⟩ := h'
        cases r
        cases r'
        by_cases hab : a = b
        · subst hab
          have := rep_inj I _ _ _ h0 h0'
          rw [this]
          exact SeqAt.EqAt.same _
        obtain ⟨its, rv, pt, _⟩ := I.list h2
        obtain ⟨its', rv', pt', _⟩ := I.list h2'
        have n1 : its.length = l.length := by rw [← h3.length, rv.length]
        have n2 : its'.length = m.length := by rw [← h3'.length, rv'.length]
        simp only [peq]
        rw [peqs_range, ← n1, ← n2]
        simp only [deep] at hd
        simp only [cmpb] at hc
        by_cases hlen : its.length = its'.length
        · have key := SeqAt.RcAt.lists (A := A) (e := peqAt l m) pt.isList pt'.isList (by simpa using hlen) (by omega) (fun j h1 h2 => by
            have h1' : j < its.length := by simpa using h1
            have h2' : j < its'.length := by simpa using h2
            obtain ⟨d, v, g1, g2, g3⟩ := items_get h3 rv h1'
            obtain ⟨e, w, g1', g2', g3'⟩ := items_get h3' rv' h2'
            have : peqAt l m j = peq d e := by unfold peqAt; rw [List.getD_eq_getElem?_getD, List.getD_eq_getElem?_getD, g1, g1']; rfl
            rw [this]
            have := ih (A := A.in1) (Nat.le_trans (deep_get g1) (by omega)) (show A.units + 1 + n < cLine by omega) (cmpbs_get hc g1 g1') g2 g2' g3 g3'
            simpa using this)
          have e1 : (its.length == its'.length) = true := by simpa using hlen
          rw [e1, Bool.and_true, show min its.length its'.length = its.length by omega]
          exact SeqAt.EqAt.of_refs hab (by simpa using key)
        · have e1 : (its.length == its'.length) = false := by simpa using hlen
          rw [e1, Bool.and_false]
          exact SeqAt.EqAt.of_refs hab (SeqAt.RcAt.lists_lengths pt.isList pt'.isList (by simpa using hlen) (by omega))
      | _ => exact absurd hc (by simp [cmpb, kindD])
    | non => cases e <;> first | (simp only [Rep] at h h'; subst h h'; exact eqAt_V r r' rfl rfl) | (simp [cmpb, kindD] at hc)
    | bl b => cases e <;> first | (simp only [Rep] at h h'; subst h h'; exact eqAt_V r r' rfl rfl) | (simp [cmpb, kindD] at hc)
    | int b => cases e <;> first | (simp only [Rep] at h h'; subst h h'; exact eqAt_V r r' rfl rfl) | (simp [cmpb, kindD] at hc)
    | str b => cases e <;> first | (simp only [Rep] at h h'; subst h h'; exact eqAt_V r r' rfl rfl) | (simp [cmpb, kindD] at hc)
    | dct ks l => cases e <;> (simp [cmpb, kindD] at hc)
    | dcT ks l => cases e <;> (simp [cmpb, kindD] at hc)
    | ins c ns l => cases e <;> (simp [cmpb, kindD] at hc)
theorem rcAtD (I : Inv X pins σ H s) {A : Around} {d e : Dt} {v w : V} {u u' : Value} (hq : (∃ l m, d = .tup l ∧ e = .tup m) ∨ ∃ l m, d = .lst l ∧ e = .lst m) (hu : A.units + deep d < cLine) (hc : cmpb d e = true) (h : Rep X.K H d v) (h' : Rep X.K H e w) (r : RelV v u) (r' : RelV w u') :
    SeqAt.RcAt A s u u' (peq d e) ∧ SeqAt.RcNeAt A s u u' (!peq d e) := by
  rcases hq with ⟨l, m, rfl, rfl⟩ | ⟨l, m, rfl, rfl⟩
  · simp only [Rep] at h h'
    obtain ⟨a, vs, rfl, h2, h3⟩ := h
    obtain ⟨b, ws, rfl, h2', h3'⟩ := h'
    cases r
    cases r'
    obtain ⟨its, rv, pt, _⟩ := I.tuple h2
    obtain ⟨its', rv', pt', _⟩ := I.tuple h2'
    have n1 : its.length = l.length := by rw [← h3.length, rv.length]
    have n2 : its'.length = m.length := by rw [← h3'.length, rv'.length]
    simp only [peq]
    rw [peqs_range, ← n1, ← n2]
    simp only [deep] at hu
    simp only [cmpb] at hc
    have he : ∀ j (h1 : j < its.toArray.size) (h2 : j < its'.toArray.size), SeqAt.EqAt A.in1 s its.toArray[j] its'.toArray[j] (peqAt l m j) := fun j h1 h2 => by
      have h1' : j < its.length := by simpa using h1
      have h2' : j < its'.length := by simpa using h2
      obtain ⟨d, v, g1, g2, g3⟩ := items_get h3 rv h1'
      obtain ⟨e, w, g1', g2', g3'⟩ := items_get h3' rv' h2'
      have : peqAt l m j = peq d e := by unfold peqAt; rw [List.getD_eq_getElem?_getD, List.getD_eq_getElem?_getD, g1, g1']; rfl
      rw [this]
      have := eqAtD I (deeps l) (A := A.in1) (deep_get g1) (show A.units + 1 + deeps l < cLine by omega) (cmpbs_get hc g1 g1') g2 g2' g3 g3'
      simpa using this
    exact ⟨by simpa using SeqAt.RcAt.tuples (A := A) (e := peqAt l m) pt pt' (by omega) he, by simpa using SeqAt.RcNeAt.tuples (A := A) (e := peqAt l m) pt pt' (by omega) he⟩
  · simp only [Rep] at h h'
    obtain ⟨a, vs, rfl, h2, h3⟩ := h
    obtain ⟨b, ws, rfl, h2', h3'⟩ := h'
    cases r
    cases r'
    obtain ⟨its, rv, pt, _⟩ := I.list h2
    obtain ⟨its', rv', pt', _⟩ := I.list h2'
    have n1 : its.length = l.length := by rw [← h3.length, rv.length]
    have n2 : its'.length = m.length := by rw [← h3'.length, rv'.length]
    simp only [peq]
    rw [peqs_range, ← n1, ← n2]
    simp only [deep] at hu
    simp only [cmpb] at hc
    by_cases hlen : its.length = its'.length
    · have he : ∀ j (h1 : j < its.toArray.size) (h2 : j < its'.toArray.size), SeqAt.EqAt A.in1 s its.toArray[j] its'.toArray[j] (peqAt l m j) := fun j h1 h2 => by
        have h1' : j < its.length := by simpa using h1
        have h2' : j < its'.length := by simpa using h2
        obtain ⟨d, v, g1, g2, g3⟩ := items_get h3 rv h1'
        obtain ⟨e, w, g1', g2', g3'⟩ := items_get h3' rv' h2'
        have : peqAt l m j = peq d e := by unfold peqAt; rw [List.getD_eq_getElem?_getD, List.getD_eq_getElem?_getD, g1, g1']; rfl
        rw [this]
        have := eqAtD I (deeps l) (A := A.in1) (deep_get g1) (show A.units + 1 + deeps l < cLine by omega) (cmpbs_get hc g1 g1') g2 g2' g3 g3'
        simpa using this
      have e1 : (its.length == its'.length) = true := by simpa using hlen
      rw [e1, Bool.and_true, show min its.length its'.length = its.length by omega]
      exact ⟨by simpa using SeqAt.RcAt.lists (A := A) (e := peqAt l m) pt.isList pt'.isList (by simpa using hlen) (by omega) he, by simpa using SeqAt.RcNeAt.lists (A := A) (e := peqAt l m) pt.isList pt'.isList (by simpa using hlen) (by omega) he⟩
    · have e1 : (its.length == its'.length) = false := by simpa using hlen
      rw [e1, Bool.and_false]
      exact ⟨SeqAt.RcAt.lists_lengths pt.isList pt'.isList (by simpa using hlen) (by omega), SeqAt.RcNeAt.lists_lengths pt.isList pt'.isList (by simpa using hlen) (by omega)⟩
noncomputable def rEqD (K : PySem.W.Frag) (neg : Bool) : R2 := fun x y H Q => ∃ d e, ((∃ l m, d = .tup l ∧ e = .tup m) ∨ ∃ l m, d = .lst l ∧ e = .lst m) ∧ Rep K H d x ∧ Rep K H e y ∧ cmpb d e = true ∧ deep d ≤ 60 ∧ Q (.bl (if neg then !peq d e else peq d e)) H
theorem op_eqD {K : PySem.W.Frag} {k : Nat} (hr : Room k X.A) (hK : X.K = K) : OpR X (compareOp .Eq) (rEqD K false) := by
  subst hK
  intro pins s σ H x y v u Q I rx ry h
  obtain ⟨d, e, hq, hd, he, hc, hdp, q⟩ := h
  have hu := hr.units
  exact (rcAtD I hq (by omega) hc hd he rx ry).1 _ _ _ _ ⟨.bl (peq d e), H, I, rfl, q⟩
theorem op_neD {K : PySem.W.Frag} {k : Nat} (hr : Room k X.A) (hK : X.K = K) : OpR X (compareOp .NotEq) (rEqD K true) := by
  subst hK
  intro pins s σ H x y v u Q I rx ry h
  obtain ⟨d, e, hq, hd, he, hc, hdp, q⟩ := h
  have hu := hr.units
  exact (rcAtD I hq (by omega) hc hd he rx ry).2 _ _ _ _ ⟨.bl (!peq d e), H, I, rfl, q⟩
end
end L2
namespace L2
open PySem PySem.Spec PyProof.Rows
structure Step (F H F' H' : Hp) : Prop where
  hh : Same H H'
  ff : Same F F'
  fh : Same F' H'
  nw : ∀ b o, F' b = some o → F b = some o ∨ H b = none
section
variable {F H F' H' F1 H1 : Hp} {p : Addr} {o : HO}
theorem Step.refl (h : Same F H) : Step F H F H := ⟨Same.refl _, Same.refl _, h, fun _ _ e => .inl e⟩
theorem Step.trans (a : Step F H F1 H1) (b : Step F1 H1 F' H') : Step F H F' H' :=
  ⟨a.hh.trans b.hh, a.ff.trans b.ff, b.fh, fun c o e => (b.nw c o e).elim (a.nw c o) fun z => .inr (a.hh.free z)⟩
theorem Same.upd (hp : H p = none) : Same H (upd H p o) := fun b u e => by
  rw [upd_ne (ne_of_none e hp)]
  exact e
theorem Step.new (h : Same F H) (hp : H p = none) : Step F H (upd F p o) (upd H p o) where
  hh := Same.upd hp
  ff := Same.upd (h.free hp)
  fh := fun b u e => by
    by_cases hb : b = p
    · subst hb
      rw [upd_same] at e ⊢
      exact e
    · rw [upd_ne hb] at e ⊢
      exact h _ _ e
  nw := fun b u e => by
    by_cases hb : b = p
    · subst hb
      exact .inr hp
    · rw [upd_ne hb] at e
      exact .inl e
theorem Step.made (h : Same F H) (hp : H p = none) : Step F H F (upd H p o) where
  hh := Same.upd hp
  ff := Same.refl _
  fh := h.trans (Same.upd hp)
  nw := fun b u e => .inl e
end
inductive Fl where
  | leaf (d : Dt) | lst (l : List Dt) | dct (l : List (Key × Dt)) | dcT (l : List (List Key × Dt))
noncomputable def Fl.d : Fl → Dt
  | .leaf d => d
  | .lst l => .lst l
  | .dct l => .dct (l.map (·.1)) (l.map (·.2))
  | .dcT l => .dcT (l.map (·.1)) (l.map (·.2))
inductive T where
  | leaf (d : Dt) | lst (l : List Dt) | dct (l : List (Key × Dt)) | dcT (l : List (List Key × Dt)) | obj (c : Str) (ns : List Str) (l : List Fl) | pin (a : Addr) (t : T)
noncomputable def T.d : T → Dt
  | .leaf d => d
  | .lst l => .lst l
  | .dct l => .dct (l.map (·.1)) (l.map (·.2))
  | .dcT l => .dcT (l.map (·.1)) (l.map (·.2))
  | .obj c ns l => .ins c ns (l.map Fl.d)
  | .pin _ t => t.d
noncomputable def OwnF (K : PySem.W.Frag) (F H : Hp) : Fl → V → (Addr → Prop) → Prop
  | .leaf d, v, _ => Rep K F d v
  | .lst l, v, S => ∃ a vs, v = .ref a ∧ S a ∧ H a = some (.lst vs) ∧ Reps K F l vs
  | .dct l, v, S => ∃ a kvs, v = .ref a ∧ S a ∧ H a = some (.dK kvs) ∧ kvs.map (·.1) = l.map (·.1) ∧ Reps K F (l.map (·.2)) (kvs.map (·.2))
  | .dcT l, v, S => ∃ a kvs, v = .ref a ∧ S a ∧ H a = some (.dT kvs) ∧ kvs.map (·.1) = l.map (·.1) ∧ Reps K F (l.map (·.2)) (kvs.map (·.2))
structure OwnFs (K : PySem.W.Frag) (F H : Hp) (l : List Fl) (vs : List V) (a : Addr) (S : Addr → Prop) (Z : Nat → Addr → Prop) : Prop where
  len : l.length = vs.length
  own : ∀ i f v, l[i]? = some f → vs[i]? = some v → OwnF K F H f v (Z i)
  sub : ∀ i b, Z i b → S b ∧ b ≠ a
  dis : ∀ i j b, Z i b → Z j b → i = j
noncomputable def Own (K : PySem.W.Frag) (F H : Hp) : T → V → (Addr → Prop) → Prop
  | .leaf d, v, _ => Rep K F d v
  | .lst l, v, S => ∃ a vs, v = .ref a ∧ S a ∧ H a = some (.lst vs) ∧ Reps K F l vs
  | .dct l, v, S => ∃ a kvs, v = .ref a ∧ S a ∧ H a = some (.dK kvs) ∧ kvs.map (·.1) = l.map (·.1) ∧ Reps K F (l.map (·.2)) (kvs.map (·.2))
  | .dcT l, v, S => ∃ a kvs, v = .ref a ∧ S a ∧ H a = some (.dT kvs) ∧ kvs.map (·.1) = l.map (·.1) ∧ Reps K F (l.map (·.2)) (kvs.map (·.2))
  | .obj c ns l, v, S => ∃ a C dx fs Z, v = .ref a ∧ S a ∧ ClsAt K c C ∧ H a = some (.ins C dx fs) ∧ fs.map (·.1) = ns ∧ OwnFs K F H l (fs.map (·.2)) a S Z
  | .pin a t, v, S => v = .ref a ∧ (∀ d, t ≠ .leaf d) ∧ Own K F H t v S
noncomputable def RepB (K : PySem.W.Frag) (F H : Hp) : Dt → V → Prop
  | .lst l, v => ∃ a vs, v = .ref a ∧ SqL K H a vs ∧ Reps K F l vs
  | .dct ks l, v => ∃ a kvs, v = .ref a ∧ Rd H a (.dK kvs) ∧ kvs.map (·.1) = ks ∧ Reps K F l (kvs.map (·.2))
  | .dcT ks l, v => ∃ a kvs, v = .ref a ∧ Rd H a (.dT kvs) ∧ kvs.map (·.1) = ks ∧ Reps K F l (kvs.map (·.2))
  | .ins c ns l, v => Rep K H (.ins c ns l) v
  | .non, v => v = .non
  | .bl b, v => v = .bl b
  | .int i, v => v = .int i
  | .str x, v => v = .str x
  | .tup l, v => ∃ a vs, v = .ref a ∧ SqT K F a vs ∧ Reps K F l vs
theorem OwnF.step {K : PySem.W.Frag} {F H F' H' : Hp} {t : Fl} {v : V} {S : Addr → Prop} (ff : Same F F') (hh : ∀ b o, S b → H b = some o → H' b = some o) (h : OwnF K F H t v S) : OwnF K F' H' t v S := by
  cases t with
  | leaf d => exact Rep.same ff h
  | lst l =>
    obtain ⟨a, vs, e, hs, h1, h2⟩ := h
    exact ⟨a, vs, e, hs, hh _ _ hs h1, h2.same ff⟩
  | dct l =>
    obtain ⟨a, vs, e, hs, h1, h2, h3⟩ := h
    exact ⟨a, vs, e, hs, hh _ _ hs h1, h2, h3.same ff⟩
  | dcT l =>
    obtain ⟨a, vs, e, hs, h1, h2, h3⟩ := h
    exact ⟨a, vs, e, hs, hh _ _ hs h1, h2, h3.same ff⟩
theorem OwnF.rep {K : PySem.W.Frag} {F H G : Hp} {t : Fl} {v : V} {S : Addr → Prop} (ff : Same F G) (hg : ∀ b o, S b → H b = some o → G b = some o) (h : OwnF K F H t v S) : Rep K G t.d v := by
  cases t with
  | leaf d => exact Rep.same ff h
  | lst l =>
    obtain ⟨a, vs, e, q, h1, h2⟩ := h
    simp only [Fl.d, Rep]
    exact ⟨a, vs, e, SqL.of (hg _ _ q h1), h2.same ff⟩
  | dct l =>
    obtain ⟨a, vs, e, q, h1, h2, h3⟩ := h
    simp only [Fl.d, Rep]
    exact ⟨a, vs, e, .inl (hg _ _ q h1), h2, h3.same ff⟩
  | dcT l =>
    obtain ⟨a, vs, e, q, h1, h2, h3⟩ := h
    simp only [Fl.d, Rep]
    exact ⟨a, vs, e, .inl (hg _ _ q h1), h2, h3.same ff⟩
theorem reps_all {K : PySem.W.Frag} {G : Hp} : ∀ {l : List Fl} {vs : List V}, l.length = vs.length → (∀ (i : Nat) (f : Fl) (v : V), l[i]? = some f → vs[i]? = some v → Rep K G f.d v) → Reps K G (l.map Fl.d) vs
  | [], [], _, _ => by simp [Reps]
  | [], _ :: _, h, _ => by cases h
  | _ :: _, [], h, _ => by cases h
  | f :: l, v :: vs, h, k => by
    simp only [List.map_cons, Reps]
    exact ⟨v, vs, rfl, k 0 f v rfl rfl, reps_all (by simpa using h) fun i f v h1 h2 => k (i + 1) f v (by simpa using h1) (by simpa using h2)⟩
theorem obj_rep {K : PySem.W.Frag} {F H G : Hp} {c : Str} {ns : List Str} {l : List Fl} {v : V} {S : Addr → Prop} (ff : Same F G) (hg : ∀ b o, S b → H b = some o → G b = some o) (h : Own K F H (.obj c ns l) v S) : Rep K G (.ins c ns (l.map Fl.d)) v := by
  obtain ⟨a, C, dx, fs, Z, e, hs, hc, h1, h2, h3⟩ := h
  simp only [Rep]
  exact ⟨a, C, dx, fs, e, hc, hg _ _ hs h1, h2, reps_all h3.len fun i f v e1 e2 => (h3.own i f v e1 e2).rep ff fun b o z => hg b o (h3.sub i b z).1⟩
section
variable {K : PySem.W.Frag} {F H F' H' : Hp} {t : T} {v : V} {d : Dt} {S : Addr → Prop}
theorem Own.step (ff : Same F F') (hh : ∀ b o, S b → H b = some o → H' b = some o) (h : Own K F H t v S) : Own K F' H' t v S := by
  induction t with
  | leaf d => exact Rep.same ff h
  | lst l =>
    obtain ⟨a, vs, e, hs, h1, h2⟩ := h
    exact ⟨a, vs, e, hs, hh _ _ hs h1, h2.same ff⟩
  | dct l =>
    obtain ⟨a, vs, e, hs, h1, h2, h3⟩ := h
    exact ⟨a, vs, e, hs, hh _ _ hs h1, h2, h3.same ff⟩
  | dcT l =>
    obtain ⟨a, vs, e, hs, h1, h2, h3⟩ := h
    exact ⟨a, vs, e, hs, hh _ _ hs h1, h2, h3.same ff⟩
  | obj c ns l =>
    obtain ⟨a, C, dx, fs, Z, e, hs, hc, h1, h2, h3⟩ := h
    exact ⟨a, C, dx, fs, Z, e, hs, hc, hh _ _ hs h1, h2, h3.len, fun i f v e1 e2 => (h3.own i f v e1 e2).step ff fun b o z => hh b o (h3.sub i b z).1, h3.sub, h3.dis⟩
  | pin a t ih => exact ⟨h.1, h.2.1, ih h.2.2⟩
theorem Own.grow {S' : Addr → Prop} (hs : ∀ b, S b → S' b) (h : Own K F H t v S) : Own K F H t v S' := by
  induction t with
  | leaf d => exact h
  | lst l =>
    obtain ⟨a, vs, e, q, h1⟩ := h
    exact ⟨a, vs, e, hs _ q, h1⟩
  | dct l =>
    obtain ⟨a, vs, e, q, h1⟩ := h
    exact ⟨a, vs, e, hs _ q, h1⟩
  | dcT l =>
    obtain ⟨a, vs, e, q, h1⟩ := h
    exact ⟨a, vs, e, hs _ q, h1⟩
  | obj c ns l =>
    obtain ⟨a, C, dx, fs, Z, e, q, hc, h1, h2, h3⟩ := h
    exact ⟨a, C, dx, fs, Z, e, hs _ q, hc, h1, h2, h3.len, h3.own, fun i b z => ⟨hs _ (h3.sub i b z).1, (h3.sub i b z).2⟩, h3.dis⟩
  | pin a t ih => exact ⟨h.1, h.2.1, ih h.2.2⟩
theorem RepB.of (fh : Same F H) (h : Rep K F d v) : RepB K F H d v := by
  cases d with
  | lst l =>
    simp only [Rep] at h
    obtain ⟨a, vs, e, h1, h2⟩ := h
    exact ⟨a, vs, e, fh.seq h1, h2⟩
  | dct ks l =>
    simp only [Rep] at h
    obtain ⟨a, vs, e, h1, h2⟩ := h
    exact ⟨a, vs, e, fh.rd h1, h2⟩
  | dcT ks l =>
    simp only [Rep] at h
    obtain ⟨a, vs, e, h1, h2⟩ := h
    exact ⟨a, vs, e, fh.rd h1, h2⟩
  | tup l =>
    simp only [Rep] at h
    exact h
  | ins c ns l => exact Rep.same fh h
  | _ =>
    simp only [Rep] at h
    exact h
theorem RepB.rep (fh : Same F H) (h : RepB K F H d v) : Rep K H d v := by
  cases d with
  | lst l =>
    obtain ⟨a, vs, e, h1, h2⟩ := h
    simp only [Rep]
    exact ⟨a, vs, e, h1, h2.same fh⟩
  | dct ks l =>
    obtain ⟨a, vs, e, h1, h2, h3⟩ := h
    simp only [Rep]
    exact ⟨a, vs, e, h1, h2, h3.same fh⟩
  | dcT ks l =>
    obtain ⟨a, vs, e, h1, h2, h3⟩ := h
    simp only [Rep]
    exact ⟨a, vs, e, h1, h2, h3.same fh⟩
  | tup l =>
    obtain ⟨a, vs, e, h1, h2⟩ := h
    simp only [Rep]
    exact ⟨a, vs, e, fh.tup h1, h2.same fh⟩
  | ins c ns l => exact h
  | _ =>
    simp only [Rep]
    exact h
theorem RepB.step (ff : Same F F') (hh : Same H H') (h : RepB K F H d v) : RepB K F' H' d v := by
  cases d with
  | lst l =>
    obtain ⟨a, vs, e, h1, h2⟩ := h
    exact ⟨a, vs, e, hh.seq h1, h2.same ff⟩
  | dct ks l =>
    obtain ⟨a, vs, e, h1, h2, h3⟩ := h
    exact ⟨a, vs, e, hh.rd h1, h2, h3.same ff⟩
  | dcT ks l =>
    obtain ⟨a, vs, e, h1, h2, h3⟩ := h
    exact ⟨a, vs, e, hh.rd h1, h2, h3.same ff⟩
  | tup l =>
    obtain ⟨a, vs, e, h1, h2⟩ := h
    exact ⟨a, vs, e, ff.tup h1, h2.same ff⟩
  | ins c ns l => exact Rep.same hh h
  | _ => exact h
theorem Own.repB (fh : Same F H) (h : Own K F H t v S) : RepB K F H t.d v := by
  induction t with
  | leaf d => exact RepB.of fh h
  | lst l =>
    obtain ⟨a, vs, e, _, h1, h2⟩ := h
    exact ⟨a, vs, e, SqL.of h1, h2⟩
  | dct l =>
    obtain ⟨a, vs, e, _, h1, h2⟩ := h
    exact ⟨a, vs, e, .inl h1, h2⟩
  | dcT l =>
    obtain ⟨a, vs, e, _, h1, h2⟩ := h
    exact ⟨a, vs, e, .inl h1, h2⟩
  | obj c ns l => exact obj_rep fh (fun _ _ _ e => e) h
  | pin a t ih => exact ih h.2.2
open Classical in
noncomputable def frzF (F H : Hp) (S : Addr → Prop) : Hp := fun b => if S b then H b else F b
theorem frzF_in {b : Addr} (h : S b) : frzF F H S b = H b := if_pos h
theorem frzF_out {b : Addr} (h : ¬ S b) : frzF F H S b = F b := if_neg h
theorem frzF_ff (hs : ∀ b, S b → F b = none) : Same F (frzF F H S) := fun b o e => by
  have : ¬ S b := fun z => by rw [hs b z] at e; cases e
  rw [frzF_out this]
  exact e
theorem frzF_fh (fh : Same F H) : Same (frzF F H S) H := fun b o e => by
  by_cases h : S b
  · rw [frzF_in h] at e
    exact e
  · rw [frzF_out h] at e
    exact fh _ _ e
theorem Own.freeze (hs : ∀ b, S b → F b = none) (h : Own K F H t v S) : Rep K (frzF F H S) t.d v := by
  have ff := frzF_ff (H := H) hs
  induction t with
  | leaf d => exact Rep.same ff h
  | lst l =>
    obtain ⟨a, vs, e, q, h1, h2⟩ := h
    simp only [T.d, Rep]
    exact ⟨a, vs, e, SqL.of (by rw [frzF_in q]; exact h1), h2.same ff⟩
  | dct l =>
    obtain ⟨a, vs, e, q, h1, h2, h3⟩ := h
    simp only [T.d, Rep]
    exact ⟨a, vs, e, .inl (by rw [frzF_in q]; exact h1), h2, h3.same ff⟩
  | dcT l =>
    obtain ⟨a, vs, e, q, h1, h2, h3⟩ := h
    simp only [T.d, Rep]
    exact ⟨a, vs, e, .inl (by rw [frzF_in q]; exact h1), h2, h3.same ff⟩
  | obj c ns l => exact obj_rep ff (fun b o z e => by rw [frzF_in z]; exact e) h
  | pin a t ih => exact ih h.2.2
end
noncomputable abbrev Ix := Nat
noncomputable abbrev De := List (Option T)
structure Sep (K : PySem.W.Frag) (F H : Hp) (B : Addr → Prop) (L : Ix → Option (T × V)) (S : Ix → Addr → Prop) : Prop where
  own : ∀ i t v, L i = some (t, v) → Own K F H t v (S i)
  out : ∀ i b, S i b → F b = none ∧ (∃ o, H b = some o) ∧ B b
  dis : ∀ i j b, S i b → S j b → i = j
noncomputable def liveS (δ : De) (σ : St) (i : Nat) : Option (T × V) := match δ[i]?, σ[i]? with
  | some (some t), some (some v) => some (t, v)
  | _, _ => none
structure Fm where
  K : PySem.W.Frag
  F0 : Hp
  H0 : Hp
  S0 : Addr → Prop
noncomputable def Fm.B (Φ : Fm) (b : Addr) : Prop := Φ.H0 b = none ∨ Φ.S0 b
structure En (Φ : Fm) (δ : De) (σ : St) (F H : Hp) : Prop where
  fh : Same F H
  prot : ∀ b o, Φ.H0 b = some o → ¬ Φ.S0 b → H b = some o
  old : Same Φ.F0 F
  nw : ∀ b o, F b = some o → Φ.F0 b = some o ∨ Φ.B b
  len : δ.length = σ.length
  has : ∀ (i : Nat) (t : T), δ[i]? = some (some t) → ∃ v, σ[i]? = some (some v)
  sep : ∃ S, Sep Φ.K F H Φ.B (liveS δ σ) S
section
variable {Φ : Fm} {δ : De} {σ : St} {F H F' H' : Hp}
theorem liveS_of {i : Nat} {t : T} {v : V} (h1 : δ[i]? = some (some t)) (h2 : σ[i]? = some (some v)) : liveS δ σ i = some (t, v) := by
  unfold liveS
  rw [h1, h2]
theorem of_liveS {i : Nat} {t : T} {v : V} (h : liveS δ σ i = some (t, v)) : δ[i]? = some (some t) ∧ σ[i]? = some (some v) := by
  unfold liveS at h
  split at h
  · rename_i e1 e2
    cases h
    exact ⟨e1, e2⟩
  · cases h
theorem En.fresh (e : En Φ δ σ F H) {p : Addr} (hp : H p = none) : Φ.B p := by
  by_cases h : Φ.S0 p
  · exact .inr h
  · left
    cases q : Φ.H0 p with
    | none => rfl
    | some o => rw [e.prot p o q h] at hp; cases hp
theorem Sep.step {K : PySem.W.Frag} {B : Addr → Prop} {L : Ix → Option (T × V)} {S : Ix → Addr → Prop} (s : Sep K F H B L S) (st : Step F H F' H') : Sep K F' H' B L S where
  own := fun i t v h => (s.own i t v h).step st.ff fun b o _ e => st.hh b o e
  out := fun i b h => by
    obtain ⟨h1, ⟨o, h2⟩, h3⟩ := s.out i b h
    refine ⟨?_, ⟨o, st.hh _ _ h2⟩, h3⟩
    cases q : F' b with
    | none => rfl
    | some o' =>
      rcases st.nw b o' q with z | z
      · rw [h1] at z; cases z
      · rw [h2] at z; cases z
  dis := s.dis
theorem En.step (e : En Φ δ σ F H) (st : Step F H F' H') : En Φ δ σ F' H' where
  fh := st.fh
  prot := fun b o h1 h2 => st.hh _ _ (e.prot b o h1 h2)
  old := e.old.trans st.ff
  nw := fun b o h => by
    rcases st.nw b o h with z | z
    · exact e.nw b o z
    · exact .inr (e.fresh z)
  len := e.len
  has := e.has
  sep := let ⟨S, s⟩ := e.sep; ⟨S, s.step st⟩
theorem En.slot (e : En Φ δ σ F H) {i : Nat} {t : T} (h : δ[i]? = some (some t)) : ∃ v, σ[i]? = some (some v) ∧ RepB Φ.K F H t.d v := by
  obtain ⟨v, hv⟩ := e.has i t h
  obtain ⟨S, s⟩ := e.sep
  exact ⟨v, hv, (s.own i t v (liveS_of h hv)).repB e.fh⟩
theorem En.leaf (e : En Φ δ σ F H) {i : Nat} {d : Dt} (h : δ[i]? = some (some (.leaf d))) : ∃ v, σ[i]? = some (some v) ∧ Rep Φ.K F d v := by
  obtain ⟨v, hv⟩ := e.has i _ h
  obtain ⟨S, s⟩ := e.sep
  exact ⟨v, hv, s.own i _ v (liveS_of h hv)⟩
theorem get_set {α : Type} {l : List (Option α)} {i j : Nat} {x y : Option α} (h : (l.set i x)[j]? = some y) : (i = j ∧ y = x) ∨ (i ≠ j ∧ l[j]? = some y) := by
  by_cases hij : i = j
  · subst hij
    left
    rw [List.getElem?_set] at h
    simp only [if_true] at h
    split at h
    · cases h; exact ⟨rfl, rfl⟩
    · cases h
  · right
    rw [List.getElem?_set_ne hij] at h
    exact ⟨hij, h⟩
theorem En.put (e : En Φ δ σ F H) {t : T} {v : V} {S' : Addr → Prop} (st : Step F H F' H') (ho : Own Φ.K F' H' t v S') (hs : ∀ b, S' b → F' b = none ∧ H b = none ∧ ∃ o, H' b = some o) (i : Nat) : En Φ (δ.set i (some t)) (σ.set i (some v)) F' H' := by
  have e' := e.step st
  obtain ⟨S, s⟩ := e.sep
  have s' := s.step st
  refine ⟨e'.fh, e'.prot, e'.old, e'.nw, by simp [e.len], fun j u h => ?_, fun j b => if j = i then S' b else S j b, ?_, ?_, ?_⟩
  · rcases get_set h with ⟨rfl, z⟩ | ⟨hn, z⟩
    · have hi : i < σ.length := by
        rw [← e.len]
        have := (List.getElem?_eq_some_iff.mp h).1
        simpa using this
      exact ⟨v, by simp [hi]⟩
    · obtain ⟨w, hw⟩ := e.has j u z
      exact ⟨w, by rw [List.getElem?_set_ne hn]; exact hw⟩
  · intro j u w h
    obtain ⟨h1, h2⟩ := of_liveS h
    rcases get_set h1 with ⟨rfl, z⟩ | ⟨hn, z⟩
    · rcases get_set h2 with ⟨_, z2⟩ | ⟨hn2, _⟩
      · cases z
        cases z2
        show Own _ _ _ _ _ (fun b => if i = i then S' b else S i b)
        simp only [if_true]
        exact ho
      · exact absurd rfl hn2
    · rcases get_set h2 with ⟨z2, _⟩ | ⟨_, z2⟩
      · exact absurd z2 hn
      · have : ¬ j = i := fun q => hn q.symm
        show Own _ _ _ _ _ (fun b => if j = i then S' b else S j b)
        simp only [if_neg this]
        exact s'.own j u w (liveS_of z z2)
  · intro j b h
    split at h
    · obtain ⟨h1, h2, h3⟩ := hs b h
      exact ⟨h1, h3, e.fresh h2⟩
    · exact s'.out _ b h
  · have old : ∀ j b, S j b → ¬ S' b := fun j b h z => by
      obtain ⟨_, ⟨o, h2⟩, _⟩ := s.out j b h
      rw [(hs b z).2.1] at h2
      cases h2
    intro j k b hj hk
    split at hj <;> split at hk
    · rename_i q1 q2
      rw [q1, q2]
    · exact absurd hj (old _ b hk)
    · exact absurd hk (old _ b hj)
    · exact s.dis _ _ b hj hk
theorem own_place {K : PySem.W.Frag} {t : T} {a : Addr} {S : Addr → Prop} (ht : ∀ d, t ≠ .leaf d) (h : Own K F H t (.ref a) S) : S a := by
  induction t with
  | leaf d => exact absurd rfl (ht d)
  | lst l => obtain ⟨b, _, e, q, _⟩ := h; cases e; exact q
  | dct l => obtain ⟨b, _, e, q, _⟩ := h; cases e; exact q
  | dcT l => obtain ⟨b, _, e, q, _⟩ := h; cases e; exact q
  | obj c ns l => obtain ⟨b, _, _, _, _, e, q, _⟩ := h; cases e; exact q
  | pin b t ih => exact ih h.2.1 h.2.2
theorem En.poke (e : En Φ δ σ F H) {i : Nat} {t t' : T} {a : Addr} {o : HO} (h : δ[i]? = some (some t)) (hv : σ[i]? = some (some (.ref a))) (ht : ∀ d, t ≠ .leaf d) (ho : ∀ S : Addr → Prop, S a → Own Φ.K F (upd H a o) t' (.ref a) S) :
    En Φ (δ.set i (some t')) σ F (upd H a o) := by
  obtain ⟨S, s⟩ := e.sep
  have sa : S i a := own_place ht (s.own i t _ (liveS_of h hv))
  obtain ⟨fa, ⟨oa, ha⟩, ba⟩ := s.out _ a sa
  have hi : i < δ.length := (List.getElem?_eq_some_iff.mp h).1
  refine ⟨fun b u z => ?_, fun b u h1 h2 => ?_, e.old, e.nw, by simp [e.len], fun j u z => ?_, S, fun j u w z => ?_, fun j b z => ?_, s.dis⟩
  · have : b ≠ a := fun q => by rw [q, fa] at z; cases z
    rw [upd_ne this]
    exact e.fh _ _ z
  · have : b ≠ a := fun q => by
      subst q
      rcases ba with z | z
      · rw [z] at h1; cases h1
      · exact h2 z
    rw [upd_ne this]
    exact e.prot b u h1 h2
  · rcases get_set z with ⟨rfl, _⟩ | ⟨hn, z⟩
    · exact ⟨_, hv⟩
    · exact e.has j u z
  · obtain ⟨h1, h2⟩ := of_liveS z
    rcases get_set h1 with ⟨rfl, z1⟩ | ⟨hn, z1⟩
    · cases z1
      rw [hv] at h2
      cases h2
      exact ho _ sa
    · refine (s.own j u w (liveS_of z1 h2)).step (Same.refl _) fun b q hb hq => ?_
      have : b ≠ a := fun y => by
        subst y
        exact hn (s.dis _ _ _ hb sa).symm
      rw [upd_ne this]
      exact hq
  · obtain ⟨h1, ⟨q, h2⟩, h3⟩ := s.out j b z
    refine ⟨h1, ?_, h3⟩
    by_cases y : b = a
    · subst y
      exact ⟨o, upd_same⟩
    · exact ⟨q, by rw [upd_ne y]; exact h2⟩
end
end L2
namespace L2
open PySem PySem.Spec PyProof.Rows
noncomputable def KO (K : PySem.W.Frag) (F H : Hp) (t : T) (Q : VK) : Prop := ∀ v H' F' S, Step F H F' H' → Own K F' H' t v S → (∀ b, S b → F' b = none ∧ H b = none ∧ ∃ o, H' b = some o) → Q v H'
noncomputable def KL (K : PySem.W.Frag) (F H : Hp) (d : Dt) (Q : VK) : Prop := ∀ v H' F', Step F H F' H' → Rep K F' d v → Q v H'
noncomputable def KB (K : PySem.W.Frag) (F H : Hp) (d : Dt) (Q : VK) : Prop := ∀ v H' F', Step F H F' H' → RepB K F' H' d v → Q v H'
section
variable {K : PySem.W.Frag} {F H F1 H1 : Hp} {t : T} {d : Dt} {Q : VK}
theorem KO.step (k : KO K F H t Q) (st : Step F H F1 H1) : KO K F1 H1 t Q := fun v H' F' S s o hs => k v H' F' S (st.trans s) o fun b z => ⟨(hs b z).1, st.hh.free (hs b z).2.1, (hs b z).2.2⟩
theorem KO.leaf (k : KO K F H (.leaf d) Q) : KL K F H d Q := fun v H' F' st r => k v H' F' (fun _ => False) st r fun _ z => z.elim
theorem KL.here (k : KL K F H d Q) (fh : Same F H) {v : V} (r : Rep K F d v) : Q v H := k v H F (Step.refl fh) r
theorem KB.to (k : KB K F H d Q) : KL K F H d Q := fun v H' F' st r => k v H' F' st (RepB.of st.fh r)
theorem KL.to (k : KL K F H t.d Q) : KO K F H t Q := fun v H' F' S st o hs => by
  refine k v H' (frzF F' H' S) ⟨st.hh, st.ff.trans (frzF_ff fun b z => (hs b z).1), frzF_fh st.fh, fun b u z => ?_⟩ (o.freeze fun b z => (hs b z).1)
  by_cases hb : S b
  · exact .inr (hs b hb).2.1
  · rw [frzF_out hb] at z
    exact st.nw b u z
theorem KB.toO (k : KB K F H t.d Q) : KO K F H t Q := fun v H' F' S st o hs => k v H' F' st (o.repB st.fh)
end
noncomputable def tO (K : PySem.W.Frag) (f : De → Option T) : TE := fun σ H Q => ∃ Φ δ F t, Fm.K Φ = K ∧ En Φ δ σ F H ∧ f δ = some t ∧ KO K F H t Q
noncomputable def tL (K : PySem.W.Frag) (f : De → Option Dt) : TE := fun σ H Q => ∃ Φ δ F d, Fm.K Φ = K ∧ En Φ δ σ F H ∧ f δ = some d ∧ KL K F H d Q
noncomputable def tBd (K : PySem.W.Frag) (f : De → Option Dt) : TE := fun σ H Q => ∃ Φ δ F d, Fm.K Φ = K ∧ En Φ δ σ F H ∧ f δ = some d ∧ KB K F H d Q
noncomputable def tTr (K : PySem.W.Frag) (f : De → Option Bool) : TT := fun σ H Q => ∃ Φ δ F b, Fm.K Φ = K ∧ En Φ δ σ F H ∧ f δ = some b ∧ ∀ H' F', Step F H F' H' → Q b H'
noncomputable def DO (X : Cx) (e : Expr) (f : De → Option T) : Prop := PE X e (tO X.K f)
noncomputable def DL (X : Cx) (e : Expr) (f : De → Option Dt) : Prop := PE X e (tL X.K f)
noncomputable def DB (X : Cx) (e : Expr) (f : De → Option Dt) : Prop := PE X e (tBd X.K f)
noncomputable def DT (X : Cx) (e : Expr) (f : De → Option Bool) : Prop := PT X e (tTr X.K f)
noncomputable def DW (X : Cx) (e : Expr) (f : De → Option Bool) : Prop := PW X e (tTr X.K f)
theorem PE.mono {X : Cx} {e : Expr} {t t' : TE} (h : PE X e t) (m : ∀ σ H Q, t' σ H Q → t σ H Q) : PE X e t' := fun pins s σ H Q I q => h pins s σ H Q I (m _ _ _ q)
theorem PT.mono {X : Cx} {e : Expr} {t t' : TT} (h : PT X e t) (m : ∀ σ H Q, t' σ H Q → t σ H Q) : PT X e t' := fun pins s σ H Q I q => h pins s σ H Q I (m _ _ _ q)
theorem PW.mono {X : Cx} {e : Expr} {t t' : TT} (h : PW X e t) (m : ∀ σ H Q, t' σ H Q → t σ H Q) : PW X e t' := fun whole pins s σ H Q I q => h whole pins s σ H Q I (m _ _ _ q)
theorem PA.mono {X : Cx} {e : List Expr} {t t' : TA} (h : PA X e t) (m : ∀ σ H Q, t' σ H Q → t σ H Q) : PA X e t' := fun pos pins s σ H Q I q => h pos pins s σ H Q I (m _ _ _ q)
theorem PI.mono {X : Cx} {tg e : Expr} {t t' : TI} (h : PI X tg e t) (m : ∀ σ H Q, t' σ H Q → t σ H Q) : PI X tg e t' := fun pins s σ H Q I q => h pins s σ H Q I (m _ _ _ q)
theorem PG.mono {X : Cx} {e : Expr} {t t' : TG} (h : PG X e t) (m : ∀ v σ H Q, t' v σ H Q → t v σ H Q) : PG X e t' := fun pins s σ H v u Q I r q => h pins s σ H v u Q I r (m _ _ _ _ q)
theorem PS.mono {X : Cx} {e : Stmt} {t t' : TS} (h : PS X e t) (m : ∀ D σ H, t' D σ H → t D σ H) : PS X e t' := fun pins s σ H Q I q => h pins s σ H Q I (m _ _ _ q)
theorem PSs.mono {X : Cx} {e : List Stmt} {t t' : TS} (h : PSs X e t) (m : ∀ D σ H, t' D σ H → t D σ H) : PSs X e t' := fun pins s σ H Q I q => h pins s σ H Q I (m _ _ _ q)
theorem PE.or {X : Cx} {e : Expr} {t t' : TE} (h : PE X e t) (h' : PE X e t') : PE X e (fun σ H Q => t σ H Q ∨ t' σ H Q) := fun pins s σ H Q I q => q.elim (h pins s σ H Q I) (h' pins s σ H Q I)
theorem PI.or {X : Cx} {tg e : Expr} {t t' : TI} (h : PI X tg e t) (h' : PI X tg e t') : PI X tg e (fun σ H Q => t σ H Q ∨ t' σ H Q) := fun pins s σ H Q I q => q.elim (h pins s σ H Q I) (h' pins s σ H Q I)
section
variable {X : Cx} {e a b c : Expr} {f : De → Option T} {g fa fb fc : De → Option Dt} {pos : Pos}
noncomputable def toD (f : De → Option T) : De → Option Dt := fun δ => (f δ).map T.d
noncomputable def toT (f : De → Option Dt) : De → Option T := fun δ => (f δ).map T.leaf
theorem DO.toL (h : DO X e f) : DL X e (toD f) := PE.mono h fun σ H Q ⟨Φ, δ, F, d, hK, en, hf, k⟩ => by
  unfold toD at hf
  cases ht : f δ with
  | none => rw [ht] at hf; cases hf
  | some t =>
    rw [ht] at hf
    cases hf
    exact ⟨Φ, δ, F, t, hK, en, ht, k.to⟩
theorem DO.toB (h : DO X e f) : DB X e (toD f) := PE.mono h fun σ H Q ⟨Φ, δ, F, d, hK, en, hf, k⟩ => by
  unfold toD at hf
  cases ht : f δ with
  | none => rw [ht] at hf; cases hf
  | some t =>
    rw [ht] at hf
    cases hf
    exact ⟨Φ, δ, F, t, hK, en, ht, k.toO⟩
theorem DL.toB (h : DL X e g) : DB X e g := PE.mono h fun σ H Q ⟨Φ, δ, F, d, hK, en, hf, k⟩ => ⟨Φ, δ, F, d, hK, en, hf, k.to⟩
theorem DL.toO (h : DL X e g) : DO X e (toT g) := PE.mono h fun σ H Q ⟨Φ, δ, F, t, hK, en, hf, k⟩ => by
  unfold toT at hf
  cases hd : g δ with
  | none => rw [hd] at hf; cases hf
  | some d =>
    rw [hd] at hf
    cases hf
    exact ⟨Φ, δ, F, d, hK, en, hd, k.leaf⟩
noncomputable def vL (i : Nat) : De → Option Dt := fun δ => match δ[i]? with
  | some (some (.leaf d)) => some d
  | _ => none
noncomputable def vB (i : Nat) : De → Option Dt := fun δ => match δ[i]? with
  | some (some t) => some t.d
  | _ => none
theorem dl_var {i : Nat} (h : PE X e (tVar i)) : DL X e (vL i) := PE.mono h fun σ H Q ⟨Φ, δ, F, d, hK, en, hf, k⟩ => by
  unfold vL at hf
  split at hf
  · rename_i q
    cases hf
    obtain ⟨v, h1, h2⟩ := en.leaf q
    exact ⟨v, h1, k.here en.fh (hK ▸ h2)⟩
  · cases hf
theorem db_var {i : Nat} (h : PE X e (tVar i)) : DB X e (vB i) := PE.mono h fun σ H Q ⟨Φ, δ, F, d, hK, en, hf, k⟩ => by
  unfold vB at hf
  split at hf
  · rename_i q
    cases hf
    obtain ⟨v, h1, h2⟩ := en.slot q
    exact ⟨v, h1, k v H F (Step.refl en.fh) (hK ▸ h2)⟩
  · cases hf
noncomputable def kD (d : Dt) : De → Option Dt := fun _ => some d
theorem dl_c {v : V} {d : Dt} (h : PE X e (tC v)) (r : ∀ F, Rep X.K F d v) : DL X e (kD d) := PE.mono h fun σ H Q ⟨Φ, δ, F, d', hK, en, hf, k⟩ => by
  cases hf
  exact k.here en.fh (r F)
theorem dl_int {i : Int} {j} : DL X (.Constant (.int i) j pos) (kD (.int i)) := dl_c pe_int fun F => by simp only [Rep]
theorem dl_bl {i : Bool} {j} : DL X (.Constant (.bool i) j pos) (kD (.bl i)) := dl_c pe_bl fun F => by simp only [Rep]
theorem dl_non {j} : DL X (.Constant .none j pos) (kD .non) := dl_c pe_non fun F => by simp only [Rep]
theorem dl_str {x : Str} {j} : DL X (.Constant (.str x) j pos) (kD (.str x)) := dl_c pe_str fun F => by simp only [Rep]
noncomputable def R2D (K : PySem.W.Frag) (r : R2) (g : Dt → Dt → Option T) : Prop := ∀ F H x y vx vy (Q : VK) t, Same F H → RepB K F H x vx → RepB K F H y vy → g x y = some t → KO K F H t Q → r vx vy H Q
noncomputable def d2 (g : Dt → Dt → Option T) (fa fb : De → Option Dt) : De → Option T := fun δ => (fa δ).bind fun x => (fb δ).bind fun y => g x y
theorem d2_of {K : PySem.W.Frag} {r : R2} {g : Dt → Dt → Option T} (hr : R2D K r g) {σ : St} {H : Hp} {Q : VK} (h : tO K (d2 g fa fb) σ H Q) : tOp r (tBd K fa) (tBd K fb) σ H Q := by
  obtain ⟨Φ, δ, F, t, hK, en, hf, k⟩ := h
  unfold d2 at hf
  obtain ⟨x, hx, hf⟩ := bS hf
  obtain ⟨y, hy, hf⟩ := bS hf
  exact ⟨Φ, δ, F, x, hK, en, hx, fun v H1 F1 st rv => ⟨Φ, δ, F1, y, hK, en.step st, hy, fun v2 H2 F2 st2 rv2 => hr F2 H2 x y v v2 Q t st2.fh (rv.step st2.ff st2.hh) rv2 hf (k.step (st.trans st2))⟩⟩
theorem do_bin {op : Operator} {r : R2} {g : Dt → Dt → Option T} (ho : OpR X (binaryOp op) r) (hr : R2D X.K r g) (ha : DB X a fa) (hb : DB X b fb) : DO X (.BinOp a op b pos) (d2 g fa fb) := PE.mono (pe_op ho ha hb) fun σ H Q h => d2_of hr h
theorem do_cmp {op : CmpOp} {r : R2} {g : Dt → Dt → Option T} (ho : OpR X (compareOp op) r) (hr : R2D X.K r g) (ha : DB X a fa) (hb : DB X b fb) (hm : behindInMarks op b = false) : DO X (.Compare a [op] [b] pos) (d2 g fa fb) := PE.mono (pe_cmpR ho ha hb hm) fun σ H Q h => d2_of hr h
noncomputable def asB : T → Option Bool
  | .leaf (.bl b) => some b
  | _ => none
noncomputable def tB2 (g : Dt → Dt → Option T) (fa fb : De → Option Dt) : De → Option Bool := fun δ => (d2 g fa fb δ).bind asB
theorem asB_own {K : PySem.W.Frag} {F H : Hp} {t : T} {v : V} {S : Addr → Prop} {b : Bool} (h : asB t = some b) (o : Own K F H t v S) : v = .bl b := by
  unfold asB at h
  split at h
  · cases h
    have o : Rep K F (.bl b) v := o
    simp only [Rep] at o
    exact o
  · cases h
theorem dt_cmp {op : CmpOp} {r : R2} {g : Dt → Dt → Option T} (ho : OpR X (compareOp op) r) (hr : R2D X.K r g) (ha : DB X a fa) (hb : DB X b fb) (hm : behindInMarks op b = false) : DT X (.Compare a [op] [b] pos) (tB2 g fa fb) := PT.mono (pt_cmpR ho ha hb hm) fun σ H Q ⟨Φ, δ, F, t, hK, en, hf, k⟩ => by
  unfold tB2 at hf
  obtain ⟨z, hz, hf⟩ := bS hf
  refine d2_of hr ⟨Φ, δ, F, z, hK, en, hz, fun v H' F' S st o hs => ?_⟩
  exact ⟨t, asB_own hf o, k H' F' st⟩
noncomputable def truD : Dt → Option Bool
  | .non => some false
  | .bl b => some b
  | .int i => some (i != 0)
  | .str x => if x.length ≤ sizeLine then some ((x.length : Int) != 0) else none
  | .tup l => some (!l.isEmpty)
  | .lst l => some (!l.isEmpty)
  | _ => none
noncomputable def fTru (f : De → Option Dt) : De → Option Bool := fun δ => (f δ).bind truD
theorem isEmpty_reps {K : PySem.W.Frag} {F : Hp} {l : List Dt} {vs : List V} (h : Reps K F l vs) : l.isEmpty = vs.isEmpty := by
  cases l with
  | nil => unfold Reps at h; rw [h]; rfl
  | cons d l => unfold Reps at h; obtain ⟨v, ws, rfl, _⟩ := h; rfl
theorem truD_of {K : PySem.W.Frag} {F H : Hp} {d : Dt} {v : V} {b : Bool} (fh : Same F H) (h : RepB K F H d v) (hb : truD d = some b) : TruV K v H b := by
  cases d with
  | non => cases h; cases hb; rfl
  | bl x => cases h; cases hb; rfl
  | int x => cases h; cases hb; rfl
  | str x =>
    cases h
    simp only [truD] at hb
    split at hb
    · cases hb; exact ⟨by assumption, rfl⟩
    · cases hb
  | tup l =>
    obtain ⟨a, vs, rfl, h1, h2⟩ := h
    cases hb
    exact .inr (.inl ⟨vs, fh.tup h1, by rw [isEmpty_reps h2]⟩)
  | lst l =>
    obtain ⟨a, vs, rfl, h1, h2⟩ := h
    cases hb
    exact .inl ⟨vs, h1, by rw [isEmpty_reps h2]⟩
  | dct ks l => cases hb
  | dcT ks l => cases hb
  | ins c ns l => cases hb
theorem dt_truth (ha : DB X a fa) (he : ∀ whole, isTrue a X.env whole = (do let v ← whole; standAt a.pos; holding [v] (truthy v))) : DT X a (fTru fa) := PT.mono (pt_truth ha he) fun σ H Q ⟨Φ, δ, F, b, hK, en, hf, k⟩ => by
  unfold fTru at hf
  obtain ⟨d, hd, hf⟩ := bS hf
  exact ⟨Φ, δ, F, d, hK, en, hd, fun v H' F' st r => ⟨b, truD_of st.fh r hf, k H' F' st⟩⟩
noncomputable def fNot (f : De → Option Bool) : De → Option Bool := fun δ => (f δ).map (!·)
noncomputable def fAnd (f g : De → Option Bool) : De → Option Bool := fun δ => (f δ).bind fun b => if b then g δ else some false
noncomputable def fOr (f g : De → Option Bool) : De → Option Bool := fun δ => (f δ).bind fun b => if b then some true else g δ
variable {ta tb tc : De → Option Bool} {rest : List Expr}
theorem dt_not (h : DT X a ta) : DT X (.UnaryOp .Not a pos) (fNot ta) := PT.mono (pt_not h) fun σ H Q ⟨Φ, δ, F, b, hK, en, hf, k⟩ => by
  unfold fNot at hf
  cases q : ta δ with
  | none => rw [q] at hf; cases hf
  | some c =>
    rw [q] at hf
    cases hf
    exact ⟨Φ, δ, F, c, hK, en, q, fun H' F' st => k H' F' st⟩
theorem dw_and1 (h : DT X a ta) : DW X (.BoolOp .And [a] pos) ta := pw_and1 h
theorem dw_or1 (h : DT X a ta) : DW X (.BoolOp .Or [a] pos) ta := pw_or1 h
theorem dw_and (h : DT X a ta) (h' : DW X (.BoolOp .And (b :: rest) pos) tb) : DW X (.BoolOp .And (a :: b :: rest) pos) (fAnd ta tb) := PW.mono (pw_and h h') fun σ H Q ⟨Φ, δ, F, t, hK, en, hf, k⟩ => by
  unfold fAnd at hf
  obtain ⟨c, hc, hf⟩ := bS hf
  refine ⟨Φ, δ, F, c, hK, en, hc, fun H' F' st => ?_⟩
  split at hf
  · rename_i q
    rw [if_pos q]
    exact ⟨Φ, δ, F', t, hK, en.step st, hf, fun H2 F2 s2 => k H2 F2 (st.trans s2)⟩
  · rename_i q
    rw [if_neg q]
    cases hf
    exact k H' F' st
theorem dw_or (h : DT X a ta) (h' : DW X (.BoolOp .Or (b :: rest) pos) tb) : DW X (.BoolOp .Or (a :: b :: rest) pos) (fOr ta tb) := PW.mono (pw_or h h') fun σ H Q ⟨Φ, δ, F, t, hK, en, hf, k⟩ => by
  unfold fOr at hf
  obtain ⟨c, hc, hf⟩ := bS hf
  refine ⟨Φ, δ, F, c, hK, en, hc, fun H' F' st => ?_⟩
  split at hf
  · rename_i q
    rw [if_pos q]
    cases hf
    exact k H' F' st
  · rename_i q
    rw [if_neg q]
    exact ⟨Φ, δ, F', t, hK, en.step st, hf, fun H2 F2 s2 => k H2 F2 (st.trans s2)⟩
theorem DW.t (h : DW X a ta) : DT X a ta := h.pt
noncomputable def asBl : Dt → Option Bool
  | .bl b => some b
  | _ => none
noncomputable def vNot (f : De → Option Dt) : De → Option T := fun δ => (f δ).bind fun x => (asBl x).map fun b => .leaf (.bl (!b))
noncomputable def vAnd (f : De → Option Dt) (g : De → Option T) : De → Option T := fun δ => (f δ).bind fun x => (asBl x).bind fun b => if b then g δ else some (.leaf (.bl false))
noncomputable def vIf (c : De → Option Bool) (f g : De → Option T) : De → Option T := fun δ => (c δ).bind fun b => if b then f δ else g δ
theorem repB_bl {K : PySem.W.Frag} {F H : Hp} {x : Dt} {v : V} {b : Bool} (h : asBl x = some b) (r : RepB K F H x v) : v = .bl b := by
  unfold asBl at h
  split at h
  · cases h; exact r
  · cases h
theorem rep_bl {K : PySem.W.Frag} {F : Hp} {b : Bool} : Rep K F (.bl b) (.bl b) := by simp only [Rep]
theorem rep_int {K : PySem.W.Frag} {F : Hp} {b : Int} : Rep K F (.int b) (.int b) := by simp only [Rep]
theorem rep_str {K : PySem.W.Frag} {F : Hp} {b : Str} : Rep K F (.str b) (.str b) := by simp only [Rep]
theorem rep_non {K : PySem.W.Frag} {F : Hp} : Rep K F .non .non := by simp only [Rep]
variable {oa ob : De → Option T}
theorem do_not (h : DB X a fa) : DO X (.UnaryOp .Not a pos) (vNot fa) := PE.mono (pe_not h) fun σ H Q ⟨Φ, δ, F, t, hK, en, hf, k⟩ => by
  unfold vNot at hf
  obtain ⟨x, hx, hf⟩ := bS hf
  cases q : asBl x with
  | none => rw [q] at hf; cases hf
  | some b =>
    rw [q] at hf
    cases hf
    exact ⟨Φ, δ, F, x, hK, en, hx, fun v H' F' st r => ⟨b, repB_bl q r, (k.step st).leaf.here st.fh rep_bl⟩⟩
theorem do_one {op} (h : DO X a oa) : DO X (.BoolOp op [a] pos) oa := pe_one h
theorem do_and (h : DB X a fa) (h' : DO X (.BoolOp .And (b :: rest) pos) ob) : DO X (.BoolOp .And (a :: b :: rest) pos) (vAnd fa ob) := PE.mono (pe_and h h') fun σ H Q ⟨Φ, δ, F, t, hK, en, hf, k⟩ => by
  unfold vAnd at hf
  obtain ⟨x, hx, hf⟩ := bS hf
  obtain ⟨b, hb, hf⟩ := bS hf
  refine ⟨Φ, δ, F, x, hK, en, hx, fun v H' F' st r => ⟨b, repB_bl hb r, ?_⟩⟩
  split at hf
  · rename_i q
    rw [if_pos q]
    exact ⟨Φ, δ, F', t, hK, en.step st, hf, k.step st⟩
  · rename_i q
    rw [if_neg q]
    cases hf
    exact (k.step st).leaf.here st.fh rep_bl
theorem do_if (hc : DT X c tc) (h : DO X a oa) (h' : DO X b ob) : DO X (.IfExp c a b pos) (vIf tc oa ob) := PE.mono (pe_ifExp hc h h') fun σ H Q ⟨Φ, δ, F, t, hK, en, hf, k⟩ => by
  unfold vIf at hf
  obtain ⟨x, hx, hf⟩ := bS hf
  refine ⟨Φ, δ, F, x, hK, en, hx, fun H' F' st => ?_⟩
  split at hf
  · rename_i q
    rw [if_pos q]
    exact ⟨Φ, δ, F', t, hK, en.step st, hf, k.step st⟩
  · rename_i q
    rw [if_neg q]
    exact ⟨Φ, δ, F', t, hK, en.step st, hf, k.step st⟩
noncomputable def RepBs (K : PySem.W.Frag) (F H : Hp) : List Dt → List V → Prop
  | [], vs => vs = []
  | d :: l, vs => ∃ v ws, vs = v :: ws ∧ RepB K F H d v ∧ RepBs K F H l ws
noncomputable def tAL (K : PySem.W.Frag) (f : De → Option (List Dt)) : TA := fun σ H Q => ∃ Φ δ F ds, Fm.K Φ = K ∧ En Φ δ σ F H ∧ f δ = some ds ∧ ∀ vs H' F', Step F H F' H' → Reps K F' ds vs → Q vs H'
noncomputable def tAB (K : PySem.W.Frag) (f : De → Option (List Dt)) : TA := fun σ H Q => ∃ Φ δ F ds, Fm.K Φ = K ∧ En Φ δ σ F H ∧ f δ = some ds ∧ ∀ vs H' F', Step F H F' H' → RepBs K F' H' ds vs → Q vs H'
structure DA (X : Cx) (es : List Expr) (f : De → Option (List Dt)) : Prop where
  len : ∀ δ ds, f δ = some ds → ds.length = es.length
  pa : PA X es (tAL X.K f)
structure DAB (X : Cx) (es : List Expr) (f : De → Option (List Dt)) : Prop where
  len : ∀ δ ds, f δ = some ds → ds.length = es.length
  pa : PA X es (tAB X.K f)
noncomputable def aNil : De → Option (List Dt) := fun _ => some []
noncomputable def aCons (f : De → Option Dt) (g : De → Option (List Dt)) : De → Option (List Dt) := fun δ => (f δ).bind fun d => (g δ).bind fun ds => some (d :: ds)
variable {es : List Expr} {fs : De → Option (List Dt)}
theorem aCons_len {n : Nat} {f : De → Option Dt} (h : ∀ δ ds, fs δ = some ds → ds.length = n) : ∀ δ ds, aCons f fs δ = some ds → ds.length = n + 1 := fun δ ds hf => by
  unfold aCons at hf
  obtain ⟨x, hx, hf⟩ := bS hf
  obtain ⟨y, hy, hf⟩ := bS hf
  cases hf
  simp [h δ y hy]
theorem da_nil : DA X [] aNil := ⟨fun _ _ h => by cases h; rfl, PA.mono pa_nil fun σ H Q ⟨Φ, δ, F, ds, hK, en, hf, k⟩ => by
  cases hf
  exact k [] H F (Step.refl en.fh) (by simp only [Reps])⟩
theorem dab_nil : DAB X [] aNil := ⟨fun _ _ h => by cases h; rfl, PA.mono pa_nil fun σ H Q ⟨Φ, δ, F, ds, hK, en, hf, k⟩ => by
  cases hf
  exact k [] H F (Step.refl en.fh) rfl⟩
theorem da_cons (h : DL X e g) (h' : DA X es fs) (hs : starEach (e :: es) X.env = (false, eval e X.env) :: starEach es X.env := by rfl) : DA X (e :: es) (aCons g fs) :=
  ⟨aCons_len h'.len, PA.mono (pa_cons h h'.pa hs) fun σ H Q ⟨Φ, δ, F, ds, hK, en, hf, k⟩ => by
    unfold aCons at hf
    obtain ⟨x, hx, hf⟩ := bS hf
    obtain ⟨y, hy, hf⟩ := bS hf
    cases hf
    exact ⟨Φ, δ, F, x, hK, en, hx, fun v H1 F1 st r => ⟨Φ, δ, F1, y, hK, en.step st, hy, fun vs H2 F2 s2 r2 => k (v :: vs) H2 F2 (st.trans s2) (by simp only [Reps]; exact ⟨v, vs, rfl, r.same s2.ff, r2⟩)⟩⟩⟩
theorem dab_cons (h : DB X e g) (h' : DAB X es fs) (hs : starEach (e :: es) X.env = (false, eval e X.env) :: starEach es X.env := by rfl) : DAB X (e :: es) (aCons g fs) :=
  ⟨aCons_len h'.len, PA.mono (pa_cons h h'.pa hs) fun σ H Q ⟨Φ, δ, F, ds, hK, en, hf, k⟩ => by
    unfold aCons at hf
    obtain ⟨x, hx, hf⟩ := bS hf
    obtain ⟨y, hy, hf⟩ := bS hf
    cases hf
    exact ⟨Φ, δ, F, x, hK, en, hx, fun v H1 F1 st r => ⟨Φ, δ, F1, y, hK, en.step st, hy, fun vs H2 F2 s2 r2 => k (v :: vs) H2 F2 (st.trans s2) ⟨v, vs, rfl, r.step s2.ff s2.hh, r2⟩⟩⟩⟩
noncomputable def vTup (f : De → Option (List Dt)) : De → Option T := fun δ => (f δ).bind fun ds => if ds.length ≤ sizeLine then some (.leaf (.tup ds)) else none
noncomputable def vLst (f : De → Option (List Dt)) : De → Option T := fun δ => (f δ).bind fun ds => if ds.length ≤ sizeLine then some (.lst ds) else none
theorem do_tup {x1} (h : DA X es fs) : DO X (.Tuple es x1 pos) (vTup fs) := PE.mono (pe_tup h.pa) fun σ H Q ⟨Φ, δ, F, t, hK, en, hf, k⟩ => by
  unfold vTup at hf
  obtain ⟨ds, hd, hf⟩ := bS hf
  split at hf
  · rename_i hl
    cases hf
    refine ⟨Φ, δ, F, ds, hK, en, hd, fun vs H1 F1 st r => ⟨by rw [r.length]; exact hl, fun p hp => ?_⟩⟩
    refine (k.step st).leaf _ _ _ (Step.new st.fh hp) ?_
    simp only [Rep]
    exact ⟨p, vs, rfl, SqT.of upd_same, r.same (Same.upd (st.fh.free hp))⟩
  · cases hf
theorem own_lst {K : PySem.W.Frag} {F H : Hp} {ds : List Dt} {vs : List V} {p : Addr} {Q : VK} (k : KO K F H (.lst ds) Q) (fh : Same F H) (r : Reps K F ds vs) (hp : H p = none) : Q (.ref p) (upd H p (.lst vs)) := by
  refine k _ _ F (fun b => b = p) (Step.made fh hp) ⟨p, vs, rfl, rfl, upd_same, r⟩ fun b z => ?_
  subst z
  exact ⟨fh.free hp, hp, _, upd_same⟩
theorem do_lst (h : DA X es fs) : DO X (.List es pos) (vLst fs) := PE.mono (pe_lst h.pa) fun σ H Q ⟨Φ, δ, F, t, hK, en, hf, k⟩ => by
  unfold vLst at hf
  obtain ⟨ds, hd, hf⟩ := bS hf
  split at hf
  · rename_i hl
    cases hf
    exact ⟨Φ, δ, F, ds, hK, en, hd, fun vs H1 F1 st r => ⟨by rw [r.length]; exact hl, fun p hp => own_lst (k.step st) st.fh r hp⟩⟩
  · cases hf
noncomputable def CRD (K : PySem.W.Frag) (r : List V → Hp → VK → Prop) (g : List Dt → Option T) : Prop := ∀ F H ds vs (Q : VK) t, Same F H → RepBs K F H ds vs → g ds = some t → KO K F H t Q → r vs H Q
noncomputable def vCall (g : List Dt → Option T) (f : De → Option (List Dt)) : De → Option T := fun δ => (f δ).bind g
theorem tcb_of {K : PySem.W.Frag} {r : List V → Hp → VK → Prop} {g : List Dt → Option T} (hr : CRD K r g) {σ : St} {H : Hp} {Q : VK} (h : tO K (vCall g fs) σ H Q) : tCB r (tAB K fs) σ H Q := by
  obtain ⟨Φ, δ, F, t, hK, en, hf, k⟩ := h
  unfold vCall at hf
  obtain ⟨ds, hd, hf⟩ := bS hf
  exact ⟨Φ, δ, F, ds, hK, en, hd, fun vs H1 F1 st r => hr F1 H1 ds vs Q t st.fh r hf (k.step st)⟩
variable {x : Str} {p : Pos} {id Ty : String} {sc : Scope} {r : List V → Hp → VK → Prop} {gg : List Dt → Option T}
theorem do_callB (h : glOk sc x = true) (hc : CallR X (.builtin id) r) (hr : CRD X.K r gg) (hm : X.mg x = none) (hv : bootBuiltins x = some (.builtin id)) (ha : DAB X (e :: es) fs) (e1 : ScIs X sc := by rfl)
    (he : starEach (e :: es) X.env = (false, eval e X.env) :: starEach es X.env := by rfl) (hpl : (backTo pos (starEach es X.env)).any (·.1) = false := by rfl) : DO X (.Call (.Name x p) (e :: es) [] pos) (vCall gg fs) :=
  PE.mono (pe_callBD h hc hm hv ha.pa e1 he hpl) fun σ H Q q => tcb_of hr q
theorem do_callT (h : glOk sc x = true) (hc : CallR X (.type Ty) r) (hr : CRD X.K r gg) (hm : X.mg x = none) (hv : bootBuiltins x = some (.type Ty)) (ha : DAB X (e :: es) fs) (e1 : ScIs X sc := by rfl)
    (he : starEach (e :: es) X.env = (false, eval e X.env) :: starEach es X.env := by rfl) (hpl : (backTo pos (starEach es X.env)).any (·.1) = false := by rfl) : DO X (.Call (.Name x p) (e :: es) [] pos) (vCall gg fs) :=
  PE.mono (pe_callTyD h hc hm hv ha.pa e1 he hpl) fun σ H Q q => tcb_of hr q
noncomputable def spD (K : PySem.W.Frag) (n : Nat) (f : List Dt → Option T) : Sp := fun vs H Q _ => ∃ F ds t, Same F H ∧ ds.length = n ∧ Reps K F ds vs ∧ f ds = some t ∧ KO K F H t Q
theorem do_callF {k n : Nat} {ps : List Str} {ff : List Dt → Option T} (h : glOk sc x = true) (F : OkF X.prog X.w X.K X.mg X.base x k ps (spD X.K n ff)) (hr : Room k X.A) (ha : DA X (e :: es) fs) (hn : (e :: es).length = n := by rfl) (e1 : ScIs X sc := by rfl)
    (he : starEach (e :: es) X.env = (false, eval e X.env) :: starEach es X.env := by rfl) (hpl : (backTo pos (starEach es X.env)).any (·.1) = false := by rfl) : DO X (.Call (.Name x p) (e :: es) [] pos) (vCall ff fs) :=
  PE.mono (pe_callFD h F hr ha.pa e1 he hpl) fun σ H Q ⟨Φ, δ, Fz, t, hK, en, hf, k⟩ => by
    unfold vCall at hf
    obtain ⟨ds, hd, hf⟩ := bS hf
    refine ⟨Φ, δ, Fz, ds, hK, en, hd, fun vs H1 F1 st r => ?_⟩
    show spD X.K n ff (vs ++ []) H1 Q E0
    rw [List.append_nil]
    exact ⟨F1, ds, t, st.fh, (ha.len δ ds hd).trans hn, r, hf, k.step st⟩
end
end L2
namespace L2
open PySem PySem.Spec PyProof.Rows
inductive Out where
  | nx (δ : De) | rt (t : T) | bk (δ : De) | ct (δ : De) | re (t : T) (δ : De)
structure Rt (Φ : Fm) (t : T) (v : V) (F H : Hp) : Prop where
  fh : Same F H
  prot : ∀ b o, Φ.H0 b = some o → ¬ Φ.S0 b → H b = some o
  old : Same Φ.F0 F
  nw : ∀ b o, F b = some o → Φ.F0 b = some o ∨ Φ.B b
  own : ∃ S, Own Φ.K F H t v S ∧ ∀ b, S b → F b = none ∧ (∃ o, H b = some o) ∧ Φ.B b
structure Re (Φ : Fm) (t : T) (v : V) (δ : De) (σ : St) (F H : Hp) : Prop where
  en : En Φ δ σ F H
  own : ∃ S R, Sep Φ.K F H Φ.B (liveS δ σ) S ∧ Own Φ.K F H t v R ∧ ∀ b, R b → F b = none ∧ (∃ o, H b = some o) ∧ Φ.B b ∧ ∀ i, ¬ S i b
noncomputable def Post (Φ : Fm) (D : Ends) : Out → Prop
  | .nx δ => ∀ σ F H, En Φ δ σ F H → D.nx σ H
  | .rt t => ∀ v F H, Rt Φ t v F H → D.rt v H
  | .bk δ => ∀ σ F H, En Φ δ σ F H → D.bk σ H
  | .ct δ => ∀ σ F H, En Φ δ σ F H → D.ct σ H
  | .re t δ => ∀ v σ F H, Re Φ t v δ σ F H → D.rt v H
noncomputable def tS (K : PySem.W.Frag) (g : De → Option Out) : TS := fun D σ H => ∃ Φ δ F o, Fm.K Φ = K ∧ En Φ δ σ F H ∧ g δ = some o ∧ Post Φ D o
noncomputable def DS1 (X : Cx) (st : Stmt) (g : De → Option Out) : Prop := PS X st (tS X.K g)
noncomputable def DS (X : Cx) (ss : List Stmt) (g : De → Option Out) : Prop := PSs X ss (tS X.K g)
section
variable {X : Cx} {st : Stmt} {rest a b body : List Stmt} {g g1 g2 : De → Option Out} {e c tg iter : Expr} {pos : Pos} {f : De → Option T} {fd : De → Option Dt} {tc : De → Option Bool} {i : Nat}
noncomputable def sNil : De → Option Out := fun δ => some (.nx δ)
noncomputable def sSeq (g1 g2 : De → Option Out) : De → Option Out := fun δ => (g1 δ).bind fun o => match o with
  | .nx δ' => g2 δ'
  | o => some o
theorem ds_nil : DS X [] sNil := PSs.mono pss_nil fun D σ H ⟨Φ, δ, F, o, hK, en, hg, k⟩ => by
  cases hg
  exact k σ F H en
theorem ds_one (h : DS1 X st g) : DS X [st] g := pss_one h
theorem ds_cons (h1 : DS1 X st g1) (h2 : DS X rest g2) : DS X (st :: rest) (sSeq g1 g2) := PSs.mono (pss_cons h1 h2) fun D σ H ⟨Φ, δ, F, o, hK, en, hg, k⟩ => by
  unfold sSeq at hg
  obtain ⟨o1, h1, hg⟩ := bS hg
  refine ⟨Φ, δ, F, o1, hK, en, h1, ?_⟩
  cases o1 with
  | nx δ' => exact fun σ' F' H' en' => ⟨Φ, δ', F', o, hK, en', hg, k⟩
  | rt t => cases hg; exact k
  | bk δ' => cases hg; exact k
  | ct δ' => cases hg; exact k
  | re t δ' => cases hg; exact k
noncomputable def sDrop (f : De → Option T) : De → Option Out := fun δ => (f δ).map fun _ => .nx δ
theorem ds_expr (h : DO X e f) (hs : swapsWith e none pos.line X.env = pure false := by rfl) : DS1 X (.Expr e pos) (sDrop f) := PS.mono (ps_expr h hs) fun D σ H ⟨Φ, δ, F, o, hK, en, hg, k⟩ => by
  unfold sDrop at hg
  obtain ⟨t, ht, hg⟩ := mS hg
  cases hg
  exact ⟨Φ, δ, F, t, hK, en, ht, fun v H' F' S st _ _ => k σ F' H' (en.step st)⟩
noncomputable def sRet (f : De → Option T) : De → Option Out := fun δ => (f δ).map .rt
theorem En.rt {Φ : Fm} {δ : De} {σ : St} {F H F' H' : Hp} {t : T} {v : V} {S : Addr → Prop} (en : En Φ δ σ F H) (st : Step F H F' H') (o : Own Φ.K F' H' t v S) (hs : ∀ b, S b → F' b = none ∧ H b = none ∧ ∃ o, H' b = some o) : Rt Φ t v F' H' := by
  have e' := en.step st
  exact ⟨e'.fh, e'.prot, e'.old, e'.nw, S, o, fun b z => ⟨(hs b z).1, (hs b z).2.2, en.fresh (hs b z).2.1⟩⟩
theorem ds_ret (h : DO X e f) : DS1 X (.Return (some e) pos) (sRet f) := PS.mono (ps_ret h) fun D σ H ⟨Φ, δ, F, o, hK, en, hg, k⟩ => by
  unfold sRet at hg
  obtain ⟨t, ht, hg⟩ := mS hg
  cases hg
  exact ⟨Φ, δ, F, t, hK, en, ht, fun v H' F' S st o hs => k v F' H' (en.rt st (hK ▸ o) hs)⟩
noncomputable def sRetV (i : Nat) : De → Option Out := fun δ => match δ[i]? with
  | some (some t) => some (.rt t)
  | _ => none
theorem ds_retV (h : PE X e (tVar i)) : DS1 X (.Return (some e) pos) (sRetV i) := PS.mono (ps_ret h) fun D σ H ⟨Φ, δ, F, o, hK, en, hg, k⟩ => by
  unfold sRetV at hg
  split at hg
  · rename_i t q
    cases hg
    obtain ⟨v, hv⟩ := en.has i t q
    obtain ⟨S, s⟩ := en.sep
    exact ⟨v, hv, k v F H ⟨en.fh, en.prot, en.old, en.nw, S i, s.own i t v (liveS_of q hv), fun b z => s.out i b z⟩⟩
  · cases hg
noncomputable def sIf (c : De → Option Bool) (g1 g2 : De → Option Out) : De → Option Out := fun δ => (c δ).bind fun b => if b then g1 δ else g2 δ
theorem ds_if (hc : DT X c tc) (h1 : DS X a g1) (h2 : DS X b g2) : DS1 X (.If c a b pos) (sIf tc g1 g2) := PS.mono (ps_if hc h1 h2) fun D σ H ⟨Φ, δ, F, o, hK, en, hg, k⟩ => by
  unfold sIf at hg
  obtain ⟨x, hx, hg⟩ := bS hg
  refine ⟨Φ, δ, F, x, hK, en, hx, fun H' F' st => ?_⟩
  split at hg
  · rename_i q
    rw [if_pos q]
    exact ⟨Φ, δ, F', o, hK, en.step st, hg, k⟩
  · rename_i q
    rw [if_neg q]
    exact ⟨Φ, δ, F', o, hK, en.step st, hg, k⟩
noncomputable def sSet (i : Nat) (f : De → Option T) : De → Option Out := fun δ => (f δ).map fun t => .nx (δ.set i (some t))
theorem ds_set {sc : Scope} {N : List Str} {x : Str} {pos' : Pos} (h : nmOk sc N i x = true) (hl : lcOk sc x = true) (nd : N.Nodup) (he : DO X e f) (e1 : ScIs X sc := by rfl) (e2 : X.N = N := by rfl) (hf : X.fn x = true ∨ X.env.scope.names.lookup x = some .local := by exact .inl rfl)
    (hs : swapsWith e (some (.Name x pos')) pos.line X.env = pure false := by rfl) : DS1 X (.Assign [.Name x pos'] e pos) (sSet i f) := PS.mono (ps_setD h hl nd he e1 e2 hf hs) fun D σ H ⟨Φ, δ, F, o, hK, en, hg, k⟩ => by
  unfold sSet at hg
  obtain ⟨t, ht, hg⟩ := mS hg
  cases hg
  exact ⟨Φ, δ, F, t, hK, en, ht, fun v H' F' S st o hs => k _ F' H' (en.put st (hK ▸ o) hs i)⟩
noncomputable def gD (K : PySem.W.Frag) (ts : List Nat) (st : Dt → De → Option De) : TG := fun v σ H Q => ∃ Φ δ F d δ', Fm.K Φ = K ∧ En Φ δ σ F H ∧ Rep K F d v ∧ st d δ = some δ' ∧ ∀ σ', σ'.length = σ.length → (∀ j, j ∉ ts → σ'[j]? = σ[j]?) → En Φ δ' σ' F H → Q σ' H
noncomputable def gsD (K : PySem.W.Frag) (ts : List Nat) (st : List Dt → De → Option De) : TGs := fun vs σ H Q => ∃ Φ δ F ds δ', Fm.K Φ = K ∧ En Φ δ σ F H ∧ Reps K F ds vs ∧ st ds δ = some δ' ∧ ∀ σ', σ'.length = σ.length → (∀ j, j ∉ ts → σ'[j]? = σ[j]?) → En Φ δ' σ' F H → Q σ' H
noncomputable def DG (X : Cx) (tg : Expr) (ts : List Nat) (bb : Dt → De → Option De) : Prop := PG X tg (gD X.K ts bb)
noncomputable def DGs (X : Cx) (tg : List Expr) (ts : List Nat) (bb : List Dt → De → Option De) : Prop := PGs X tg (gsD X.K ts bb)
noncomputable def bName (i : Nat) : Dt → De → Option De := fun d δ => some (δ.set i (some (.leaf d)))
theorem En.name {Φ : Fm} {δ : De} {σ : St} {F H : Hp} (en : En Φ δ σ F H) {d : Dt} {v : V} (r : Rep Φ.K F d v) (i : Nat) : En Φ (δ.set i (some (.leaf d))) (σ.set i (some v)) F H :=
  en.put (Step.refl en.fh) (S' := fun _ => False) (t := .leaf d) r (fun _ z => z.elim) i
theorem dg_name (h : PG X tg (gName i)) : DG X tg [i] (bName i) := PG.mono h fun v σ H Q ⟨Φ, δ, F, d, δ', hK, en, r, hd, k⟩ => by
  cases hd
  refine k _ (by simp) (fun j hj => ?_) (en.name (hK ▸ r) i)
  rw [List.getElem?_set_ne fun z => hj (by simp [z])]
noncomputable def bNil : List Dt → De → Option De := fun ds δ => if ds.isEmpty then some δ else none
noncomputable def bCons (b : Dt → De → Option De) (bs : List Dt → De → Option De) : List Dt → De → Option De := fun ds δ => match ds with
  | d :: r => (b d δ).bind fun δ1 => bs r δ1
  | [] => none
noncomputable def bTup (n : Nat) (bs : List Dt → De → Option De) : Dt → De → Option De := fun d δ => match d with
  | .tup ds => if ds.length = n then bs ds δ else none
  | _ => none
theorem dgs_nil : DGs X [] [] bNil := fun pins s σ H vs us Q I r q => pgs_nil pins s σ H vs us Q I r (by
  obtain ⟨Φ, δ, F, ds, δ', hK, en, rs, hd, k⟩ := q
  unfold bNil at hd
  cases ds with
  | nil => cases hd; simp only [Reps] at rs; exact ⟨rs, k σ rfl (fun _ _ => rfl) en⟩
  | cons d l => cases hd)
theorem dgs_cons {es : List Expr} {ts ts' : List Nat} {bb : Dt → De → Option De} {bs : List Dt → De → Option De} (h1 : DG X e ts bb) (h2 : DGs X es ts' bs)
    (hs : (assignEach (e :: es) X.env).map (·.2) = assign e X.env :: (assignEach es X.env).map (·.2) := by rfl) : DGs X (e :: es) (ts ++ ts') (bCons bb bs) := fun pins s σ H vs us Q I r q => pgs_cons h1 h2 hs pins s σ H vs us Q I r (by
  obtain ⟨Φ, δ, F, ds, δ', hK, en, rs, hd, k⟩ := q
  unfold bCons at hd
  cases ds with
  | nil => cases hd
  | cons d l =>
    simp only [Reps] at rs
    obtain ⟨v, ws, e, r1, r2⟩ := rs
    dsimp only at hd
    obtain ⟨δ1, hb, hd⟩ := bS hd
    refine ⟨v, ws, e, Φ, δ, F, d, δ1, hK, en, r1, hb, fun σ1 l1 k1 en1 => ⟨Φ, δ1, F, l, δ', hK, en1, r2, hd, fun σ2 l2 k2 en2 => k σ2 (l2.trans l1) (fun j hj => ?_) en2⟩⟩
    rw [k2 j fun z => hj (List.mem_append_right _ z), k1 j fun z => hj (List.mem_append_left _ z)])
theorem dg_tup {es : List Expr} {k : Nat} {n : Nat} {ts : List Nat} {bs : List Dt → De → Option De} (hc : X.calm = true) (h : DGs X es ts bs)
    (hn : (assignEach es X.env).length = n := by rfl) (hst : (assignEach es X.env).findIdx? (·.1) = none := by rfl) : DG X (.Tuple es k pos) ts (bTup n bs) := PG.mono (pg_tup hc h hn hst) fun v σ H Q ⟨Φ, δ, F, d, δ', hK, en, r, hd, q⟩ => by
  unfold bTup at hd
  split at hd
  · rename_i ds
    split at hd
    · rename_i hl
      simp only [Rep] at r
      obtain ⟨a, vs, e, h1, h2⟩ := r
      exact ⟨a, vs, e, en.fh.tup h1, by rw [h2.length]; exact hl, Φ, δ, F, ds, δ', hK, en, h2, hd, q⟩
    · cases hd
  · cases hd
noncomputable def WalkD (K : PySem.W.Frag) (F' : Hp) (J : It) (ds : List Dt) (ok : Hp → Prop) : Prop := ∀ (i : Nat) (H F : Hp), ok H → Same F H → Same F' F → (i < ds.length → J.go i H) ∧ (i = ds.length → J.stop i H) ∧ ∀ x H', i < ds.length → J.yld i H x H' → ∃ d F2, ds[i]? = some d ∧ Step F H F2 H' ∧ Rep K F2 d x
theorem Plain.walk {K : PySem.W.Frag} {F' : Hp} {J : It} {xs : List V} {ds : List Dt} {ok : Hp → Prop} (pl : Plain J xs ok) (r : Reps K F' ds xs) : WalkD K F' J ds ok := fun i H F hok fh ff => by
  obtain ⟨p1, p2, p3⟩ := pl i H hok
  have hl := r.length
  refine ⟨fun h => p1 (by omega), fun h => p2 (by omega), fun x H' hi hy => ?_⟩
  obtain ⟨rfl, hx⟩ := p3 x H' (by omega) hy
  have hd : ds[i]? = some ds[i] := by simp [hi]
  obtain ⟨v, e, rv⟩ := r.get hd
  rw [hx] at e
  cases e
  exact ⟨_, F, hd, Step.refl fh, rv.same ff⟩
noncomputable def tIF (K : PySem.W.Frag) (f : De → Option (List Dt)) : TI := fun σ H R => ∃ Φ δ F ds, Fm.K Φ = K ∧ En Φ δ σ F H ∧ f δ = some ds ∧ ∀ J ok H' F', Step F H F' H' → WalkD K F' J ds ok → (∀ H2, Same F' H2 → ok H2) → R J H'
noncomputable def tIB (K : PySem.W.Frag) (f : De → Option (List Dt)) : TI := fun σ H R => ∃ Φ δ F ds, Fm.K Φ = K ∧ En Φ δ σ F H ∧ f δ = some ds ∧ ∀ J ok H' F', Step F H F' H' → WalkD K F' J ds ok → (∀ H2, Same H' H2 → ok H2) → R J H'
noncomputable def DIF (X : Cx) (tg iter : Expr) (f : De → Option (List Dt)) : Prop := PI X tg iter (tIF X.K f)
noncomputable def DIB (X : Cx) (tg iter : Expr) (f : De → Option (List Dt)) : Prop := PI X tg iter (tIB X.K f)
theorem DIF.toB {fi : De → Option (List Dt)} (h : DIF X tg iter fi) : DIB X tg iter fi := PI.mono h fun σ H R ⟨Φ, δ, F, ds, hK, en, hf, k⟩ => ⟨Φ, δ, F, ds, hK, en, hf, fun J ok H' F' st wd ho => k J ok H' F' st wd fun H2 s => ho H2 (st.fh.trans s)⟩
end
end L2
namespace L2
open PySem PySem.Spec PyProof.Rows
section
variable {X : Cx} {st : Stmt} {rest a b body : List Stmt} {g g1 g2 : De → Option Out} {e c tg iter l : Expr} {pos : Pos} {f : De → Option T} {fd : De → Option Dt} {tc : De → Option Bool} {i : Nat} {fi : De → Option (List Dt)}
noncomputable def forD (bb : Dt → De → Option De) (g : De → Option Out) : List Dt → De → Option Out
  | [], δ => some (.nx δ)
  | d :: r, δ => (bb d δ).bind fun δ1 => (g δ1).bind fun o => match o with
    | .nx δ2 => forD bb g r δ2
    | .ct δ2 => forD bb g r δ2
    | .bk δ2 => some (.nx δ2)
    | .rt t => some (.rt t)
    | .re t δ2 => some (.re t δ2)
noncomputable def sFor (fi : De → Option (List Dt)) (bb : Dt → De → Option De) (g : De → Option Out) : De → Option Out := fun δ => (fi δ).bind fun ds => forD bb g ds δ
theorem Reps.same_get {K : PySem.W.Frag} {F : Hp} {ds : List Dt} {xs : List V} (r : Reps K F ds xs) {i : Nat} {x : V} (h : xs[i]? = some x) : ∃ d, ds[i]? = some d ∧ Rep K F d x := by
  have hl := r.length
  have hi : i < xs.length := (List.getElem?_eq_some_iff.mp h).1
  have hd : ds[i]? = some ds[i] := by simp [show i < ds.length by omega]
  obtain ⟨v, e, rv⟩ := r.get hd
  rw [h] at e
  cases e
  exact ⟨_, hd, rv⟩
theorem drop_of {α : Type} {l : List α} {i : Nat} {d : α} (h : l[i]? = some d) : l.drop i = d :: l.drop (i + 1) := by
  have hi : i < l.length := (List.getElem?_eq_some_iff.mp h).1
  rw [List.drop_eq_getElem_cons hi]
  congr 1
  have := (List.getElem?_eq_some_iff.mp h).2
  exact this
noncomputable def Fm.at (Φ : Fm) (F1 : Hp) : Fm := { Φ with F0 := F1 }
theorem En.back {Φ : Fm} {δ δ' : De} {σ σ' : St} {F1 H1 F H : Hp} (en : En Φ δ σ F1 H1) (e : En (Φ.at F1) δ' σ' F H) : En Φ δ' σ' F H :=
  ⟨e.fh, e.prot, en.old.trans e.old, fun b o h => (e.nw b o h).elim (fun z => en.nw b o z) .inr, e.len, e.has, e.sep⟩
theorem Rt.back {Φ : Fm} {δ : De} {σ : St} {F1 H1 F H : Hp} {t : T} {v : V} (en : En Φ δ σ F1 H1) (e : Rt (Φ.at F1) t v F H) : Rt Φ t v F H :=
  ⟨e.fh, e.prot, en.old.trans e.old, fun b o h => (e.nw b o h).elim (fun z => en.nw b o z) .inr, e.own⟩
theorem Re.back {Φ : Fm} {δ δ' : De} {σ σ' : St} {F1 H1 F H : Hp} {t : T} {v : V} (en : En Φ δ σ F1 H1) (e : Re (Φ.at F1) t v δ' σ' F H) : Re Φ t v δ' σ' F H := ⟨en.back e.en, e.own⟩
theorem En.at {Φ : Fm} {δ : De} {σ : St} {F1 H1 : Hp} (en : En Φ δ σ F1 H1) : En (Φ.at F1) δ σ F1 H1 :=
  ⟨en.fh, en.prot, Same.refl _, fun b o h => .inl h, en.len, en.has, en.sep⟩
theorem Post.at {Φ : Fm} {D : Ends} {o : Out} {δ : De} {σ : St} {F1 H1 : Hp} (en : En Φ δ σ F1 H1) (k : Post Φ D o) : Post (Φ.at F1) D o := by
  cases o with
  | nx δ' => exact fun σ' F H e => k σ' F H (en.back e)
  | bk δ' => exact fun σ' F H e => k σ' F H (en.back e)
  | ct δ' => exact fun σ' F H e => k σ' F H (en.back e)
  | rt t => exact fun v F H e => k v F H (Rt.back en e)
  | re t δ' => exact fun v σ' F H e => k v σ' F H (Re.back en e)
theorem for_walk {n : Nat} {g : TG} {tb : TS} {D : Ends} {J : It} {σ : St} {H1 : Hp} (Pv : Nat → St → Hp → Prop) (h0 : Pv 0 σ H1) (hgo : ∀ i σ H, Pv i σ H → (i < n → J.go i H) ∧ (i = n → J.stop i H))
    (hs : ∀ i x σ H H', i < n → Pv i σ H → J.yld i H x H' → g x σ H' fun σ2 H2 => tb { D with nx := Pv (i + 1), ct := Pv (i + 1), bk := D.nx } σ2 H2) (hd : ∀ σ H, Pv n σ H → D.nx σ H) : ForW g tb D J σ H1 := by
  refine ⟨fun i m σ H => m = n - i ∧ i ≤ n ∧ Pv i σ H, ⟨n, by simp, Nat.zero_le _, h0⟩, ?_⟩
  rintro i m σ H ⟨rfl, hi, p⟩
  obtain ⟨p1, p2⟩ := hgo i σ H p
  by_cases hlt : i < n
  · exact .inr ⟨p1 hlt, Pv (i + 1), fun σ' H' p' => ⟨n - (i + 1), by omega, rfl, hlt, p'⟩, fun x H' y => hs i x σ H H' hlt p y⟩
  · have e : i = n := by omega
    subst e
    exact .inl ⟨p2 rfl, hd σ H p⟩
theorem ds_for {ts : List Nat} {bb : Dt → De → Option De} (hp : PassesOwn (model X.prog X.w) X.A X.env X.xe) (hc : X.calm = true) (hi : DIF X tg iter fi) (hg : DG X tg ts bb) (hb : DS X body g)
    (hs : ∀ x, foldedSetIterable iter X.env x = pure x := by intro _; rfl) : DS1 X (.For tg iter body [] pos) (sFor fi bb g) := PS.mono (ps_for hp hc hi hg hb hs) fun D σ H ⟨Φ, δ, F, o, hK, en, hg, k⟩ => by
  unfold sFor at hg
  obtain ⟨ds, hd, hg⟩ := bS hg
  rw [tFor_eq]
  refine ⟨Φ, δ, F, ds, hK, en, hd, fun J ok H1 F1 st1 wd ho => ?_⟩
  have en1 := en.step st1
  have k1 := Post.at en1 k
  refine for_walk (n := ds.length) (fun i σ' H' => ∃ δ' F', En (Φ.at F1) δ' σ' F' H' ∧ forD bb g (ds.drop i) δ' = some o) ⟨δ, F1, en1.at, by simpa using hg⟩ (fun i σ' H' ⟨δ', F', en', _⟩ => ?_) ?_ ?_
  · obtain ⟨p1, p2, _⟩ := wd i H' F' (ho H' (en'.old.trans en'.fh)) en'.fh en'.old
    exact ⟨p1, p2⟩
  · rintro i x σ' H' H'' hi ⟨δ', F', en', hgo⟩ hy
    obtain ⟨_, _, p3⟩ := wd i H' F' (ho H' (en'.old.trans en'.fh)) en'.fh en'.old
    obtain ⟨d, F2, hd', st2, rd⟩ := p3 x H'' hi hy
    rw [drop_of hd'] at hgo
    unfold forD at hgo
    obtain ⟨δ1, h1, hgo⟩ := bS hgo
    obtain ⟨o1, h2, hgo⟩ := bS hgo
    refine ⟨Φ.at F1, δ', F2, d, δ1, hK, en'.step st2, rd, h1, fun σ1 _ _ en1 => ⟨Φ.at F1, δ1, F2, o1, hK, en1, h2, ?_⟩⟩
    cases o1 with
    | nx δ2 => exact fun σ2 F2 H2 en2 => ⟨δ2, F2, en2, hgo⟩
    | ct δ2 => exact fun σ2 F2 H2 en2 => ⟨δ2, F2, en2, hgo⟩
    | bk δ2 => cases hgo; exact fun σ2 F2 H2 en2 => k1 σ2 F2 H2 en2
    | rt t => cases hgo; exact fun v F2 H2 q => k1 v F2 H2 q
    | re t δ2 => cases hgo; exact fun v σ2 F2 H2 q => k1 v σ2 F2 H2 q
  · rintro σ' H' ⟨δ', F', en', hgo⟩
    rw [List.drop_length] at hgo
    cases hgo
    exact k1 σ' F' H' en'
noncomputable def signD (x : Str) : List Dt := x.cps.toList.map fun c => .str ⟨#[c]⟩
noncomputable def rangeD (lo : Int) (n : Nat) : List Dt := (List.range n).map fun (i : Nat) => .int (lo + i)
theorem Reps.map {K : PySem.W.Frag} {F : Hp} {α : Type} {f : α → Dt} {g : α → V} (h : ∀ x, Rep K F (f x) (g x)) : ∀ l : List α, Reps K F (l.map f) (l.map g)
  | [] => by simp [Reps]
  | x :: l => by
    simp only [List.map_cons, Reps]
    exact ⟨_, _, rfl, h x, Reps.map h l⟩
noncomputable def itD : Dt → Option (List Dt)
  | .lst l => some l
  | .tup l => some l
  | .str x => some (signD x)
  | _ => none
noncomputable def fIt (f : De → Option Dt) : De → Option (List Dt) := fun δ => (f δ).bind itD
theorem di_seq (h : DL X l fd) : DIF X tg l (fIt fd) := PI.mono (PI.or (pi_list h) (PI.or (pi_tup h) (pi_str h))) fun σ H R ⟨Φ, δ, F, ds, hK, en, hf, k⟩ => by
  unfold fIt at hf
  obtain ⟨d, hd, hf⟩ := bS hf
  cases d with
  | lst l =>
    cases hf
    refine .inl ⟨Φ, δ, F, _, hK, en, hd, fun v H' F' st r => ?_⟩
    simp only [Rep] at r
    obtain ⟨a, vs, rfl, h1, h2⟩ := r
    exact ⟨a, rfl, ⟨vs, st.fh.seq h1⟩, k _ _ H' F' st (plain_list.walk h2) fun H2 s => s.seq h1⟩
  | tup l =>
    cases hf
    refine .inr (.inl ⟨Φ, δ, F, _, hK, en, hd, fun v H' F' st r => ?_⟩)
    simp only [Rep] at r
    obtain ⟨a, vs, rfl, h1, h2⟩ := r
    exact ⟨a, rfl, ⟨vs, st.fh.tup h1⟩, k _ _ H' F' st (plain_tup.walk h2) fun H2 s => s.tup h1⟩
  | str x =>
    cases hf
    refine .inr (.inr ⟨Φ, δ, F, _, hK, en, hd, fun v H' F' st r => ?_⟩)
    simp only [Rep] at r
    exact ⟨x, r, k _ _ H' F' st (plain_str.walk (Reps.map (fun c => rep_str) _)) fun _ _ => trivial⟩
  | _ => cases hf
theorem dib_seq (h : DB X l fd) : DIB X tg l (fIt fd) := PI.mono (PI.or (pi_list h) (PI.or (pi_tup h) (pi_str h))) fun σ H R ⟨Φ, δ, F, ds, hK, en, hf, k⟩ => by
  unfold fIt at hf
  obtain ⟨d, hd, hf⟩ := bS hf
  cases d with
  | lst l =>
    cases hf
    refine .inl ⟨Φ, δ, F, _, hK, en, hd, fun v H' F' st r => ?_⟩
    obtain ⟨a, vs, rfl, h1, h2⟩ := r
    exact ⟨a, rfl, ⟨vs, h1⟩, k _ _ H' F' st (plain_list.walk h2) fun H2 s => s.seq h1⟩
  | tup l =>
    cases hf
    refine .inr (.inl ⟨Φ, δ, F, _, hK, en, hd, fun v H' F' st r => ?_⟩)
    obtain ⟨a, vs, rfl, h1, h2⟩ := r
    exact ⟨a, rfl, ⟨vs, st.fh.tup h1⟩, k _ _ H' F' st (plain_tup.walk h2) fun H2 s => s.tup (st.fh.tup h1)⟩
  | str x =>
    cases hf
    refine .inr (.inr ⟨Φ, δ, F, _, hK, en, hd, fun v H' F' st r => ?_⟩)
    exact ⟨x, r, k _ _ H' F' st (plain_str.walk (Reps.map (fun c => rep_str) _)) fun _ _ => trivial⟩
  | _ => cases hf
noncomputable def rngOk (j : Int) : Bool := decide (-(2 ^ 62) ≤ j) && decide (j < 2 ^ 62)
noncomputable def rng1 : List Dt → Option (List Dt)
  | [.int j] => if rngOk j then some (rangeD 0 j.toNat) else none
  | _ => none
noncomputable def fRng (r : List Dt → Option (List Dt)) (f : De → Option (List Dt)) : De → Option (List Dt) := fun δ => (f δ).bind r
variable {p : Pos} {sc : Scope} {x y : Expr} {fs : De → Option (List Dt)}
theorem rngOk_iff {j : Int} (h : rngOk j = true) : -(2 ^ 62) ≤ j ∧ j < 2 ^ 62 := by
  unfold rngOk at h
  simpa using h
theorem reps_range {K : PySem.W.Frag} {F : Hp} (lo : Int) (n : Nat) : Reps K F (rangeD lo n) (rangeV lo n) := Reps.map (fun _ => rep_int) _
theorem di_range1 (h : glOk sc "range" = true) (hm : X.mg "range" = none) (ha : DA X [x] fs) (e1 : ScIs X sc := by rfl) (hs : starEach [x] X.env = [(false, eval x X.env)] := by rfl) : DIF X tg (.Call (.Name "range" p) [x] [] pos) (fRng rng1 fs) :=
  PI.mono (pi_range1D h hm ha.pa e1 hs) fun σ H R ⟨Φ, δ, F, ds, hK, en, hf, k⟩ => by
    unfold fRng at hf
    obtain ⟨as, hd, hf⟩ := bS hf
    refine ⟨Φ, δ, F, as, hK, en, hd, fun vs H' F' st r => ?_⟩
    unfold rng1 at hf
    split at hf
    · rename_i j
      split at hf
      · rename_i hj
        cases hf
        simp only [Reps, Rep] at r
        obtain ⟨v, ws, rfl, rfl, rfl⟩ := r
        exact ⟨j, rfl, (rngOk_iff hj).1, (rngOk_iff hj).2, k _ _ H' F' st (plain_range.walk (reps_range _ _)) fun _ _ => trivial⟩
      · cases hf
    · cases hf
end
end L2
namespace L2
open PySem PySem.Spec PyProof.Rows
noncomputable def dC (src : List (Option Nat)) (δ : De) : De := src.map fun o => o.bind fun j => (δ[j]?).join
noncomputable def compL (bb : Dt → De → Option De) (ft : De → Option Bool) (fe : De → Option Dt) (δ : De) : List Dt → Option (List Dt)
  | [] => some []
  | d :: r => (bb d δ).bind fun δ1 => (ft δ1).bind fun b => if b then (fe δ1).bind fun y => (compL bb ft fe δ r).bind fun ys => some (y :: ys) else compL bb ft fe δ r
noncomputable def vComp (src : List (Option Nat)) (fi : De → Option (List Dt)) (bb : Dt → De → Option De) (ft : De → Option Bool) (fe : De → Option Dt) : De → Option T := fun δ =>
  (fi δ).bind fun ds => (compL bb ft fe (dC src δ) ds).bind fun ys => if ys.length ≤ sizeLine then some (.lst ys) else none
noncomputable def tYesD : De → Option Bool := fun _ => some true
noncomputable def DTs (X : Cx) (ifs : List Expr) (f : De → Option Bool) : Prop := PTs X ifs (tTr X.K f)
theorem dts_nil {X : Cx} : DTs X [] tYesD := fun pins s σ H Q I h => pts_nil pins s σ H Q I (by
  obtain ⟨Φ, δ, F, b, hK, en, hf, k⟩ := h
  cases hf
  exact k H F (Step.refl en.fh))
theorem dts_one {X : Cx} {c : Expr} {f : De → Option Bool} (h : DT X c f) : DTs X [c] f := pts_one h
section
variable {X : Cx} {elt tg iter : Expr} {ifs : List Expr} {scope : Scope} {pos : Pos} {M : List Str} {src : List (Option Nat)} {fi : De → Option (List Dt)} {ft : De → Option Bool} {fe : De → Option Dt}
theorem src_inj (S : CmpScope X.N X.env.scope scope M src) {k l j : Nat} (hk : src[k]? = some (some j)) (hl : src[l]? = some (some j)) : k = l := by
  have nm : ∀ k, src[k]? = some (some j) → ∃ x, M[k]? = some x ∧ X.N[j]? = some x := fun k h => by
    have hlt : k < M.length := by rw [S.len]; exact (List.getElem?_eq_some_iff.mp h).1
    have hm : M[k]? = some M[k] := by simp [hlt]
    have hz : (M.zip src)[k]? = some (M[k], some j) := by rw [List.getElem?_zip_eq_some]; exact ⟨hm, h⟩
    exact ⟨_, hm, (S.src _ (List.mem_of_getElem? hz) j rfl).1⟩
  obtain ⟨x, h1, h2⟩ := nm k hk
  obtain ⟨y, h3, h4⟩ := nm l hl
  rw [h2] at h4
  cases h4
  exact (List.getElem?_inj (List.getElem?_eq_some_iff.mp h1).1 S.nd).mp (h1.trans h3.symm)
theorem dC_get {δ : De} {k : Nat} {t : T} (h : (dC src δ)[k]? = some (some t)) : ∃ j, src[k]? = some (some j) ∧ δ[j]? = some (some t) := by
  unfold dC at h
  rw [List.getElem?_map] at h
  cases e : src[k]? with
  | none => rw [e] at h; cases h
  | some o =>
    rw [e] at h
    cases o with
    | none => cases h
    | some j =>
      simp only [Option.map_some, Option.bind_some, Option.some.injEq] at h
      refine ⟨j, rfl, ?_⟩
      cases q : δ[j]? with
      | none => rw [q] at h; cases h
      | some u => rw [q] at h; simp only [Option.join_some] at h; rw [h]
theorem stC_get {σ : St} {k j : Nat} {v : V} (h1 : src[k]? = some (some j)) (h2 : σ[j]? = some (some v)) : (stC src σ)[k]? = some (some v) := by
  unfold stC
  rw [List.getElem?_map, h1]
  simp [h2]
theorem of_stC {σ : St} {k : Nat} {v : V} (h : (stC src σ)[k]? = some (some v)) : ∃ j, src[k]? = some (some j) ∧ σ[j]? = some (some v) := by
  unfold stC at h
  rw [List.getElem?_map] at h
  cases e : src[k]? with
  | none => rw [e] at h; cases h
  | some o =>
    rw [e] at h
    cases o with
    | none => cases h
    | some j =>
      simp only [Option.map_some, Option.bind_some, Option.some.injEq] at h
      refine ⟨j, rfl, ?_⟩
      cases q : σ[j]? with
      | none => rw [q] at h; cases h
      | some u => rw [q] at h; simp only [Option.join_some] at h; rw [h]
theorem En.comp {Φ : Fm} {δ : De} {σ : St} {F H : Hp} (S : CmpScope X.N X.env.scope scope M src) (en : En Φ δ σ F H) : En Φ (dC src δ) (stC src σ) F H := by
  refine ⟨en.fh, en.prot, en.old, en.nw, by simp [dC, stC], fun k t h => ?_, ?_⟩
  · obtain ⟨j, h1, h2⟩ := dC_get h
    obtain ⟨v, hv⟩ := en.has j t h2
    exact ⟨v, stC_get h1 hv⟩
  · obtain ⟨Z, s⟩ := en.sep
    refine ⟨fun k b => ∃ j, src[k]? = some (some j) ∧ Z j b, fun k t v h => ?_, fun k b ⟨j, _, z⟩ => s.out j b z, fun k l b ⟨j, h1, z⟩ ⟨j', h2, z'⟩ => ?_⟩
    · obtain ⟨h1, h2⟩ := of_liveS h
      obtain ⟨j, e1, e2⟩ := dC_get h1
      obtain ⟨j', e3, e4⟩ := of_stC h2
      rw [e1] at e3
      cases e3
      exact (s.own j t v (liveS_of e2 e4)).grow fun b z => ⟨j, e1, z⟩
    · have := s.dis _ _ b z z'
      subst this
      exact src_inj S h1 h2
theorem comp_walk {n : Nat} {g : TG} {tt : TT} {te : TE} {σ : St} {J : It} {H1 : Hp} {Q : VK} {D : Addr} (Pv : Nat → Hp → Prop) (h0 : Pv 0 (upd H1 D (.lst []))) (hgo : ∀ i H, Pv i H → (i < n → J.go i H) ∧ (i = n → J.stop i H))
    (hs : ∀ i x H H', i < n → Pv i H → J.yld i H x H' → g x (stC src σ) H' fun σ2 H2 => Wk (stC src σ) σ2 ∧ tt σ2 H2 fun b H3 => if b = true then te σ2 H3 fun v H4 => ∃ ys, H4 D = some (.lst ys) ∧ ys.length < sizeLine ∧ Pv (i + 1) (upd H4 D (.lst (ys ++ [v]))) else Pv (i + 1) H3)
    (hd : ∀ H, Pv n H → Q (.ref D) H) : CompW src g tt te σ J H1 Q D := by
  refine ⟨fun i m H => m = n - i ∧ i ≤ n ∧ Pv i H, ⟨n, by simp, Nat.zero_le _, h0⟩, ?_⟩
  rintro i m H ⟨rfl, hi, p⟩
  obtain ⟨p1, p2⟩ := hgo i H p
  by_cases hlt : i < n
  · exact .inr ⟨p1 hlt, Pv (i + 1), fun H' p' => ⟨n - (i + 1), by omega, rfl, hlt, p'⟩, fun x H' y => hs i x H H' hlt p y⟩
  · have e : i = n := by omega
    subst e
    exact .inl ⟨p2 rfl, hd H p⟩
theorem comp_of {ts : List Nat} {bb : Dt → De → Option De} (S : CmpScope X.N X.env.scope scope M src) (hts : (ts.all fun k => decide (src[k]? = some none)) = true) : ∀ (σ : St) (H : Hp) (Q : VK), tO X.K (vComp src fi bb ft fe) σ H Q → tComp src (tIB X.K fi) (gD X.K ts bb) (tTr X.K ft) (tL X.K fe) σ H Q := fun σ H Q ⟨Φ, δ, F, t, hK, en, hf, k⟩ => by
  unfold vComp at hf
  obtain ⟨ds, hd, hf⟩ := bS hf
  obtain ⟨all, ha, hf⟩ := bS hf
  split at hf
  case isFalse => cases hf
  rename_i hz
  cases hf
  rw [tComp_eq]
  refine ⟨Φ, δ, F, ds, hK, en, hd, fun J ok H1 F1 st1 wd ho D hD => ?_⟩
  have en1 := en.step st1
  have k1 := k.step st1
  have wk : ∀ {σ2 : St}, σ2.length = (stC src σ).length → (∀ j, j ∉ ts → σ2[j]? = (stC src σ)[j]?) → Wk (stC src σ) σ2 := fun {σ2} h1 h2 => by
    refine ⟨h1.symm, fun j v hj => ?_⟩
    by_cases hm : j ∈ ts
    · have := List.all_eq_true.mp hts j hm
      have hn : src[j]? = some none := of_decide_eq_true this
      obtain ⟨i, e, _⟩ := of_stC hj
      rw [hn] at e
      cases e
    · rw [h2 j hm]
      exact hj
  have ok' : ∀ {F H : Hp}, Step F1 H1 F H → ok H := fun st => ho _ st.hh
  refine comp_walk (n := ds.length) (fun i H => ∃ F ys done rest', Step F1 H1 F H ∧ H D = some (.lst ys) ∧ F D = none ∧ Reps X.K F done ys ∧ compL bb ft fe (dC src δ) (ds.drop i) = some rest' ∧ done ++ rest' = all) ?_ ?_ ?_ ?_
  · exact ⟨F1, [], [], all, Step.made st1.fh hD, upd_same, st1.fh.free hD, by simp [Reps], by simpa using ha, rfl⟩
  · rintro i H' ⟨F', ys, done, rest', st, _⟩
    obtain ⟨p1, p2, _⟩ := wd i H' F' (ok' st) st.fh st.ff
    exact ⟨p1, p2⟩
  · rintro i x H0' H' hi ⟨F0', ys, done, rest', st0, hD0, hFD0, rys0, hgo, hall⟩ hy0
    obtain ⟨_, _, p3⟩ := wd i H0' F0' (ok' st0) st0.fh st0.ff
    obtain ⟨d, F', hd', stw, rd⟩ := p3 x H' hi hy0
    have st := st0.trans stw
    have hD' : H' D = some (.lst ys) := stw.hh _ _ hD0
    have hFD : F' D = none := by
      cases q : F' D with
      | none => rfl
      | some o =>
        rcases stw.nw D o q with z | z
        · rw [hFD0] at z; cases z
        · rw [hD0] at z; cases z
    have rys := rys0.same stw.ff
    rw [drop_of hd'] at hgo
    unfold compL at hgo
    obtain ⟨δ1, h1, hgo⟩ := bS hgo
    obtain ⟨b, h2, hgo⟩ := bS hgo
    refine ⟨Φ, dC src δ, F', d, δ1, hK, (en1.step st).comp S, rd, h1, fun σ2 l2 k2 en2 => ⟨wk l2 k2, Φ, δ1, F', b, hK, en2, h2, fun H3 F3 st3 => ?_⟩⟩
    have hD3 : H3 D = some (.lst ys) := st3.hh _ _ hD'
    have hF3 : F3 D = none := by
      cases q : F3 D with
      | none => rfl
      | some o =>
        rcases st3.nw D o q with z | z
        · rw [hFD] at z; cases z
        · rw [hD'] at z; cases z
    dsimp only
    split at hgo
    · rename_i q
      rw [if_pos q]
      obtain ⟨y, hy, hgo⟩ := bS hgo
      obtain ⟨zs, hzs, hgo⟩ := bS hgo
      cases hgo
      refine ⟨Φ, δ1, F3, y, hK, en2.step st3, hy, fun v H4 F4 st4 rv => ?_⟩
      have hD4 : H4 D = some (.lst ys) := st4.hh _ _ hD3
      have hF4 : F4 D = none := by
        cases q : F4 D with
        | none => rfl
        | some o =>
          rcases st4.nw D o q with z | z
          · rw [hF3] at z; cases z
          · rw [hD3] at z; cases z
      have s14 := (st.trans st3).trans st4
      refine ⟨ys, hD4, ?_, F4, ys ++ [v], done ++ [y], zs, ?_, upd_same, hF4, (rys.same (st3.ff.trans st4.ff)).append (Reps.one rv), hzs, by rw [← hall]; simp⟩
      · have e1 := rys.length
        have e2 : all.length = done.length + (zs.length + 1) := by rw [← hall]; simp
        omega
      · refine ⟨fun c o e => ?_, s14.ff, fun c o e => ?_, s14.nw⟩
        · rw [upd_ne (ne_of_none e hD)]
          exact s14.hh _ _ e
        · rw [upd_ne (ne_of_none e hF4)]
          exact s14.fh _ _ e
    · rename_i q
      rw [if_neg q]
      exact ⟨F3, ys, done, rest', st.trans st3, hD3, hF3, rys.same st3.ff, hgo, hall⟩
  · rintro H' ⟨F', ys, done, rest', st, hD', hFD, rys, hgo, hall⟩
    rw [List.drop_length] at hgo
    cases hgo
    rw [List.append_nil] at hall
    subst hall
    exact k1 (.ref D) H' F' (fun b => b = D) st ⟨D, ys, rfl, rfl, hD', rys⟩ fun b z => by
      subst z
      exact ⟨hFD, hD, _, hD'⟩
theorem do_comp {ts : List Nat} {bb : Dt → De → Option De} (S : CmpScope X.N X.env.scope scope M src) (hc : X.calm = true) (hi : DIB X tg iter fi) (hg : M.Nodup → ∀ C s H ex, DG (cxC X M scope C s H ex) tg ts bb)
    (ht : ∀ C s H ex, DTs (cxC X M scope C s H ex) ifs ft) (he : ∀ C s H ex, DL (cxC X M scope C s H ex) elt fe) (hts : (ts.all fun k => decide (src[k]? = some none)) = true) (hs : ∀ x, foldedSetIterable iter X.env x = pure x := by intro _; rfl) :
    DO X (.ListComp elt [⟨tg, iter, ifs, 0⟩] scope pos) (vComp src fi bb ft fe) := PE.mono (pe_lcomp (g := gD X.K ts bb) (tt := tTr X.K ft) (te := tL X.K fe) S hc hi (fun nd C s H ex => hg nd C s H ex) (fun C s H ex => ht C s H ex) (fun C s H ex => he C s H ex) hs) (comp_of S hts)
end
noncomputable def runD (m : Nat) (g : De → Option Out) : List Dt → Option T := fun ds => match g (ds.map (fun d => some (T.leaf d)) ++ List.replicate (m - ds.length) none) with
  | some (.rt t) => some t
  | some (.nx _) => some (.leaf .non)
  | _ => none
theorem start_en {K : PySem.W.Frag} {F H : Hp} {ds : List Dt} {vs : List V} {N : List Str} (fh : Same F H) (r : Reps K F ds vs) :
    En ⟨K, F, H, fun _ => False⟩ (ds.map (fun d => some (T.leaf d)) ++ List.replicate (N.length - ds.length) none) (start N vs) F H := by
  have hl := r.length
  have key : ∀ (i : Nat) (t : T), (ds.map (fun d => some (T.leaf d)) ++ List.replicate (N.length - ds.length) none)[i]? = some (some t) → ∃ d v, t = T.leaf d ∧ vs[i]? = some v ∧ Rep K F d v ∧ (start N vs)[i]? = some (some v) := fun i t h => by
    by_cases hi : i < ds.length
    · rw [List.getElem?_append_left (by simpa using hi), List.getElem?_map] at h
      have hd : ds[i]? = some ds[i] := by simp [hi]
      rw [hd] at h
      cases h
      obtain ⟨v, hv, rv⟩ := r.get hd
      refine ⟨_, v, rfl, hv, rv, ?_⟩
      unfold start
      rw [List.getElem?_append_left (by simp; omega), List.getElem?_map, hv]
      rfl
    · rw [List.getElem?_append_right (by simpa using hi)] at h
      rw [List.getElem?_replicate] at h
      split at h <;> cases h
  refine ⟨fh, fun b o h _ => h, Same.refl _, fun b o h => .inl h, by simp [start, hl], fun i t h => ?_, fun _ _ => False, fun i t v h => ?_, fun _ _ z => z.elim, fun _ _ _ z => z.elim⟩
  · obtain ⟨d, v, _, _, _, e⟩ := key i t h
    exact ⟨v, e⟩
  · obtain ⟨h1, h2⟩ := of_liveS h
    obtain ⟨d, w, rfl, _, rv, e⟩ := key i t h1
    rw [h2] at e
    cases e
    exact rv
section
variable {P : Program} {w : World} {K : PySem.W.Frag} {mg : Str → Option Value} {base : Heap}
theorem Rt.step {F H : Hp} {t : T} {v : V} {F' H' : Hp} (h : Rt ⟨K, F, H, fun _ => False⟩ t v F' H') {Q : VK} (k : KO K F H t Q) : Q v H' := by
  obtain ⟨fh, prot, old, nw, S, o, hs⟩ := h
  refine k v H' F' S ⟨fun b u e => prot b u e id, old, fh, fun b u e => (nw b u e).elim .inl fun z => z.elim .inr False.elim⟩ o fun b z => ?_
  obtain ⟨h1, h2, h3⟩ := hs b z
  exact ⟨h1, h3.elim id False.elim, h2⟩
theorem mk_ok {x : Str} {st : Stmt} {N ps : List Str} {k n : Nat} {g : De → Option Out} (D : DefF K mg x st ps) (S : FnScope N ps (defScope st)) (hn : ps.length = n)
    (hbody : ∀ (f : Addr) (cdv : Value) (A : Around) (outer : List Env) (s : Shared) (H : Hp) (E : XK), Room k (A.deeper (envOfC x (defScope st) s.heap.objs.size f cdv)) → DS (cxOf CX0 P w K mg base N x (defScope st) f cdv A outer s H E).nox (defBody st) g) :
    OkF P w K mg base x (k + 1) ps (spD K n (runD N.length g)) := by
  refine D.ok S (fun vs H Q E h => ?_) (fun f cdv A outer s H vs Q E hr h => ?_)
  · obtain ⟨F, ds, t, _, hl, r, _⟩ := h
    rw [r.length, hl, hn]
  · obtain ⟨F, ds, t, fh, hl, r, hf, kq⟩ := h
    refine ⟨_, hbody f cdv A outer s H E hr, ?_⟩
    unfold runD at hf
    split at hf
    · rename_i t' q
      cases hf
      exact ⟨⟨K, F, H, fun _ => False⟩, _, F, _, rfl, start_en fh r, q, fun v F' H' z => z.step kq⟩
    · rename_i δ' q
      cases hf
      exact ⟨⟨K, F, H, fun _ => False⟩, _, F, _, rfl, start_en fh r, q, fun σ' F' H' z => (z.rt (Step.refl z.fh) (t := .leaf .non) (S := fun _ => False) (rep_non (K := K) (F := F')) fun _ y => y.elim).step kq⟩
    · cases hf
theorem fn_ok {x : Str} {st : Stmt} {N ps : List Str} {k n : Nat} {g : De → Option Out} {f : Addr} {fd : FuncData} (D : Fun K x x st f fd) (S : FnScope N ps (defScope st)) (hn : ps.length = n)
    (hbody : ∀ (cdv : Value) (A : Around) (outer : List Env) (s : Shared) (H : Hp) (E : XK), Room k (A.deeper (envOfC x (defScope st) s.heap.objs.size f cdv)) → DS (cxOf CX0 P w K mg base N x (defScope st) f cdv A outer s H E).nox (defBody st) g) :
    FnOk P w K mg base CX0 (k + 1) f fd ps (spD K n (runD N.length g)) := by
  refine D.ok S (fun vs H Q E h => ?_) (fun cdv A outer s H vs Q E hr h => ?_)
  · obtain ⟨F, ds, t, _, hl, r, _⟩ := h
    rw [r.length, hl, hn]
  · obtain ⟨F, ds, t, fh, hl, r, hf, kq⟩ := h
    refine ⟨_, hbody cdv A outer s H E hr, ?_⟩
    unfold runD at hf
    split at hf
    · rename_i t' q
      cases hf
      exact ⟨⟨K, F, H, fun _ => False⟩, _, F, _, rfl, start_en fh r, q, fun v F' H' z => z.step kq⟩
    · rename_i δ' q
      cases hf
      exact ⟨⟨K, F, H, fun _ => False⟩, _, F, _, rfl, start_en fh r, q, fun σ' F' H' z => (z.rt (Step.refl z.fh) (t := .leaf .non) (S := fun _ => False) (rep_non (K := K) (F := F')) fun _ y => y.elim).step kq⟩
    · cases hf
end
end L2
namespace L2
open PySem PySem.Spec PyProof.Rows
section
variable {K : PySem.W.Frag} {F H : Hp} {Q : VK}
theorem KO.int {i : Int} (k : KO K F H (.leaf (.int i)) Q) (fh : Same F H) : Q (.int i) H := k.leaf.here fh rep_int
theorem KO.bl {i : Bool} (k : KO K F H (.leaf (.bl i)) Q) (fh : Same F H) : Q (.bl i) H := k.leaf.here fh rep_bl
theorem KO.str {i : Str} (k : KO K F H (.leaf (.str i)) Q) (fh : Same F H) : Q (.str i) H := k.leaf.here fh rep_str
theorem KO.tup {l : List Dt} {vs : List V} {p : Addr} (k : KO K F H (.leaf (.tup l)) Q) (fh : Same F H) (r : Reps K F l vs) (hp : H p = none) : Q (.ref p) (upd H p (.tup vs)) := by
  refine k.leaf _ _ _ (Step.new fh hp) ?_
  simp only [Rep]
  exact ⟨p, vs, rfl, SqT.of upd_same, r.same (Same.upd (fh.free hp))⟩
end
noncomputable def mulOk (i j : Int) : Bool := (decide (-(2 ^ 64) < i) && decide (i < 2 ^ 64)) || (decide (-(2 ^ 64) < j) && decide (j < 2 ^ 64))
theorem mulOk_c {i j : Int} (h : mulOk i j = true) : CMul i j := by
  unfold mulOk at h
  simp only [Bool.or_eq_true, Bool.and_eq_true, decide_eq_true_eq] at h
  exact h
theorem mulOk_l {i j : Int} (h1 : -1000000000000000000 < i) (h2 : i < 1000000000000000000) : mulOk i j = true := by
  unfold mulOk
  simp only [Bool.or_eq_true, Bool.and_eq_true, decide_eq_true_eq]
  left
  omega
theorem mulOk_r {i j : Int} (h1 : -1000000000000000000 < j) (h2 : j < 1000000000000000000) : mulOk i j = true := by
  unfold mulOk
  simp only [Bool.or_eq_true, Bool.and_eq_true, decide_eq_true_eq]
  right
  omega
noncomputable def powOk (i j : Int) : Bool := decide (0 ≤ j) && decide (j ≤ 1000000) && decide (i.natAbs < 2 ^ 64)
theorem powOk_c {i j : Int} (h : powOk i j = true) : CPow i j := by
  unfold powOk at h
  simp only [Bool.and_eq_true, decide_eq_true_eq] at h
  exact ⟨h.1.1, h.1.2, h.2⟩
noncomputable def gAdd : Dt → Dt → Option T
  | .int i, .int j => some (.leaf (.int (i + j)))
  | .str a, .str b => if a.length + b.length ≤ sizeLine then some (.leaf (.str (a ++ b))) else none
  | .lst l, .lst m => if l.length + m.length ≤ sizeLine then some (.lst (l ++ m)) else none
  | .tup l, .tup m => if l.length + m.length ≤ sizeLine ∧ l ≠ [] ∧ m ≠ [] then some (.leaf (.tup (l ++ m))) else none
  | _, _ => none
noncomputable def gSubD : Dt → Dt → Option T
  | .int i, .int j => some (.leaf (.int (i - j)))
  | _, _ => none
noncomputable def gMul : Dt → Dt → Option T
  | .int i, .int j => if mulOk i j then some (.leaf (.int (i * j))) else none
  | _, _ => none
noncomputable def gMod : Dt → Dt → Option T
  | .int i, .int j => if 0 < j then some (.leaf (.int (i % j))) else none
  | _, _ => none
noncomputable def gPow : Dt → Dt → Option T
  | .int i, .int j => if powOk i j then some (.leaf (.int (i ^ j.toNat))) else none
  | _, _ => none
noncomputable def gCmp (f : Int → Int → Bool) : Dt → Dt → Option T
  | .int i, .int j => some (.leaf (.bl (f i j)))
  | _, _ => none
section
variable {X : Cx}
theorem op_catR : OpR X (binaryOp .Add) (fun x y H Q => ∃ l b xs zs, x = .ref l ∧ y = .ref b ∧ SqL X.K H l xs ∧ SqL X.K H b zs ∧ xs.length + zs.length ≤ sizeLine ∧ ∀ p, H p = none → Q (.ref p) (upd H p (.lst (xs ++ zs)))) := by
  intro pins s σ H x y v u Q I rx ry h
  obtain ⟨l, b, xs, zs, rfl, rfl, hH, hB, hz, q⟩ := h
  cases rx
  cases ry
  obtain ⟨its, r, pl, _⟩ := I.list hH
  obtain ⟨its2, r2, pl2, _⟩ := I.list hB
  obtain ⟨⟨cls, dd, data, sl⟩, n, ho, hc, hd0, hd⟩ := pl
  obtain ⟨⟨cls2, dd2, data2, sl2⟩, n2, ho2, hc2, hd02, hd2⟩ := pl2
  simp only at hc hd hc2 hd2
  subst hc hd hc2 hd2
  have e : its.toArray ++ its2.toArray = (its ++ its2).toArray := by simp
  refine concat_meets ⟨_, ho, rfl⟩ ⟨_, ho2, rfl⟩ noFill_list_add seq_list_add PySem.F.slot_list_add PySem.F.entry_list_add (PySem.F.args_list_add_2 _ _) (list_addW l b its.toArray its2.toArray n n2 dd dd2 sl sl2 (by rw [List.size_toArray, List.size_toArray, ← r.length, ← r2.length]; exact hz)) ⟨ho, ho2, ?_⟩
  rw [e]
  exact ⟨.ref _, _, I.lnew (t' := s.toks) (r.append r2) (by rw [List.length_append]; exact hz), rfl, q _ I.fresh⟩
noncomputable abbrev rAddD (K : PySem.W.Frag) : R2 := fun x y H Q => (rI0 (fun i j => .int (i + j)) x y H Q) ∨ (∃ i j, x = .str i ∧ y = .str j ∧ i.length + j.length ≤ sizeLine ∧ Q (.str (i ++ j)) H) ∨
  (∃ l b xs zs, x = .ref l ∧ y = .ref b ∧ SqL K H l xs ∧ SqL K H b zs ∧ xs.length + zs.length ≤ sizeLine ∧ ∀ p, H p = none → Q (.ref p) (upd H p (.lst (xs ++ zs)))) ∨ rCatT K x y H Q
theorem op_addD : OpR X (binaryOp .Add) (rAddD X.K) := OpR.or op_add (OpR.or op_add_str (OpR.or op_catR op_catT))
theorem r_add {K : PySem.W.Frag} : R2D K (rAddD K) gAdd := by
  intro F H x y vx vy Q t fh rx ry hg k
  unfold gAdd at hg
  split at hg <;> first | (cases hg; done) | skip
  · cases hg; cases rx; cases ry; exact .inl ⟨_, _, rfl, rfl, k.int fh⟩
  · split at hg
    · cases hg; cases rx; cases ry; exact .inr (.inl ⟨_, _, rfl, rfl, by assumption, k.str fh⟩)
    · cases hg
  · split at hg
    · rename_i hl
      cases hg
      obtain ⟨a, vs, rfl, h1, h2⟩ := rx
      obtain ⟨b, ws, rfl, h3, h4⟩ := ry
      exact .inr (.inr (.inl ⟨a, b, vs, ws, rfl, rfl, h1, h3, by rw [h2.length, h4.length]; exact hl, fun p hp => own_lst k fh (h2.append h4) hp⟩))
    · cases hg
  · split at hg
    · rename_i hl
      cases hg
      obtain ⟨a, vs, rfl, h1, h2⟩ := rx
      obtain ⟨b, ws, rfl, h3, h4⟩ := ry
      obtain ⟨hl, n1, n2⟩ := hl
      refine .inr (.inr (.inr ⟨a, b, vs, ws, rfl, rfl, fh.tup h1, fh.tup h3, fun z => ?_, by rw [h2.length, h4.length]; exact hl, fun z => ?_, fun _ p hp => k.tup fh (h2.append h4) hp⟩))
      · subst z
        have := h2.length
        exact n1 (List.eq_nil_of_length_eq_zero this.symm)
      · subst z
        have := h4.length
        exact absurd (List.eq_nil_of_length_eq_zero this.symm) n2
    · cases hg
theorem r_sub {K : PySem.W.Frag} : R2D K (rI0 fun i j => .int (i - j)) gSubD := by
  intro F H x y vx vy Q t fh rx ry hg k
  unfold gSubD at hg
  split at hg <;> first | (cases hg; done) | skip
  cases hg; cases rx; cases ry; exact ⟨_, _, rfl, rfl, k.int fh⟩
theorem r_mul {K : PySem.W.Frag} : R2D K (rI CMul fun i j => .int (i * j)) gMul := by
  intro F H x y vx vy Q t fh rx ry hg k
  unfold gMul at hg
  split at hg <;> first | (cases hg; done) | skip
  split at hg
  · cases hg; cases rx; cases ry; exact ⟨_, _, rfl, rfl, mulOk_c (by assumption), k.int fh⟩
  · cases hg
theorem r_mod {K : PySem.W.Frag} : R2D K (rI (fun _ j => 0 < j) fun i j => .int (i % j)) gMod := by
  intro F H x y vx vy Q t fh rx ry hg k
  unfold gMod at hg
  split at hg <;> first | (cases hg; done) | skip
  split at hg
  · cases hg; cases rx; cases ry; exact ⟨_, _, rfl, rfl, by assumption, k.int fh⟩
  · cases hg
theorem r_pow {K : PySem.W.Frag} : R2D K (rI CPow fun i j => .int (i ^ j.toNat)) gPow := by
  intro F H x y vx vy Q t fh rx ry hg k
  unfold gPow at hg
  split at hg <;> first | (cases hg; done) | skip
  split at hg
  · cases hg; cases rx; cases ry; exact ⟨_, _, rfl, rfl, powOk_c (by assumption), k.int fh⟩
  · cases hg
theorem r_cmp {K : PySem.W.Frag} {f : Int → Int → Bool} : R2D K (rI0 fun i j => .bl (f i j)) (gCmp f) := by
  intro F H x y vx vy Q t fh rx ry hg k
  unfold gCmp at hg
  split at hg <;> first | (cases hg; done) | skip
  cases hg; cases rx; cases ry; exact ⟨_, _, rfl, rfl, k.bl fh⟩
noncomputable def eqD : Dt → Dt → Option Bool
  | .non, .non => some true
  | .non, .int _ => some false
  | .non, .bl _ => some false
  | .non, .str _ => some false
  | .int _, .non => some false
  | .bl _, .non => some false
  | .str _, .non => some false
  | .int i, .int j => some (decide (i = j))
  | .bl i, .bl j => some (decide (i = j))
  | .str i, .str j => some (decide (i = j))
  | .int _, .str _ => some false
  | .str _, .int _ => some false
  | .bl _, .str _ => some false
  | .str _, .bl _ => some false
  | .tup l, .tup m => if cmpbs l m && decide (deeps l ≤ 59) then some (peqs l m) else none
  | .lst l, .lst m => if cmpbs l m && decide (deeps l ≤ 59) then some (peqs l m) else none
  | _, _ => none
noncomputable def gEq (neg : Bool) (x y : Dt) : Option T := (eqD x y).map fun b => .leaf (.bl (if neg then !b else b))
noncomputable abbrev rEqA (K : PySem.W.Frag) : R2 := fun x y H Q => rEq x y H Q ∨ rEqD K false x y H Q
noncomputable abbrev rNeA (K : PySem.W.Frag) : R2 := fun x y H Q => rNe x y H Q ∨ rEqD K true x y H Q
theorem op_eqA {k : Nat} (hr : Room k X.A) : OpR X (compareOp .Eq) (rEqA X.K) := OpR.or op_eq (op_eqD hr rfl)
theorem op_neA {k : Nat} (hr : Room k X.A) : OpR X (compareOp .NotEq) (rNeA X.K) := OpR.or op_ne (op_neD hr rfl)
theorem eqD_of {K : PySem.W.Frag} {F H : Hp} {x y : Dt} {vx vy : V} {b : Bool} (fh : Same F H) (rx : RepB K F H x vx) (ry : RepB K F H y vy) (h : eqD x y = some b) :
    (scal vx vy = true ∧ b = decide (vx = vy)) ∨ (((∃ l m, x = .tup l ∧ y = .tup m) ∨ ∃ l m, x = .lst l ∧ y = .lst m) ∧ cmpb x y = true ∧ deep x ≤ 60 ∧ b = peq x y) := by
  unfold eqD at h
  split at h <;> first
    | (cases h; done)
    | (cases h; cases rx; cases ry; left; refine ⟨rfl, ?_⟩; simp; done)
    | skip
  · right
    split at h
    · rename_i q
      simp only [Bool.and_eq_true, decide_eq_true_eq] at q
      cases h
      exact ⟨.inl ⟨_, _, rfl, rfl⟩, by simp only [cmpb]; exact q.1, by simp only [deep]; omega, by simp only [peq]⟩
    · cases h
  · right
    split at h
    · rename_i q
      simp only [Bool.and_eq_true, decide_eq_true_eq] at q
      cases h
      exact ⟨.inr ⟨_, _, rfl, rfl⟩, by simp only [cmpb]; exact q.1, by simp only [deep]; omega, by simp only [peq]⟩
    · cases h
theorem r_eq {K : PySem.W.Frag} : R2D K (rEqA K) (gEq false) := by
  intro F H x y vx vy Q t fh rx ry hg k
  unfold gEq at hg
  obtain ⟨b, hb, hg⟩ := mS hg
  cases hg
  have kk : Q (.bl b) H := k.bl fh
  rcases eqD_of fh rx ry hb with ⟨h1, rfl⟩ | ⟨h1, h2, h3, rfl⟩
  · exact .inl ⟨h1, kk⟩
  · exact .inr ⟨x, y, h1, rx.rep fh, ry.rep fh, h2, h3, kk⟩
theorem r_ne {K : PySem.W.Frag} : R2D K (rNeA K) (gEq true) := by
  intro F H x y vx vy Q t fh rx ry hg k
  unfold gEq at hg
  obtain ⟨b, hb, hg⟩ := mS hg
  cases hg
  have kk : Q (.bl (!b)) H := k.bl fh
  rcases eqD_of fh rx ry hb with ⟨h1, rfl⟩ | ⟨h1, h2, h3, rfl⟩
  · exact .inl ⟨h1, kk⟩
  · exact .inr ⟨x, y, h1, rx.rep fh, ry.rep fh, h2, h3, kk⟩
noncomputable def isNon : Dt → Bool
  | .non => true
  | _ => false
noncomputable def gIs (neg : Bool) (x y : Dt) : Option T := match y with
  | .non => some (.leaf (.bl (if neg then !isNon x else isNon x)))
  | _ => none
theorem isNon_of {K : PySem.W.Frag} {F H : Hp} {x : Dt} {v : V} (r : RepB K F H x v) : isNon x = decide (v = .non) := by
  cases x <;> first
    | (cases r; rfl)
    | (obtain ⟨a, vs, rfl, _⟩ := r; rfl)
    | (simp only [RepB, Rep] at r; obtain ⟨a, C, dx, fs, rfl, _⟩ := r; rfl)
theorem r_is {K : PySem.W.Frag} : R2D K (fun x y H Q => y = .non ∧ Q (.bl (decide (x = .non))) H) (gIs false) := by
  intro F H x y vx vy Q t fh rx ry hg k
  cases y <;> first | cases hg; done | skip
  cases hg; cases ry
  refine ⟨rfl, ?_⟩
  rw [← isNon_of rx]
  exact k.bl fh
theorem r_isnot {K : PySem.W.Frag} : R2D K (fun x y H Q => y = .non ∧ Q (.bl (!decide (x = .non))) H) (gIs true) := by
  intro F H x y vx vy Q t fh rx ry hg k
  cases y <;> first | cases hg; done | skip
  cases hg; cases ry
  refine ⟨rfl, ?_⟩
  rw [← isNon_of rx]
  exact k.bl fh
noncomputable def flatD : Dt → Bool
  | .non => true
  | .bl _ => true
  | .int _ => true
  | .str _ => true
  | _ => false
noncomputable def eqF : Dt → Dt → Bool
  | .non, .non => true
  | .bl a, .bl b => a == b
  | .bl a, .int b => (if a then 1 else 0) == b
  | .int a, .bl b => a == (if b then 1 else 0)
  | .int a, .int b => a == b
  | .str a, .str b => a == b
  | _, _ => false
noncomputable def inS (j i : Str) : Bool := !(Builtin.Str.occurrences j i 0 j.length 1).isEmpty
noncomputable def inD : Dt → Dt → Option Bool
  | .str i, .str j => some (inS j i)
  | x, .lst l => if flatD x && l.all flatD then some (l.any fun y => eqF y x) else none
  | x, .tup l => if flatD x && l.all flatD then some (l.any fun y => eqF y x) else none
  | _, _ => none
noncomputable def gIn (neg : Bool) (x y : Dt) : Option T := (inD x y).map fun b => .leaf (.bl (if neg then !b else b))
theorem flat_of {K : PySem.W.Frag} {F : Hp} {d : Dt} {v : V} (r : Rep K F d v) (h : flatD d = true) : flatV v = true := by
  cases d <;> simp only [Rep] at r <;> first
    | (subst r; rfl)
    | cases h
theorem eqF_of {K : PySem.W.Frag} {F F' : Hp} {d e : Dt} {v w : V} (r : Rep K F d v) (r' : Rep K F' e w) (h : flatD d = true) (h' : flatD e = true) : eqF d e = eqV v w := by
  cases d <;> first | cases h; done | skip
  all_goals cases e <;> first | cases h'; done | skip
  all_goals simp only [Rep] at r r'; subst r r'; rfl
theorem flats_of {K : PySem.W.Frag} {F : Hp} : ∀ {l : List Dt} {vs : List V}, Reps K F l vs → l.all flatD = true → vs.all flatV = true
  | [], vs, r, _ => by simp only [Reps] at r; subst r; rfl
  | d :: l, vs, r, h => by
    simp only [Reps] at r
    obtain ⟨v, ws, rfl, h1, h2⟩ := r
    rw [List.all_cons, Bool.and_eq_true] at h ⊢
    exact ⟨flat_of h1 h.1, flats_of h2 h.2⟩
theorem any_of {K : PySem.W.Frag} {F F' : Hp} {x : Dt} {w : V} (r' : Rep K F' x w) (hx : flatD x = true) : ∀ {l : List Dt} {vs : List V}, Reps K F l vs → l.all flatD = true → (l.any fun y => eqF y x) = inV w vs
  | [], vs, r, _ => by simp only [Reps] at r; subst r; rfl
  | d :: l, vs, r, h => by
    simp only [Reps] at r
    obtain ⟨v, ws, rfl, h1, h2⟩ := r
    rw [List.all_cons, Bool.and_eq_true] at h
    unfold inV
    rw [List.any_cons, List.any_cons, eqF_of h1 r' h.1 hx, any_of r' hx h2 h.2]
    rfl
noncomputable abbrev rInA (K : PySem.W.Frag) (neg : Bool) : R2 := fun x y H Q => (∃ i j, x = .str i ∧ y = .str j ∧ Q (.bl (if neg then !inS j i else inS j i)) H) ∨ rIn K neg x y H Q
theorem op_inA : OpR X (compareOp .In) (rInA X.K false) := OpR.or op_in_str op_in_seq
theorem op_notInA : OpR X (compareOp .NotIn) (rInA X.K true) := OpR.or op_notIn_str op_notIn_seq
theorem r_in {K : PySem.W.Frag} (neg : Bool) : R2D K (rInA K neg) (gIn neg) := by
  intro F H x y vx vy Q t fh rx ry hg k
  unfold gIn at hg
  obtain ⟨b, hb, hg⟩ := mS hg
  cases hg
  have kk := k.bl fh
  unfold inD at hb
  split at hb <;> first | (cases hb; done) | skip
  · cases hb; cases rx; cases ry
    exact .inl ⟨_, _, rfl, rfl, kk⟩
  · split at hb
    · rename_i q
      rw [Bool.and_eq_true] at q
      cases hb
      obtain ⟨a, vs, rfl, h1, h2⟩ := ry
      have rx' := rx.rep fh
      rw [any_of rx' q.1 h2 q.2] at kk
      exact .inr ⟨a, vs, rfl, .inl h1, flat_of rx' q.1, flats_of h2 q.2, kk⟩
    · cases hb
  · split at hb
    · rename_i q
      rw [Bool.and_eq_true] at q
      cases hb
      obtain ⟨a, vs, rfl, h1, h2⟩ := ry
      have rx' := rx.rep fh
      rw [any_of rx' q.1 h2 q.2] at kk
      exact .inr ⟨a, vs, rfl, .inr (fh.tup h1), flat_of rx' q.1, flats_of h2 q.2, kk⟩
    · cases hb
theorem atI_reps {K : PySem.W.Frag} {F : Hp} {l : List Dt} {vs : List V} {i : Int} {d : Dt} (r : Reps K F l vs) (h : atI l i = some d) : ∃ v, atI vs i = some v ∧ Rep K F d v := by
  unfold atI at h ⊢
  rw [r.length]
  obtain ⟨j, hj, h⟩ := bS h
  obtain ⟨v, e, rv⟩ := r.get h
  exact ⟨v, by rw [hj]; exact e, rv⟩
noncomputable def gIx : Dt → Dt → Option T
  | .lst l, .int i => (atI l i).map .leaf
  | .tup l, .int i => (atI l i).map .leaf
  | .str x, .int i => if x.length ≤ sizeLine then (atI x.cps.toList i).map fun c => .leaf (.str ⟨#[c]⟩) else none
  | _, _ => none
theorem r_ix {K : PySem.W.Frag} : R2D K (rIx K) gIx := by
  intro F H x y vx vy Q t fh rx ry hg k
  unfold gIx at hg
  split at hg <;> first | (cases hg; done) | skip
  · obtain ⟨d, hd, hg⟩ := mS hg
    cases hg; cases ry
    obtain ⟨a, vs, rfl, h1, h2⟩ := rx
    obtain ⟨v, e, rv⟩ := atI_reps h2 hd
    exact .inl ⟨a, vs, _, v, rfl, rfl, h1, e, k.leaf.here fh rv⟩
  · obtain ⟨d, hd, hg⟩ := mS hg
    cases hg; cases ry
    obtain ⟨a, vs, rfl, h1, h2⟩ := rx
    obtain ⟨v, e, rv⟩ := atI_reps h2 hd
    exact .inr (.inl ⟨a, vs, _, v, rfl, rfl, fh.tup h1, e, k.leaf.here fh rv⟩)
  · split at hg
    · rename_i hl
      obtain ⟨c, hc, hg⟩ := mS hg
      cases hg; cases rx; cases ry
      exact .inr (.inr ⟨_, _, c, rfl, rfl, hl, hc, k.str fh⟩)
    · cases hg
variable {a b c : Expr} {fa fb fc : De → Option Dt} {pos : Pos}
noncomputable def vChain (g g' : Dt → Dt → Option T) (fa fb fc : De → Option Dt) : De → Option T := fun δ => (fa δ).bind fun x => (fb δ).bind fun y => (g x y).bind fun z => (asB z).bind fun k => if k then (fc δ).bind fun w => g' y w else some (.leaf (.bl false))
theorem chain_of {K : PySem.W.Frag} {r r' : R2} {g g' : Dt → Dt → Option T} (hr : R2D K r g) (hr' : R2D K r' g') {σ : St} {H : Hp} {Q : VK} (h : tO K (vChain g g' fa fb fc) σ H Q) : tChain r r' (tBd K fa) (tBd K fb) (tBd K fc) σ H Q := by
  obtain ⟨Φ, δ, F, t, hK, en, hf, k⟩ := h
  unfold vChain at hf
  obtain ⟨x, hx, hf⟩ := bS hf
  obtain ⟨y, hy, hf⟩ := bS hf
  obtain ⟨z, hz, hf⟩ := bS hf
  obtain ⟨b, hb, hf⟩ := bS hf
  refine ⟨Φ, δ, F, x, hK, en, hx, fun v H1 F1 st rv => ⟨Φ, δ, F1, y, hK, en.step st, hy, fun v2 H2 F2 st2 rv2 => hr F2 H2 x y v v2 _ z st2.fh (rv.step st2.ff st2.hh) rv2 hz fun v3 H3 F3 S st3 o hs => ⟨b, asB_own hb o, ?_⟩⟩⟩
  have s3 := (st.trans st2).trans st3
  split at hf
  · rename_i q
    rw [if_pos q]
    obtain ⟨w, hw, hf⟩ := bS hf
    exact ⟨Φ, δ, F3, w, hK, en.step s3, hw, fun v4 H4 F4 st4 rv4 => hr' F4 H4 y w v2 v4 Q t st4.fh (rv2.step (st3.ff.trans st4.ff) (st3.hh.trans st4.hh)) rv4 hf (k.step (s3.trans st4))⟩
  · rename_i q
    rw [if_neg q]
    cases hf
    exact (k.step s3).bl st3.fh
theorem do_chain {op op' : CmpOp} {r r' : R2} {g g' : Dt → Dt → Option T} (ho : OpR X (compareOp op) r) (hr : R2D X.K r g) (ho' : OpR X (compareOp op') r') (hr' : R2D X.K r' g') (ha : DB X a fa) (hb : DB X b fb) (hc : DB X c fc)
    (hm : lastMarks [op, op'] [b, c] = false := by with_unfolding_all rfl) : DO X (.Compare a [op, op'] [b, c] pos) (vChain g g' fa fb fc) := PE.mono (pe_chain ho ho' ha hb hc hm) fun σ H Q h => chain_of hr hr' h
noncomputable def asBf (f : De → Option T) : De → Option Bool := fun δ => (f δ).bind asB
theorem dt_chain {op op' : CmpOp} {r r' : R2} {g g' : Dt → Dt → Option T} (ho : OpR X (compareOp op) r) (hr : R2D X.K r g) (ho' : OpR X (compareOp op') r') (hr' : R2D X.K r' g') (ha : DB X a fa) (hb : DB X b fb) (hc : DB X c fc)
    (hm : lastMarks [op, op'] [b, c] = false := by with_unfolding_all rfl) : DT X (.Compare a [op, op'] [b, c] pos) (asBf (vChain g g' fa fb fc)) := PT.mono (pt_chain ho ho' ha hb hc hm) fun σ H Q ⟨Φ, δ, F, t, hK, en, hf, k⟩ => by
  unfold asBf at hf
  obtain ⟨z, hz, hf⟩ := bS hf
  exact chain_of hr hr' ⟨Φ, δ, F, z, hK, en, hz, fun v H' F' S st o hs => ⟨t, asB_own hf o, k H' F' st⟩⟩
noncomputable def cutD (l : List Dt) (lo hi : Option Int) : List Dt := (l.drop (HT.sIx l.length 0 lo)).take (HT.sIx l.length l.length hi - HT.sIx l.length 0 lo)
noncomputable def gSl : Dt → Option Int → Option Int → Option T
  | .str x, lo, hi => if x.length ≤ sizeLine then some (.leaf (.str (Txt.slice x lo hi))) else none
  | .lst l, lo, hi => some (.lst (cutD l lo hi))
  | .tup l, lo, hi => if HT.sIx l.length 0 lo = 0 ∧ HT.sIx l.length l.length hi = l.length then none else some (.leaf (.tup (cutD l lo hi)))
  | _, _, _ => none
noncomputable abbrev rSlA (K : PySem.W.Frag) : V → Option Int → Option Int → Hp → VK → Prop := fun x lo hi H Q => rSlS x lo hi H Q ∨ rSlL K x lo hi H Q ∨ rSlT K x lo hi H Q
theorem sl_all : SlR X (rSlA X.K) := SlR.or sl_str (SlR.or sl_list sl_tup)
theorem cut_reps {K : PySem.W.Frag} {F : Hp} {l : List Dt} {vs : List V} (r : Reps K F l vs) (lo hi : Option Int) : Reps K F (cutD l lo hi) (cutV vs lo hi) := by
  unfold cutD cutV
  rw [r.length]
  exact (r.drop _).take _
theorem r_sl {K : PySem.W.Frag} {F H : Hp} {x : Dt} {v : V} {lo hi : Option Int} {Q : VK} {t : T} (fh : Same F H) (rx : RepB K F H x v) (hg : gSl x lo hi = some t) (k : KO K F H t Q) : rSlA K v lo hi H Q := by
  unfold gSl at hg
  split at hg <;> first | (cases hg; done) | skip
  · split at hg
    · cases hg; cases rx
      exact .inl ⟨_, rfl, by assumption, k.str fh⟩
    · cases hg
  · obtain ⟨a, vs, rfl, h1, h2⟩ := rx
    cases hg
    exact .inr (.inl ⟨a, vs, rfl, h1, fun p hp => own_lst k fh (cut_reps h2 _ _) hp⟩)
  · obtain ⟨a, vs, rfl, h1, h2⟩ := rx
    split at hg
    · cases hg
    · rename_i hn
      cases hg
      rw [← h2.length] at hn
      exact .inr (.inr ⟨a, vs, rfl, fh.tup h1, hn, fun p hp => k.tup fh (cut_reps h2 _ _) hp⟩)
noncomputable def tOD (K : PySem.W.Frag) (f : De → Option (Option Int)) : TO := fun σ H Q => ∃ Φ δ F d, Fm.K Φ = K ∧ En Φ δ σ F H ∧ f δ = some d ∧ ∀ H' F', Step F H F' H' → Q d H'
noncomputable def oNone : De → Option (Option Int) := fun _ => some none
noncomputable def asI : Dt → Option Int
  | .int i => some i
  | _ => none
noncomputable def oSome (f : De → Option Dt) : De → Option (Option Int) := fun δ => (f δ).bind fun d => (asI d).map some
theorem repB_int {K : PySem.W.Frag} {F H : Hp} {x : Dt} {v : V} {b : Int} (h : asI x = some b) (r : RepB K F H x v) : v = .int b := by
  cases x <;> first | cases h; done | skip
  cases h; exact r
noncomputable def DP (X : Cx) (e : Option Expr) (f : De → Option (Option Int)) : Prop := PO X e (tOD X.K f)
theorem dp_none : DP X none oNone := fun pins s σ H Q I h => po_none pins s σ H Q I (by
  obtain ⟨Φ, δ, F, d, hK, en, hf, k⟩ := h
  cases hf
  exact k H F (Step.refl en.fh))
theorem dp_some {e : Expr} {f : De → Option Dt} (h : DB X e f) : DP X (some e) (oSome f) := fun pins s σ H Q I q => po_some h pins s σ H Q I (by
  obtain ⟨Φ, δ, F, d, hK, en, hf, k⟩ := q
  unfold oSome at hf
  obtain ⟨x, hx, hf⟩ := bS hf
  obtain ⟨i, hi, hf⟩ := mS hf
  cases hf
  exact ⟨Φ, δ, F, x, hK, en, hx, fun v H' F' st r => ⟨i, repB_int hi r, k H' F' st⟩⟩)
noncomputable def vSl (fa : De → Option Dt) (fl fh : De → Option (Option Int)) : De → Option T := fun δ => (fa δ).bind fun x => (fl δ).bind fun l => (fh δ).bind fun h => gSl x l h
theorem do_slice {e : Expr} {lo hi : Option Expr} {p2 : Pos} {f : De → Option Dt} {fl fh : De → Option (Option Int)} (he : DB X e f) (hl : DP X lo fl) (hh : DP X hi fh) : DO X (.Subscript e (.Slice lo hi none p2) pos) (vSl f fl fh) :=
  PE.mono (pe_slice sl_all he hl hh) fun σ H Q ⟨Φ, δ, F, t, hK, en, hf, k⟩ => by
    unfold vSl at hf
    obtain ⟨x, hx, hf⟩ := bS hf
    obtain ⟨l, hl, hf⟩ := bS hf
    obtain ⟨h, hh, hf⟩ := bS hf
    exact ⟨Φ, δ, F, x, hK, en, hx, fun v H1 F1 s1 r1 => ⟨Φ, δ, F1, l, hK, en.step s1, hl, fun H2 F2 s2 => ⟨Φ, δ, F2, h, hK, en.step (s1.trans s2), hh, fun H3 F3 s3 => r_sl s3.fh (r1.step (s2.ff.trans s3.ff) (s2.hh.trans s3.hh)) hf (k.step ((s1.trans s2).trans s3))⟩⟩⟩
noncomputable def vNeg (f : De → Option Dt) : De → Option T := fun δ => (f δ).bind fun d => (asI d).map fun i => .leaf (.int (-i))
theorem do_neg (h : DB X a fa) : DO X (.UnaryOp .USub a pos) (vNeg fa) := PE.mono (pe_un un_neg h) fun σ H Q ⟨Φ, δ, F, t, hK, en, hf, k⟩ => by
  unfold vNeg at hf
  obtain ⟨x, hx, hf⟩ := bS hf
  obtain ⟨i, hi, hf⟩ := mS hf
  cases hf
  exact ⟨Φ, δ, F, x, hK, en, hx, fun v H' F' st r => ⟨i, repB_int hi r, (k.step st).int st.fh⟩⟩
noncomputable def gLen : List Dt → Option T
  | [.str x] => if x.length ≤ sizeLine then some (.leaf (.int x.length)) else none
  | [.tup l] => some (.leaf (.int l.length))
  | [.lst l] => some (.leaf (.int l.length))
  | _ => none
theorem repBs1 {K : PySem.W.Frag} {F H : Hp} {d : Dt} {vs : List V} (r : RepBs K F H [d] vs) : ∃ v, vs = [v] ∧ RepB K F H d v := by
  obtain ⟨v, ws, rfl, h1, h2⟩ := r
  cases h2
  exact ⟨v, rfl, h1⟩
theorem c_len {K : PySem.W.Frag} : CRD K (fun xs H Q => ∃ x n, xs = [x] ∧ LenV K x H n ∧ Q (.int n) H) gLen := by
  intro F H ds vs Q t fh r hg k
  unfold gLen at hg
  split at hg <;> first | (cases hg; done) | skip
  · split at hg
    · rename_i hl
      cases hg
      obtain ⟨v, rfl, rv⟩ := repBs1 r
      cases rv
      exact ⟨_, _, rfl, ⟨hl, rfl⟩, k.int fh⟩
    · cases hg
  · cases hg
    obtain ⟨v, rfl, rv⟩ := repBs1 r
    obtain ⟨a, vs, rfl, h1, h2⟩ := rv
    rw [← h2.length] at k
    exact ⟨_, _, rfl, .inr ⟨vs, fh.tup h1, rfl⟩, k.int fh⟩
  · cases hg
    obtain ⟨v, rfl, rv⟩ := repBs1 r
    obtain ⟨a, vs, rfl, h1, h2⟩ := rv
    rw [← h2.length] at k
    exact ⟨_, _, rfl, .inl ⟨vs, h1, rfl⟩, k.int fh⟩
noncomputable def asBls : List Dt → Option (List Bool)
  | [] => some []
  | .bl b :: r => (asBls r).map (b :: ·)
  | _ => none
theorem asBls_of {K : PySem.W.Frag} {F : Hp} : ∀ {l : List Dt} {vs : List V} {bs : List Bool}, Reps K F l vs → asBls l = some bs → vs = bs.map V.bl
  | [], vs, bs, r, h => by cases h; simp only [Reps] at r; exact r
  | d :: l, vs, bs, r, h => by
    cases d <;> first | cases h; done | skip
    simp only [asBls] at h
    obtain ⟨cs, hc, h⟩ := mS h
    cases h
    simp only [Reps, Rep] at r
    obtain ⟨v, ws, rfl, rfl, r2⟩ := r
    rw [asBls_of r2 hc]
    rfl
noncomputable def gAll (f : List Bool → Bool) : List Dt → Option T
  | [.lst l] => (asBls l).map fun bs => .leaf (.bl (f bs))
  | _ => none
theorem c_all {K : PySem.W.Frag} {f : List Bool → Bool} : CRD K (fun xs H Q => ∃ (a : Addr) (bs : List Bool), xs = [.ref a] ∧ SqL K H a (bs.map V.bl) ∧ Q (.bl (f bs)) H) (gAll f) := by
  intro F H ds vs Q t fh r hg k
  unfold gAll at hg
  split at hg <;> first | (cases hg; done) | skip
  obtain ⟨bs, hb, hg⟩ := mS hg
  cases hg
  obtain ⟨v, rfl, rv⟩ := repBs1 r
  obtain ⟨a, vs, rfl, h1, h2⟩ := rv
  have := asBls_of h2 hb
  subst this
  exact ⟨a, bs, rfl, h1, k.bl fh⟩
noncomputable def logOk (i : Int) : Bool := decide (i.natAbs.log2 < 1920)
noncomputable def gStr : List Dt → Option T
  | [.int i] => if logOk i then some (.leaf (.str (toString i))) else none
  | _ => none
theorem c_str {K : PySem.W.Frag} : CRD K (fun xs H Q => ∃ i, xs = [.int i] ∧ i.natAbs.log2 < 1920 ∧ Q (.str (toString i)) H) gStr := by
  intro F H ds vs Q t fh r hg k
  unfold gStr at hg
  split at hg <;> first | (cases hg; done) | skip
  split at hg
  · rename_i h
    cases hg
    obtain ⟨v, rfl, rv⟩ := repBs1 r
    cases rv
    exact ⟨_, rfl, of_decide_eq_true h, k.str fh⟩
  · cases hg
noncomputable def gInt : List Dt → Option T
  | [.int i] => some (.leaf (.int i))
  | [.bl b] => some (.leaf (.int (if b then 1 else 0)))
  | [.str x] => (PySem.intText? x).bind fun n => if x.length ≤ 640 then some (.leaf (.int n)) else none
  | _ => none
noncomputable abbrev rIntA : List V → Hp → VK → Prop := fun xs H Q => ((∃ i, xs = [.int i] ∧ Q (.int i) H) ∨ ∃ k, xs = [.bl k] ∧ Q (.int (if k then 1 else 0)) H) ∨ ∃ x n, xs = [.str x] ∧ PySem.intText? x = some n ∧ x.length ≤ 640 ∧ Q (.int n) H
theorem call_intA : CallR X (.type "int") rIntA := CallR.or call_int1 call_int_str
theorem c_int {K : PySem.W.Frag} : CRD K rIntA gInt := by
  intro F H ds vs Q t fh r hg k
  unfold gInt at hg
  split at hg <;> first | (cases hg; done) | skip
  · cases hg
    obtain ⟨v, rfl, rv⟩ := repBs1 r
    cases rv
    exact .inl (.inl ⟨_, rfl, k.int fh⟩)
  · cases hg
    obtain ⟨v, rfl, rv⟩ := repBs1 r
    cases rv
    exact .inl (.inr ⟨_, rfl, k.int fh⟩)
  · obtain ⟨n, hn, hg⟩ := bS hg
    split at hg
    · cases hg
      obtain ⟨v, rfl, rv⟩ := repBs1 r
      cases rv
      exact .inr ⟨_, n, rfl, hn, by assumption, k.int fh⟩
    · cases hg
noncomputable def gTuple : List Dt → Option T
  | [.lst l] => some (.leaf (.tup l))
  | [.tup l] => some (.leaf (.tup l))
  | _ => none
theorem c_tuple {K : PySem.W.Frag} : CRD K (fun xs H Q => ∃ p ys, xs = [.ref p] ∧ ((SqL K H p ys ∧ ∀ l, H l = none → Q (.ref l) (upd H l (.tup ys))) ∨ (SqT K H p ys ∧ Q (.ref p) H))) gTuple := by
  intro F H ds vs Q t fh r hg k
  unfold gTuple at hg
  split at hg <;> first | (cases hg; done) | skip
  · cases hg
    obtain ⟨v, rfl, rv⟩ := repBs1 r
    obtain ⟨a, vs, rfl, h1, h2⟩ := rv
    exact ⟨a, vs, rfl, .inl ⟨h1, fun p hp => k.tup fh h2 hp⟩⟩
  · cases hg
    obtain ⟨v, rfl, rv⟩ := repBs1 r
    rename_i l
    have rv' : Rep K F (.tup l) v := by simp only [Rep]; exact rv
    obtain ⟨a, vs, rfl, h1, h2⟩ := rv
    exact ⟨a, vs, rfl, .inr ⟨fh.tup h1, k.leaf.here fh rv'⟩⟩
end
end L2
namespace L2
open PySem PySem.Spec PyProof.Rows
section
variable {X : Cx} {o a b e c : Expr} {es : List Expr} {fa fb fo fe : De → Option Dt} {fs : De → Option (List Dt)} {pos apos cpos p : Pos} {x : Str} {sc : Scope} {i : Nat}
noncomputable def GlobD (K : PySem.W.Frag) (mg : Str → Option Value) (x : Str) (d : Dt) : Prop := ∃ v, (∃ u, mg x = some u ∧ RelV v u) ∧ ∀ F, Rep K F d v
theorem dl_glob {d : Dt} (h : glOk sc x = true) (hm : GlobD X.K X.mg x d) (e1 : ScIs X sc := by rfl) : DL X (.Name x pos) (kD d) := by
  obtain ⟨v, h1, h2⟩ := hm
  exact dl_c (pe_globD h h1 e1) h2
theorem glob_int {K : PySem.W.Frag} {mg : Str → Option Value} {i : Int} (h : ∃ u, mg x = some u ∧ RelV (.int i) u) : GlobD K mg x (.int i) := ⟨_, h, fun _ => rep_int⟩
theorem glob_str {K : PySem.W.Frag} {mg : Str → Option Value} {i : Str} (h : ∃ u, mg x = some u ∧ RelV (.str i) u) : GlobD K mg x (.str i) := ⟨_, h, fun _ => rep_str⟩
noncomputable def isIns : Dt → Bool
  | .ins _ _ _ => true
  | _ => false
noncomputable def tyD : Dt → String
  | .ins _ _ _ => "object"
  | .non => "NoneType"
  | .bl _ => "bool"
  | .int _ => "int"
  | .str _ => "str"
  | .tup _ => "tuple"
  | .lst _ => "list"
  | .dct _ _ => "dict"
  | .dcT _ _ => "dict"
noncomputable def instD (c : String) : Dt → Bool
  | .ins _ _ _ => false
  | .non => c == "NoneType"
  | .bl _ => c == "bool" || c == "int"
  | .int _ => c == "int"
  | .str _ => c == "str"
  | .tup _ => c == "tuple"
  | .lst _ => c == "list"
  | .dct _ _ => c == "dict"
  | .dcT _ _ => c == "dict"
theorem isinst_rep {pins : List (Addr × Obj)} {σ : St} {H : Hp} {s : Shared} {A : Around} {E : Value → Shared → Prop} {Q : Value → Shared → Prop} {c : Value} {b : Bool} {v : V} {u : Value} {d : Dt} (I : Inv X pins σ H s) (rx : RelV v u) (r : Rep X.K H d v) (hi : isIns d = false) (e : PySem.W.kitOne X.K (.type (tyD d)) c = some b) (h : ∀ tk, Q (.bool b) { s with toks := tk }) :
    wpAny (model X.prog X.w) A (call (.builtin "isinstance") [u, c]) Q E s := by
  cases d with
  | non => simp only [Rep] at r; subst r; exact isinst_ok I rx .non e h
  | bl y => simp only [Rep] at r; subst r; exact isinst_ok I rx (.bl y) e h
  | int y => simp only [Rep] at r; subst r; exact isinst_ok I rx (.int y) e h
  | str y => simp only [Rep] at r; subst r; exact isinst_ok I rx (.str y) e h
  | tup l =>
    simp only [Rep] at r
    obtain ⟨a, vs, rfl, h1, h2⟩ := r
    cases rx
    obtain ⟨its, _, pl, _⟩ := I.tuple h1
    obtain ⟨o, e1, e2, _⟩ := pl
    exact PySem.W.kia_one PySem.W.kitx_tuple I.kIn ⟨o, e1, e2⟩ e (fun z => nomatch z) h
  | lst l =>
    simp only [Rep] at r
    obtain ⟨a, vs, rfl, h1, h2⟩ := r
    cases rx
    obtain ⟨its, _, pl, _⟩ := I.list h1
    obtain ⟨o, n, e1, e2, _⟩ := pl
    exact PySem.W.kia_one PySem.W.kitx_list I.kIn ⟨o, e1, e2⟩ e (fun z => nomatch z) h
  | dct ks l =>
    simp only [Rep] at r
    obtain ⟨a, kvs, rfl, h1, _⟩ := r
    cases rx
    obtain ⟨_, _, vs, _, p⟩ := dk_rd I.hok h1
    obtain ⟨o, es, ep, e1, e2, _⟩ := p
    exact PySem.W.kia_one PySem.W.kitx_dict I.kIn ⟨o, e1, e2.1⟩ e (fun z => nomatch z) h
  | dcT ks l =>
    simp only [Rep] at r
    obtain ⟨a, kvs, rfl, h1, _⟩ := r
    cases rx
    obtain ⟨_, _, xs, _, o, es, ep, e1, e2, _⟩ := (show ObjOk X.prog X.w H s.heap a (.dT kvs) from h1.ok I.hok)
    exact PySem.W.kia_one PySem.W.kitx_dict I.kIn ⟨o, e1, e2.1⟩ e (fun z => nomatch z) h
  | ins c ns l => cases hi
noncomputable def KindsD (K : PySem.W.Frag) (c : String) : Prop := ∀ d : Dt, isIns d = false → PySem.W.kitOne K (.type (tyD d)) (.type c) = some (instD c d)
theorem call_instD : CallR X (.builtin "isinstance") (fun xs H Q => ∃ v c d b, xs = [v, .ty c] ∧ Rep X.K H d v ∧ isIns d = false ∧ PySem.W.kitOne X.K (.type (tyD d)) (.type c) = some b ∧ Q (.bl b) H) := by
  intro pins s σ H xs us Q I r h
  obtain ⟨v, c, d, b, rfl, rd, hi, e, q⟩ := h
  obtain ⟨u, w', rfl, ru, rw'⟩ := vals2 r
  cases rw'
  exact isinst_rep I ru rd hi e fun tk => ⟨.bl b, H, I.tok _, rfl, q⟩
noncomputable def vInst (c : String) (f : De → Option Dt) : De → Option T := fun δ => (f δ).bind fun d => if isIns d then none else some (.leaf (.bl (instD c d)))
theorem do_isinst {cn : Str} {cs : String} {p1 p2 : Pos} (h : glOk sc "isinstance" = true) (hcn : glOk sc cn = true) (hm : X.mg "isinstance" = none) (hmc : X.mg cn = none) (hv : bootBuiltins cn = some (.type cs)) (hk : KindsD X.K cs) (ha : DB X a fa) (e1 : ScIs X sc := by rfl)
    (he : starEach [a, .Name cn p2] X.env = (false, eval a X.env) :: starEach [.Name cn p2] X.env := by rfl) (he2 : starEach [.Name cn p2] X.env = (false, eval (.Name cn p2) X.env) :: starEach [] X.env := by rfl) (hpl : (backTo pos (starEach [.Name cn p2] X.env)).any (·.1) = false := by rfl) :
    DO X (.Call (.Name "isinstance" p1) [a, .Name cn p2] [] pos) (vInst cs fa) :=
  PE.mono (pe_callBD h call_instD hm bt_isinstance (pa_cons ha (pa_cons (pe_bltnD (v := .ty cs) hcn hmc hv rfl e1) pa_nil he2) he) e1 he hpl) fun σ H Q ⟨Φ, δ, F, t, hK, en, hf, k⟩ => by
    unfold vInst at hf
    obtain ⟨d, hd, hf⟩ := bS hf
    cases hi : isIns d with
    | true => rw [hi] at hf; cases hf
    | false =>
      rw [hi] at hf
      cases hf
      exact ⟨Φ, δ, F, d, hK, en, hd, fun v H' F' st r => ⟨v, cs, d, _, rfl, r.rep st.fh, hi, hk d hi, (k.step st).bl st.fh⟩⟩
noncomputable def MRD (K : PySem.W.Frag) (r : V → List V → Hp → VK → Prop) (g : Dt → List Dt → Option T) : Prop := ∀ F H d v ds vs (Q : VK) t, Same F H → RepB K F H d v → RepBs K F H ds vs → g d ds = some t → KO K F H t Q → r v vs H Q
noncomputable def vMeth (g : Dt → List Dt → Option T) (fo : De → Option Dt) (fs : De → Option (List Dt)) : De → Option T := fun δ => (fo δ).bind fun d => (fs δ).bind fun ds => g d ds
theorem do_bmS {name : Str} {id : String} {r : V → List V → Hp → VK → Prop} {g : Dt → List Dt → Option T} (slot : Slot "str" name id) (hty : typeOf (.builtin id) = pure (.type "method_descriptor")) (hm : MtR X id r) (hr : MRD X.K r g) (hg : ∀ d ds t, g d ds = some t → ∃ z, d = .str z)
    (ho : DB X o fo) (ha : DAB X (e :: es) fs)
    (hbase : attributeBase o name X.env (eval o X.env) = eval o X.env := by rfl)
    (hfew : ((backTo cpos (starEach (e :: es) X.env)).all (fun x => !x.1) && (backToKw cpos (keywordEach [] X.env)).all (fun x => x.1.isSome)
      && decide ((e :: es).length + ([] : List Keyword).length + (if ([] : List Keyword).isEmpty then 0 else 1) < 30)) = true := by rfl)
    (hline : (apos.endLine == cpos.line) = true := by rfl) (hs : starEach (e :: es) X.env = (false, eval e X.env) :: starEach es X.env := by rfl) (hplain : (backTo cpos (starEach es X.env)).any (·.1) = false := by rfl) :
    DO X (.Call (.Attribute o name apos) (e :: es) [] cpos) (vMeth g fo fs) := PE.mono (pe_bm PySem.F.plainAttrs_str slot hty hm ho ha.pa hbase hfew hline hs hplain) fun σ H Q ⟨Φ, δ, F, t, hK, en, hf, k⟩ => by
  unfold vMeth at hf
  obtain ⟨d, hd, hf⟩ := bS hf
  obtain ⟨ds, hds, hf⟩ := bS hf
  refine ⟨Φ, δ, F, d, hK, en, hd, fun v H1 F1 st rv => ⟨?_, Φ, δ, F1, ds, hK, en.step st, hds, fun vs H2 F2 st2 rvs => hr F2 H2 d v ds vs Q t st2.fh (rv.step st2.ff st2.hh) rvs hf (k.step (st.trans st2))⟩⟩
  obtain ⟨z, rfl⟩ := hg d ds t hf
  cases rv
  rfl
noncomputable def asStrs : List Dt → Option (List Str)
  | [] => some []
  | .str b :: r => (asStrs r).map (b :: ·)
  | _ => none
theorem asStrs_of {K : PySem.W.Frag} {F : Hp} : ∀ {l : List Dt} {vs : List V} {bs : List Str}, Reps K F l vs → asStrs l = some bs → vs = bs.map V.str
  | [], vs, bs, r, h => by cases h; simp only [Reps] at r; exact r
  | d :: l, vs, bs, r, h => by
    cases d <;> first | cases h; done | skip
    simp only [asStrs] at h
    obtain ⟨cs, hc, h⟩ := mS h
    cases h
    simp only [Reps, Rep] at r
    obtain ⟨v, ws, rfl, rfl, r2⟩ := r
    rw [asStrs_of r2 hc]
    rfl
noncomputable def g_join : Dt → List Dt → Option T
  | .str a, [.lst l] => (asStrs l).bind fun ts => if JoinOk a ts then some (.leaf (.str (Txt.join a ts))) else none
  | _, _ => none
theorem m_joinD {K : PySem.W.Frag} : MRD K (fun x vs H Q => ∃ (a : Str) (l : Addr) (ts : List Str), x = .str a ∧ vs = [.ref l] ∧ SqL K H l (ts.map V.str) ∧ JoinOk a ts = true ∧ Q (.str (Txt.join a ts)) H) g_join := by
  intro F H d v ds vs Q t fh rd rs hg k
  unfold g_join at hg
  split at hg <;> first | cases hg; done | skip
  obtain ⟨ts, ht, hg⟩ := bS hg
  split at hg
  · rename_i hj
    cases hg
    cases rd
    obtain ⟨v, rfl, rv⟩ := repBs1 rs
    obtain ⟨a, vs, rfl, h1, h2⟩ := rv
    have := asStrs_of h2 ht
    subst this
    exact ⟨_, a, ts, rfl, rfl, h1, hj, k.str fh⟩
  · cases hg
theorem g_join_str : ∀ d ds t, g_join d ds = some t → ∃ z, d = .str z := fun d ds t h => by
  unfold g_join at h
  split at h
  · exact ⟨_, rfl⟩
  · cases h
theorem do_join (ho : DB X o fo) (ha : DAB X (e :: es) fs)
    (hbase : attributeBase o "join" X.env (eval o X.env) = eval o X.env := by rfl)
    (hfew : ((backTo cpos (starEach (e :: es) X.env)).all (fun x => !x.1) && (backToKw cpos (keywordEach [] X.env)).all (fun x => x.1.isSome)
      && decide ((e :: es).length + ([] : List Keyword).length + (if ([] : List Keyword).isEmpty then 0 else 1) < 30)) = true := by rfl)
    (hline : (apos.endLine == cpos.line) = true := by rfl) (hs : starEach (e :: es) X.env = (false, eval e X.env) :: starEach es X.env := by rfl) (hplain : (backTo cpos (starEach es X.env)).any (·.1) = false := by rfl) :
    DO X (.Call (.Attribute o "join" apos) (e :: es) [] cpos) (vMeth g_join fo fs) := do_bmS PySem.F.slot_str_join PySem.F.type_str_join mt_join m_joinD g_join_str ho ha hbase hfew hline hs hplain
noncomputable def g_startswith : Dt → List Dt → Option T
  | .str a, [.str b] => some (.leaf (.bl (Txt.startswith a b)))
  | _, _ => none
theorem m_startswithD {K : PySem.W.Frag} : MRD K (fun x vs H Q => ∃ a b, x = .str a ∧ vs = [.str b] ∧ Q (.bl (Txt.startswith a b)) H) g_startswith := by
  intro F H d v ds vs Q t fh rd rs hg k
  unfold g_startswith at hg
  split at hg <;> first | cases hg; done | skip
  cases hg
  cases rd
  obtain ⟨v, rfl, rv⟩ := repBs1 rs
  cases rv
  exact ⟨_, _, rfl, rfl, k.bl fh⟩
theorem g_startswith_str : ∀ d ds t, g_startswith d ds = some t → ∃ z, d = .str z := fun d ds t h => by
  unfold g_startswith at h
  split at h
  · exact ⟨_, rfl⟩
  · cases h
theorem do_startswith (ho : DB X o fo) (ha : DAB X (e :: es) fs)
    (hbase : attributeBase o "startswith" X.env (eval o X.env) = eval o X.env := by rfl)
    (hfew : ((backTo cpos (starEach (e :: es) X.env)).all (fun x => !x.1) && (backToKw cpos (keywordEach [] X.env)).all (fun x => x.1.isSome)
      && decide ((e :: es).length + ([] : List Keyword).length + (if ([] : List Keyword).isEmpty then 0 else 1) < 30)) = true := by rfl)
    (hline : (apos.endLine == cpos.line) = true := by rfl) (hs : starEach (e :: es) X.env = (false, eval e X.env) :: starEach es X.env := by rfl) (hplain : (backTo cpos (starEach es X.env)).any (·.1) = false := by rfl) :
    DO X (.Call (.Attribute o "startswith" apos) (e :: es) [] cpos) (vMeth g_startswith fo fs) := do_bmS PySem.F.slot_str_startswith PySem.F.type_str_startswith mt_startswith m_startswithD g_startswith_str ho ha hbase hfew hline hs hplain
noncomputable def q25 (i : Nat) (f : De → Option Dt) : De → Option Out := fun δ => match δ[i]? with
  | some (some (.lst l)) => (f δ).bind fun d => if l.length < sizeLine then some (.nx (δ.set i (some (.lst (l ++ [d]))))) else none
  | _ => none
theorem En.ownL {Φ : Fm} {δ : De} {σ : St} {F H : Hp} (en : En Φ δ σ F H) {l : List Dt} (h : δ[i]? = some (some (.lst l))) : ∃ a vs, σ[i]? = some (some (.ref a)) ∧ H a = some (.lst vs) ∧ Reps Φ.K F l vs := by
  obtain ⟨v, hv⟩ := en.has i _ h
  obtain ⟨S, s⟩ := en.sep
  obtain ⟨a, vs, rfl, _, h1, h2⟩ := s.own i _ v (liveS_of h hv)
  exact ⟨a, vs, hv, h1, h2⟩
theorem ds_append (hx : PE X o (tVar i)) (he : DL X e fe)
    (hbase : attributeBase o "append" X.env (eval o X.env) = eval o X.env := by rfl)
    (hfew : ((backTo cpos (starEach [e] X.env)).all (fun x => !x.1) && (backToKw cpos (keywordEach [] X.env)).all (fun x => x.1.isSome)
      && decide ([e].length + ([] : List Keyword).length + (if ([] : List Keyword).isEmpty then 0 else 1) < 30)) = true := by rfl)
    (hline : (apos.endLine == cpos.line) = true := by rfl) (hs : starEach [e] X.env = (false, eval e X.env) :: starEach [] X.env := by rfl) (hplain : (backTo cpos (starEach [] X.env)).any (·.1) = false := by rfl)
    (hsw : swapsWith (.Call (.Attribute o "append" apos) [e] [] cpos) none pos.line X.env = pure false := by rfl) :
    DS1 X (.Expr (.Call (.Attribute o "append" apos) [e] [] cpos) pos) (q25 i fe) :=
  PS.mono (ps_expr (pe_bm PySem.F.plainAttrs_list PySem.F.slot_list_append PySem.F.type_list_append mt_append hx (pa_cons he pa_nil hs) hbase hfew hline hs hplain) hsw) fun D σ H ⟨Φ, δ, F, ot, hK, en, hg, k⟩ => by
    unfold q25 at hg
    split at hg <;> first | cases hg; done | skip
    rename_i l hl
    obtain ⟨d, hd, hg⟩ := bS hg
    split at hg <;> first | cases hg; done | skip
    rename_i hz
    cases hg
    obtain ⟨a, vs, hv, h1, h2⟩ := en.ownL hl
    refine ⟨.ref a, hv, .inl ⟨rfl, vs, .inl (.inl h1)⟩, Φ, δ, F, d, hK, en, hd, fun v H1 F1 st rv => ?_⟩
    have en1 := en.step st
    have h1' := st.hh _ _ h1
    refine ⟨a, vs, v, rfl, rfl, h1', by rw [h2.length]; exact hz, ?_⟩
    refine k σ F1 _ (en1.poke hl hv (fun d z => nomatch z) fun S sa => ⟨a, vs ++ [v], rfl, sa, upd_same, (h2.same st.ff).append (Reps.one (hK ▸ rv))⟩)
noncomputable def sPutL (i : Nat) (fk fe : De → Option Dt) : De → Option Out := fun δ => (fe δ).bind fun d => (fk δ).bind fun k => match δ[i]?, k with
  | some (some (.lst l)), .int n => (ixN l.length n).map fun j => .nx (δ.set i (some (.lst (l.set j d))))
  | _, _ => none
theorem Reps.set {K : PySem.W.Frag} {F : Hp} {d : Dt} {v : V} (h : Rep K F d v) : ∀ {l : List Dt} {vs : List V} (j : Nat), Reps K F l vs → Reps K F (l.set j d) (vs.set j v)
  | [], vs, j, r => by simp only [Reps] at r; subst r; simp [Reps]
  | e :: l, vs, 0, r => by
    simp only [Reps] at r
    obtain ⟨w, ws, rfl, _, r2⟩ := r
    simp only [List.set_cons_zero, Reps]
    exact ⟨v, ws, rfl, h, r2⟩
  | e :: l, vs, j + 1, r => by
    simp only [Reps] at r
    obtain ⟨w, ws, rfl, r1, r2⟩ := r
    simp only [List.set_cons_succ, Reps]
    exact ⟨w, _, rfl, r1, Reps.set h j r2⟩
noncomputable def sAug (f : Int → Int → Int) (i : Nat) (fe : De → Option Dt) : De → Option Out := fun δ => match δ[i]? with
  | some (some (.leaf (.int n))) => (fe δ).bind fun d => (asI d).map fun m => .nx (δ.set i (some (.leaf (.int (f n m)))))
  | _ => none
theorem aug_of {f : Int → Int → Int} {D : Ends} {σ : St} {H : Hp} {K : PySem.W.Frag} (h : tS K (sAug f i fe) D σ H) : tAug i (tBd K fe) (ipI f) D σ H := by
  obtain ⟨Φ, δ, F, ot, hK, en, hg, k⟩ := h
  unfold sAug at hg
  split at hg <;> first | cases hg; done | skip
  rename_i n hn
  obtain ⟨d, hd, hg⟩ := bS hg
  obtain ⟨m, hm, hg⟩ := mS hg
  cases hg
  obtain ⟨v, hv, rv⟩ := en.leaf hn
  simp only [Rep] at rv
  subst rv
  exact ⟨_, hv, Φ, δ, F, d, hK, en, hd, fun w H1 F1 st r => ⟨n, m, rfl, repB_int hm r, k _ F1 H1 ((en.step st).name rep_int i)⟩⟩
theorem ds_aug_add {N : List Str} {pos' : Pos} (h : nmOk sc N i x = true) (hl : lcOk sc x = true) (nd : N.Nodup) (he : DB X e fe) (e1 : ScIs X sc := by rfl) (e2 : X.N = N := by rfl) (hf : X.fn x = true ∨ X.env.scope.names.lookup x = some .local := by exact .inl rfl) :
    DS1 X (.AugAssign (.Name x pos') .Add e pos) (sAug (fun i j => i + j) i fe) := by
  have e1 : X.env.scope = sc := e1
  subst e1 e2
  exact PS.mono (ps_aug nd (nm_nth h) (lc_loc hl) he ip_add hf) fun D σ H q => aug_of q
end
end L2
namespace L2
open PySem PySem.Spec PyProof.Rows
noncomputable def lookZ {κ : Type} [DecidableEq κ] : List κ → List Dt → κ → Option Dt
  | k' :: ks, d :: l, k => if k' = k then some d else lookZ ks l k
  | _, _, _ => none
theorem look_some {κ : Type} [DecidableEq κ] {K : PySem.W.Frag} {F : Hp} {k : κ} : ∀ {kvs : List (κ × V)} {l : List Dt} {d : Dt}, Reps K F l (kvs.map (·.2)) → lookZ (kvs.map (·.1)) l k = some d → ∃ v, valV kvs k = some v ∧ Rep K F d v
  | [], l, d, r, h => by cases l <;> cases h
  | p :: kvs, [], d, r, h => by cases h
  | p :: kvs, e :: l, d, r, h => by
    simp only [List.map_cons, Reps] at r
    obtain ⟨v, ws, hv, r1, r2⟩ := r
    cases hv
    simp only [List.map_cons, lookZ] at h
    by_cases hk : p.1 = k
    · rw [if_pos hk] at h
      cases h
      exact ⟨p.2, valV_pos hk, r1⟩
    · rw [if_neg hk] at h
      rw [valV_neg hk]
      exact look_some r2 h
theorem look_none {κ : Type} [DecidableEq κ] {K : PySem.W.Frag} {F : Hp} {k : κ} : ∀ {kvs : List (κ × V)} {l : List Dt}, Reps K F l (kvs.map (·.2)) → lookZ (kvs.map (·.1)) l k = none → valV kvs k = none
  | [], l, r, h => rfl
  | p :: kvs, [], r, h => by
    simp only [List.map_cons, Reps] at r
    cases r
  | p :: kvs, e :: l, r, h => by
    simp only [List.map_cons, Reps] at r
    obtain ⟨v, ws, hv, r1, r2⟩ := r
    cases hv
    simp only [List.map_cons, lookZ] at h
    by_cases hk : p.1 = k
    · rw [if_pos hk] at h
      cases h
    · rw [if_neg hk] at h
      rw [valV_neg hk]
      exact look_none r2 h
noncomputable def keyD : Dt → Option Key
  | .int i => some (.inl i)
  | .str x => some (.inr x)
  | _ => none
theorem keyD_of {K : PySem.W.Frag} {F H : Hp} {d : Dt} {v : V} {k : Key} (r : RepB K F H d v) (h : keyD d = some k) : v = kV k := by
  unfold keyD at h
  split at h <;> first | (cases h; done) | skip
  · cases h; exact r
  · cases h; exact r
noncomputable def gIxA : Dt → Dt → Option T
  | .dct ks l, k => (keyD k).bind fun k => (lookZ ks l k).map .leaf
  | x, y => gIx x y
section
variable {X : Cx} {o a b e c : Expr} {es : List Expr} {fa fb fo fe fk : De → Option Dt} {fs : De → Option (List Dt)} {pos apos cpos p : Pos} {x : Str} {sc : Scope} {i : Nat}
theorem do_ixA {k : Nat} (hr : Room k X.A) (ha : DB X a fa) (hb : DB X b fb) (hs : PlainIx b := by exact fun _ _ => rfl) (hn : NoSl b := by exact fun _ _ => rfl) : DO X (.Subscript a b pos) (d2 gIxA fa fb) :=
  PE.mono (PE.or (pe_ix ix_seq ha hb hs) (pe_dget (hu_of hr) ha hb hn)) fun σ H Q ⟨Φ, δ, F, t, hK, en, hf, k⟩ => by
    unfold d2 at hf
    obtain ⟨x, hx, hf⟩ := bS hf
    obtain ⟨y, hy, hf⟩ := bS hf
    unfold gIxA at hf
    split at hf
    · rename_i ks l _
      obtain ⟨kk, hk, hf⟩ := bS hf
      obtain ⟨d, hd, hf⟩ := mS hf
      cases hf
      refine .inr ⟨Φ, δ, F, _, hK, en, hx, fun v H1 F1 st rv => ⟨Φ, δ, F1, y, hK, en.step st, hy, fun v2 H2 F2 st2 rv2 => ?_⟩⟩
      obtain ⟨ad, kvs, rfl, h1, h2, h3⟩ := rv
      subst h2
      obtain ⟨w, hw, rw'⟩ := look_some h3 hd
      have := keyD_of rv2 hk
      subst this
      exact ⟨ad, w, rfl, .inl ⟨kvs, kk, st2.hh.rd h1, rfl, hw.symm⟩, (k.step (st.trans st2)).leaf.here st2.fh (rw'.same st2.ff)⟩
    · exact .inl (d2_of r_ix ⟨Φ, δ, F, t, hK, en, by unfold d2; rw [hx, hy]; exact hf, k⟩)
noncomputable def gInA (neg : Bool) : Dt → Dt → Option T
  | k, .dct ks l => (keyD k).map fun k => .leaf (.bl (if neg then !(lookZ ks l k).isSome else (lookZ ks l k).isSome))
  | x, y => gIn neg x y
theorem look_is {κ : Type} [DecidableEq κ] {K : PySem.W.Frag} {F : Hp} {k : κ} {kvs : List (κ × V)} {l : List Dt} (r : Reps K F l (kvs.map (·.2))) : (lookZ (kvs.map (·.1)) l k).isSome = (valV kvs k).isSome := by
  cases h : lookZ (kvs.map (·.1)) l k with
  | none => rw [look_none r h]; rfl
  | some d =>
    obtain ⟨v, e, _⟩ := look_some r h
    rw [e]
    rfl
theorem in_of {K : PySem.W.Frag} {σ : St} {H : Hp} {Q : VK} (h : tO K (d2 (gInA false) fa fb) σ H Q) : tOp (rInA K false) (tBd K fa) (tBd K fb) σ H Q ∨ tDIn (tBd K fa) (tBd K fb) σ H Q := by
  obtain ⟨Φ, δ, F, t, hK, en, hf, k⟩ := h
  unfold d2 at hf
  obtain ⟨x, hx, hf⟩ := bS hf
  obtain ⟨y, hy, hf⟩ := bS hf
  unfold gInA at hf
  split at hf
  · rename_i ks l
    obtain ⟨kk, hk, hf⟩ := mS hf
    cases hf
    refine .inr ⟨Φ, δ, F, x, hK, en, hx, fun v H1 F1 st rv => ⟨Φ, δ, F1, _, hK, en.step st, hy, fun v2 H2 F2 st2 rv2 => ?_⟩⟩
    obtain ⟨ad, kvs, rfl, h1, h2, h3⟩ := rv2
    subst h2
    have := keyD_of rv hk
    subst this
    refine ⟨ad, _, rfl, .inl ⟨kvs, kk, h1, rfl, rfl⟩, ?_⟩
    rw [← look_is h3]
    exact (k.step (st.trans st2)).bl st2.fh
  · exact .inl (d2_of (r_in false) ⟨Φ, δ, F, t, hK, en, by unfold d2; rw [hx, hy]; exact hf, k⟩)
theorem notin_of {K : PySem.W.Frag} {σ : St} {H : Hp} {Q : VK} (h : tO K (d2 (gInA true) fa fb) σ H Q) : tOp (rInA K true) (tBd K fa) (tBd K fb) σ H Q ∨ tDNotIn (tBd K fa) (tBd K fb) σ H Q := by
  obtain ⟨Φ, δ, F, t, hK, en, hf, k⟩ := h
  unfold d2 at hf
  obtain ⟨x, hx, hf⟩ := bS hf
  obtain ⟨y, hy, hf⟩ := bS hf
  unfold gInA at hf
  split at hf
  · rename_i ks l
    obtain ⟨kk, hk, hf⟩ := mS hf
    cases hf
    refine .inr ⟨Φ, δ, F, x, hK, en, hx, fun v H1 F1 st rv => ⟨Φ, δ, F1, _, hK, en.step st, hy, fun v2 H2 F2 st2 rv2 => ?_⟩⟩
    obtain ⟨ad, kvs, rfl, h1, h2, h3⟩ := rv2
    subst h2
    have := keyD_of rv hk
    subst this
    refine ⟨ad, _, rfl, .inl ⟨kvs, kk, h1, rfl, rfl⟩, ?_⟩
    rw [← look_is h3]
    exact (k.step (st.trans st2)).bl st2.fh
  · exact .inl (d2_of (r_in true) ⟨Φ, δ, F, t, hK, en, by unfold d2; rw [hx, hy]; exact hf, k⟩)
theorem do_in {k : Nat} (hr : Room k X.A) (ha : DB X a fa) (hb : DB X b fb) (hm : behindInMarks .In b = false := by with_unfolding_all rfl) : DO X (.Compare a [.In] [b] pos) (d2 (gInA false) fa fb) :=
  PE.mono (PE.or (pe_cmpR op_inA ha hb hm) (pe_cmp (pc_din (hu_of hr) ha hb) hm)) fun σ H Q h => in_of h
theorem PT.or {X : Cx} {e : Expr} {t t' : TT} (h : PT X e t) (h' : PT X e t') : PT X e (fun σ H Q => t σ H Q ∨ t' σ H Q) := fun pins s σ H Q I q => q.elim (h pins s σ H Q I) (h' pins s σ H Q I)
theorem tTr_o {K : PySem.W.Frag} {g : Dt → Dt → Option T} {σ : St} {H : Hp} {Q : Bool → Hp → Prop} (h : tTr K (tB2 g fa fb) σ H Q) : tO K (d2 g fa fb) σ H (fun v H' => ∃ c, v = .bl c ∧ Q c H') := by
  obtain ⟨Φ, δ, F, t, hK, en, hf, k⟩ := h
  unfold tB2 at hf
  obtain ⟨z, hz, hf⟩ := bS hf
  exact ⟨Φ, δ, F, z, hK, en, hz, fun v H' F' S st o hs => ⟨t, asB_own hf o, k H' F' st⟩⟩
theorem dt_in {k : Nat} (hr : Room k X.A) (ha : DB X a fa) (hb : DB X b fb) (hm : behindInMarks .In b = false := by with_unfolding_all rfl) : DT X (.Compare a [.In] [b] pos) (tB2 (gInA false) fa fb) :=
  PT.mono (PT.or (pt_cmpR op_inA ha hb hm) (pt_cmp (pc_din (hu_of hr) ha hb) hm)) fun σ H Q h => in_of (tTr_o h)
theorem dt_notin {k : Nat} (hr : Room k X.A) (ha : DB X a fa) (hb : DB X b fb) (hm : behindInMarks .NotIn b = false := by with_unfolding_all rfl) : DT X (.Compare a [.NotIn] [b] pos) (tB2 (gInA true) fa fb) :=
  PT.mono (PT.or (pt_cmpR op_notInA ha hb hm) (pt_cmp (pc_dnotin (hu_of hr) ha hb) hm)) fun σ H Q h => notin_of (tTr_o h)
noncomputable def vDnew : De → Option T := fun _ => some (.dct [])
theorem do_dnew : DO X (.Dict [] [] pos) vDnew := PE.mono pe_dnewK fun σ H Q ⟨Φ, δ, F, t, hK, en, hf, k⟩ => by
  cases hf
  intro p hp
  refine k _ _ F (fun b => b = p) (Step.made en.fh hp) ⟨p, [], rfl, rfl, upd_same, rfl, by simp [Reps]⟩ fun b z => ?_
  subst z
  exact ⟨en.fh.free hp, hp, _, upd_same⟩
noncomputable def putD {κ : Type} [DecidableEq κ] : List (κ × Dt) → κ → Dt → List (κ × Dt)
  | [], k, d => [(k, d)]
  | p :: l, k, d => if p.1 = k then (p.1, d) :: l else p :: putD l k d
noncomputable def sPut (i : Nat) (fk fe : De → Option Dt) : De → Option Out := fun δ => (fe δ).bind fun d => (fk δ).bind fun k => match δ[i]? with
  | some (some (.lst l)) => (asI k).bind fun n => (ixN l.length n).map fun j => .nx (δ.set i (some (.lst (l.set j d))))
  | some (some (.dct l)) => (keyD k).bind fun k => if l.length < sizeLine ∧ (l.map (·.1)).Nodup then some (.nx (δ.set i (some (.dct (putD l k d))))) else none
  | _ => none
theorem putK_eq {κ : Type} [DecidableEq κ] (k : κ) (v : V) : ∀ (kvs : List (κ × V)) (l : List (κ × Dt)) (d : Dt), (kvs.map (·.1)).Nodup → kvs.map (·.1) = l.map (·.1) → (putK kvs k v).map (·.1) = (putD l k d).map (·.1) ∧
    ∀ (K : PySem.W.Frag) (F : Hp), Rep K F d v → Reps K F (l.map (·.2)) (kvs.map (·.2)) → Reps K F ((putD l k d).map (·.2)) ((putK kvs k v).map (·.2)) := by
  have key : ∀ (kvs : List (κ × V)), (kvs.map (·.1)).Nodup → putK kvs k v = match kvs with | [] => [(k, v)] | p :: r => if p.1 = k then (p.1, v) :: r else p :: putK r k v := fun kvs hn => by
    cases kvs with
    | nil => rfl
    | cons p r =>
      dsimp only
      by_cases hp : p.1 = k
      · rw [if_pos hp]
        unfold putK
        rw [if_pos (by simp [hp])]
        simp only [List.map_cons, if_pos hp]
        congr 1
        have hk : ∀ q ∈ r, ¬ q.1 = k := fun q hq z => by
          have := (List.nodup_cons.mp hn).1
          exact this (show p.1 ∈ r.map (·.1) by rw [hp, ← z]; exact List.mem_map_of_mem hq)
        exact (List.map_congr_left fun q hq => if_neg (hk q hq)).trans (List.map_id' r)
      · rw [if_neg hp]
        unfold putK
        have e : (p :: r).any (fun kv => decide (kv.1 = k)) = r.any fun kv => decide (kv.1 = k) := by simp [hp]
        rw [e]
        split
        · simp only [List.map_cons, if_neg hp]
        · rfl
  intro kvs
  induction kvs with
  | nil =>
    intro l d hn he
    cases l with
    | nil => exact ⟨rfl, fun K F r _ => by simpa [putD, putK] using Reps.one r⟩
    | cons q l => cases he
  | cons p r ih =>
    intro l d hn he
    cases l with
    | nil => cases he
    | cons q l =>
      simp only [List.map_cons, List.cons.injEq] at he
      have hn' := (List.nodup_cons.mp hn).2
      rw [key _ hn]
      simp only [putD]
      rw [← he.1]
      by_cases hp : p.1 = k
      · rw [if_pos hp, if_pos hp]
        refine ⟨by simp [he.2], fun K F rd rs => ?_⟩
        simp only [List.map_cons, Reps] at rs ⊢
        obtain ⟨w, ws, hw, r1, r2⟩ := rs
        cases hw
        exact ⟨_, _, rfl, rd, r2⟩
      · rw [if_neg hp, if_neg hp]
        obtain ⟨i1, i2⟩ := ih l d hn' he.2
        refine ⟨by simp [he.1, i1], fun K F rd rs => ?_⟩
        simp only [List.map_cons, Reps] at rs ⊢
        obtain ⟨w, ws, hw, r1, r2⟩ := rs
        cases hw
        exact ⟨_, _, rfl, r1, i2 K F rd r2⟩
theorem PS.or {X : Cx} {e : Stmt} {t t' : TS} (h : PS X e t) (h' : PS X e t') : PS X e (fun σ H Q => t σ H Q ∨ t' σ H Q) := fun pins s σ H Q I q => q.elim (h pins s σ H Q I) (h' pins s σ H Q I)
theorem En.ownD {Φ : Fm} {δ : De} {σ : St} {F H : Hp} (en : En Φ δ σ F H) {l : List (Key × Dt)} (h : δ[i]? = some (some (.dct l))) : ∃ a kvs, σ[i]? = some (some (.ref a)) ∧ H a = some (.dK kvs) ∧ kvs.map (·.1) = l.map (·.1) ∧ Reps Φ.K F (l.map (·.2)) (kvs.map (·.2)) := by
  obtain ⟨v, hv⟩ := en.has i _ h
  obtain ⟨S, s⟩ := en.sep
  obtain ⟨a, vs, rfl, _, h1, h2, h3⟩ := s.own i _ v (liveS_of h hv)
  exact ⟨a, vs, hv, h1, h2, h3⟩
theorem ds_put {k : Nat} {ox ik : Expr} (hr : Room k X.A) (hx : PE X ox (tVar i)) (hk : DB X ik fk) (he : DL X e fe)
    (hs : swapsWith e (some (.Subscript ox ik apos)) pos.line X.env = pure false := by rfl)
    (hs1 : swapsWithSole [.Subscript ox ik apos] e pos.line X.env = pure false := by rfl) (hw : swappedStores [.Subscript ox ik apos] e X.env = pure none := by rfl)
    (h1 : (assignEach [.Subscript ox ik apos] X.env).map (·.2) = [assign (.Subscript ox ik apos) X.env] := by rfl)
    (ha : ∀ v, assign (.Subscript ox ik apos) X.env v = (do
      let ov ← holding [v] (eval ox X.env)
      let iv ← holding [v, ov] (eval ik X.env)
      standAt apos
      holding [v, ov, iv] (setItem ov iv v)
      release [v, ov, iv] []) := by intro _; rfl) : DS1 X (.Assign [.Subscript ox ik apos] e pos) (sPut i fk fe) :=
  PS.mono (PS.or (ps_asg he (pg_sub hx hk set_list ha) hs1 hw h1) (ps_dput (hu_of hr) hx hk he hs)) fun D σ H ⟨Φ, δ, F, ot, hK, en, hg, k⟩ => by
    unfold sPut at hg
    obtain ⟨d, hd, hg⟩ := bS hg
    obtain ⟨kd, hkd, hg⟩ := bS hg
    split at hg <;> first | (cases hg; done) | skip
    · rename_i l hl
      obtain ⟨n, hn, hg⟩ := bS hg
      obtain ⟨j, hj, hg⟩ := mS hg
      cases hg
      refine .inl ⟨Φ, δ, F, d, hK, en, hd, fun v H1 F1 st rv => ?_⟩
      have en1 := en.step st
      obtain ⟨a, vs, hv, h1, h2⟩ := en1.ownL hl
      refine ⟨.ref a, hv, Φ, δ, F1, kd, hK, en1, hkd, fun w H2 F2 st2 rw' => ?_⟩
      have en2 := en1.step st2
      refine ⟨a, vs, n, j, rfl, repB_int hn rw', st2.hh _ _ h1, by rw [h2.length]; exact hj, ?_⟩
      exact k σ F2 _ (en2.poke hl hv (fun d z => nomatch z) fun S sa => ⟨a, _, rfl, sa, upd_same, Reps.set (hK ▸ rv.same st2.ff) j (h2.same st2.ff)⟩)
    · rename_i l hl
      obtain ⟨kk, hkk, hg⟩ := bS hg
      split at hg <;> first | (cases hg; done) | skip
      rename_i hc
      cases hg
      refine .inr ⟨Φ, δ, F, d, hK, en, hd, fun v H1 F1 st rv => ?_⟩
      have en1 := en.step st
      obtain ⟨a, kvs, hv, h1, h2, h3⟩ := en1.ownD hl
      refine ⟨.ref a, hv, Φ, δ, F1, kd, hK, en1, hkd, fun w H2 F2 st2 rw' => ?_⟩
      have en2 := en1.step st2
      have := keyD_of rw' hkk
      subst this
      have hlen : kvs.length = l.length := by simpa using congrArg List.length h2
      refine ⟨a, _, rfl, .inl ⟨kvs, kk, st2.hh _ _ h1, rfl, by rw [hlen]; exact hc.1, rfl⟩, ?_⟩
      obtain ⟨p1, p2⟩ := putK_eq kk v kvs l d (by rw [h2]; exact hc.2) h2
      exact k σ F2 _ (en2.poke hl hv (fun d z => nomatch z) fun S sa => ⟨a, _, rfl, sa, upd_same, p1, p2 _ _ (hK ▸ rv.same st2.ff) (h3.same st2.ff)⟩)
noncomputable def gStrA : List Dt → Option T
  | [.str x] => some (.leaf (.str x))
  | ds => gStr ds
theorem call_str_str : CallR X (.type "str") (fun xs H Q => ∃ x, xs = [.str x] ∧ Q (.str x) H) := by
  intro pins s σ H xs us Q I r h
  obtain ⟨y, rfl, q⟩ := h
  obtain ⟨u, rfl, ru⟩ := vals1 r
  obtain ⟨t, rfl⟩ := ru
  exact PySem.P.str_of_str ⟨.str y, H, I, ⟨_, rfl⟩, q⟩
noncomputable abbrev rStrA : List V → Hp → VK → Prop := fun xs H Q => (∃ x, xs = [.str x] ∧ Q (.str x) H) ∨ ∃ i, xs = [.int i] ∧ i.natAbs.log2 < 1920 ∧ Q (.str (toString i)) H
theorem call_strA : CallR X (.type "str") rStrA := CallR.or call_str_str call_str_int
theorem c_strA {K : PySem.W.Frag} : CRD K rStrA gStrA := by
  intro F H ds vs Q t fh r hg k
  unfold gStrA at hg
  split at hg
  · cases hg
    obtain ⟨v, rfl, rv⟩ := repBs1 r
    cases rv
    exact .inl ⟨_, rfl, k.str fh⟩
  · exact .inr (c_str F H ds vs Q t fh r hg k)
noncomputable def sNever : De → Option Out := fun _ => none
theorem ds_never {st : Stmt} : DS1 X st sNever := fun pins s σ H D I h => by
  obtain ⟨Φ, δ, F, o, hK, en, hg, k⟩ := h
  cases hg
end
end L2
namespace L2
open PySem PySem.Spec PyProof.Rows
section
variable {prog : Program} {w : World} {A : Around} {E : Value → Shared → Prop} {s : Shared} {I t : Addr} {j : Nat} {vs : Array Value}
theorem nextT_item {y : Value} {Q : Value → Shared → Prop} (hI : s.heap.IsTupleIter I t j) (hv : s.heap.IsTuple t vs) (hy : vs[j]? = some y)
    (q : ∀ h', h'.IsTupleIter I t (j + 1) → Heap.SameBut I s.heap h' → Q y { s with heap := h' }) : wpAny (model prog w) A (Builtin.SmallTypes.nextOf (.ref I)) Q E s := by
  obtain ⟨oi, hoi, hci, hdi⟩ := id hI
  obtain ⟨ot, hot, _, nt, hdt⟩ := hv
  unfold Builtin.SmallTypes.nextOf
  refine wpAny_bind (wpAny_callSpecial?_slot (name := Str.ofString "__next__") hI.typeIs F.slot_tuple_iterator_next (wpAny_call_entry F.slot_tuple_iterator_next hI.typeIs F.entry_tuple_iterator_next ?_ (F.args_tuple_iterator_next_1 _)))
  show wpAny _ _ (field (.ref I) 0 >>= _) _ _ s
  refine wpAny_bind (wpAny_field hoi hdi (x := .ref t) rfl ?_)
  show wpAny _ _ (if (Value.ref t == Value.none) = true then _ else _) _ _ s
  rw [if_neg (show ¬ (Value.ref t == Value.none) = true by exact Bool.false_ne_true)]
  show wpAny _ _ (field (.ref I) 1 >>= _) _ _ s
  refine wpAny_bind (wpAny_field hoi hdi (x := .int j 0) rfl ?_)
  show wpAny _ _ (seqItems? (.ref t) >>= _) _ _ s
  refine wpAny_bind (wpAny_seqItems hot hdt ?_)
  simp only [Int.toNat_natCast, hy]
  refine wpAny_bind (wpAny_setField hoi hdi (by simp) (wpAny_pure ⟨y, rfl, wpAny_pure (q _ ?_ (Heap.SameBut.update ..))⟩))
  exact ⟨_, Heap.get?_update_self _ hoi (Obj.isFreed_of_fields (Obj.data_mapFields hdi _)), (Obj.cls_mapFields ..).trans hci, by rw [Obj.data_mapFields hdi]; simp [rawInt]⟩
theorem nextT_end {Q : Value → Shared → Prop} (hh : A.handled = none) (hI : s.heap.IsTupleIter I t j) (hv : s.heap.IsTuple t vs) (hy : vs[j]? = none)
    (q : ∀ h' e, Heap.ExtBut I s.heap h' → (∃ o, h'.get? e = some o ∧ o.cls = .type "StopIteration") → E (.ref e) { s with heap := h' }) : wpAny (model prog w) A (Builtin.SmallTypes.nextOf (.ref I)) Q E s := by
  obtain ⟨oi, hoi, hci, hdi⟩ := id hI
  obtain ⟨ot, hot, _, nt, hdt⟩ := hv
  unfold Builtin.SmallTypes.nextOf
  refine wpAny_bind (wpAny_callSpecial?_slot (name := Str.ofString "__next__") hI.typeIs F.slot_tuple_iterator_next (wpAny_call_entry F.slot_tuple_iterator_next hI.typeIs F.entry_tuple_iterator_next ?_ (F.args_tuple_iterator_next_1 _)))
  show wpAny _ _ (field (.ref I) 0 >>= _) _ _ s
  refine wpAny_bind (wpAny_field hoi hdi (x := .ref t) rfl ?_)
  show wpAny _ _ (if (Value.ref t == Value.none) = true then _ else _) _ _ s
  rw [if_neg (show ¬ (Value.ref t == Value.none) = true by exact Bool.false_ne_true)]
  show wpAny _ _ (field (.ref I) 1 >>= _) _ _ s
  refine wpAny_bind (wpAny_field hoi hdi (x := .int j 0) rfl ?_)
  show wpAny _ _ (seqItems? (.ref t) >>= _) _ _ s
  refine wpAny_bind (wpAny_seqItems hot hdt ?_)
  simp only [Int.toNat_natCast, hy]
  refine wpAny_bind (wpAny_rule (wpAny_bind (wpAny_setField hoi hdi (by simp) ?_)))
  show wpAny _ _ (newExc (.type "StopIteration") [] >>= _) _ _ _
  refine wpAny_bind ?_
  simp only [newExc, newTuple]
  refine wpAny_bind (wpAny_newObj_type ?_ (by first | size_fits | decide))
  refine wpAny_bind (m := firstArgMember _ _) (wpAny_of_eq (a := Value.none) (by first | rfl | (simp only [firstArgMember] <;> rfl)) ?_)
  refine wpAny_newObj_type ?_ (by first | size_fits | decide)
  simp only [raiseNew]
  refine wpAny_bind (wpAny_handled ?_)
  first | rw [hh] | rw [show A.in1.handled = none by exact hh]
  refine wpAny_bind (wpAny_pure (wpAny_throw ?_))
  exact q _ _ (((Heap.SameBut.update ..).extBut.push _).push _) ⟨_, Heap.get?_push_size _ rfl, rfl⟩
end
theorem draws_tuple {prog : Program} {w : World} {A : Around} (hh : A.handled = none) (I t : Addr) (hne : t ≠ I) (vs : Array Value) : Draws prog w A I [I, t] vs.size (fun i v => vs[i]? = some v) (fun i h => h.IsTupleIter I t i ∧ h.IsTuple t vs) where
  live := fun _ _ st => let ⟨o, ho, _⟩ := st.1; ⟨o, ho⟩
  frame := fun _ _ _ st hk => ⟨let ⟨o, ho, r⟩ := st.1; ⟨o, hk I (by simp) o ho, r⟩, let ⟨o, ho, r⟩ := st.2; ⟨o, hk t (by simp) o ho, r⟩⟩
  item := fun i s Q E hi st hQ => nextT_item st.1 st.2 (y := vs[i]) (by simp [hi]) fun h' a b => hQ _ h' s.toks (by simp [hi]) ⟨a, let ⟨o, ho, r⟩ := st.2; ⟨o, b.extBut _ _ hne ho, r⟩⟩ b
  done := fun s Q E st hE => nextT_end hh st.1 st.2 (by simp) hE
noncomputable def SqB (b : Bool) (K : PySem.W.Frag) (H : Hp) (a : Addr) (xs : List V) : Prop := match b with
  | true => SqL K H a xs
  | false => SqT K H a xs
noncomputable def ItB (b : Bool) (h : Heap) (I a : Addr) (i : Nat) : Prop := match b with
  | true => h.IsListIter I a i
  | false => h.IsTupleIter I a i
noncomputable def CoB (b : Bool) (h : Heap) (a : Addr) (vs : Array Value) : Prop := match b with
  | true => h.IsList a vs
  | false => h.IsTuple a vs
theorem ItB.obj {b : Bool} {h : Heap} {I a : Addr} {i : Nat} (x : ItB b h I a i) : ∃ o, h.get? I = some o ∧ (o.cls = .type "list_iterator" ∨ o.cls = .type "tuple_iterator") ∧ ∀ v, o.data ≠ .cell v := by
  cases b with
  | true => obtain ⟨o, e, c, d⟩ := x; exact ⟨o, e, .inl c, fun v z => by rw [d] at z; cases z⟩
  | false => obtain ⟨o, e, c, d⟩ := x; exact ⟨o, e, .inr c, fun v z => by rw [d] at z; cases z⟩
theorem ItB.at {b : Bool} {h h' : Heap} {I a : Addr} {i : Nat} (x : ItB b h I a i) (k : ∀ o, h.get? I = some o → h'.get? I = some o) : ItB b h' I a i := by
  cases b with
  | true => obtain ⟨o, e, r⟩ := x; exact ⟨o, k o e, r⟩
  | false => obtain ⟨o, e, r⟩ := x; exact ⟨o, k o e, r⟩
theorem CoB.obj {b : Bool} {h : Heap} {a : Addr} {vs : Array Value} (x : CoB b h a vs) : ∃ o, h.get? a = some o ∧ (o.cls = .type "list" ∨ o.cls = .type "tuple") := by
  cases b with
  | true => obtain ⟨o, e, c, _⟩ := x; exact ⟨o, e, .inl c⟩
  | false => obtain ⟨o, e, c, _⟩ := x; exact ⟨o, e, .inr c⟩
theorem ty_ne {x y : String} (h : x ≠ y) : Value.type x ≠ Value.type y := fun z => h (by cases z; rfl)
theorem apartB {b c : Bool} {h : Heap} {I a l : Addr} {i : Nat} {vs : Array Value} (x : ItB b h I a i) (y : CoB c h l vs) : l ≠ I := by
  obtain ⟨o, e1, c1, _⟩ := x.obj
  obtain ⟨o', e2, c2⟩ := y.obj
  rintro rfl
  rw [e1] at e2
  cases e2
  rcases c1 with c1 | c1 <;> rcases c2 with c2 | c2 <;> rw [c1] at c2 <;> exact absurd c2 (ty_ne (by decide))
section
variable {X : Cx} {pins : List (Addr × Obj)} {σ : St} {H : Hp} {s : Shared} {a I : Addr} {xs : List V} {b : Bool}
theorem Inv.seqB (J : Inv X pins σ H s) (h : SqB b X.K H a xs) : ∃ its : List Value, Vals xs its ∧ CoB b s.heap a its.toArray := by
  cases b with
  | true => obtain ⟨its, r, p, _⟩ := J.list h; exact ⟨its, r, p.isList⟩
  | false => obtain ⟨its, r, p, _⟩ := J.tuple h; exact ⟨its, r, p⟩
theorem Inv.seqB_inj {ys : List V} (J : Inv X pins σ H s) (h : SqB b X.K H a xs) (h' : SqB b X.K H a ys) : xs = ys := by
  cases b with
  | true => exact J.list_inj h h'
  | false => exact J.tuple_inj h h'
theorem drawsB {prog : Program} {w : World} {A : Around} (hh : A.handled = none) (hne : a ≠ I) (vs : Array Value) : Draws prog w A I [I, a] vs.size (fun i v => vs[i]? = some v) (fun i h => ItB b h I a i ∧ CoB b h a vs) := by
  cases b with
  | true => exact Draws.list hh I a hne vs
  | false => exact draws_tuple hh I a hne vs
theorem Inv.turnedL {h' : Heap} {t' : Nat} {fp : List Addr} (J : Inv X pins σ H s) (k : ∀ b o, b ∉ fp → s.heap.get? b = some o → h'.get? b = some o) (hf : ∀ b ∈ fp, FpOk X pins H b) : Inv X pins σ H { s with heap := h', toks := t' } := by
  have nit : ∀ b u, H b = some u → b ∉ fp := fun b u e z => by rw [(hf b z).1] at e; cases e
  refine J.step (g' := s.gens) (d' := s.drawn) (ch := fp) (fun b hb => ?_) (fun b o _ _ hc e _ => k b o hc e) (fun b o _ _ hc e _ => ⟨o.slots, k b o hc e⟩) (fun _ _ _ _ n => n)
    (fun b o hc e => ⟨o, k b o hc e⟩) (fun _ _ e => e) (fun _ _ _ e => e) (fun b ps e => ⟨#[], by rw [e]; simp⟩) (fun m hm => ?_) (fun b u e => ?_) J.bare
  · exact ⟨(hf b hb).2.2.2.1, (hf b hb).2.1, (hf b hb).2.2.2.2.1, (hf b hb).2.2.2.2.2⟩
  · obtain ⟨o, es, ep, ho, r⟩ := hm
    exact ⟨o, es, ep, k _ o (fun z => (hf _ z).2.1 rfl) ho, r⟩
  · refine (J.hok b u e).stay (fun c v hc q => k c v ?_ q) (fun _ q => q) fun _ _ q => q
    rcases hc with z | z
    · rw [z]; exact nit b u e
    · exact nit c _ z
end
section
variable {X : Cx} {pins : List (Addr × Obj)} {σ : St} {H : Hp} {s : Shared}
theorem Inv.turnedT {h' : Heap} {t' : Nat} {fp : List Addr} {t : Addr} {u : HO} (J : Inv X pins σ H s) (k : ∀ b o, b ∉ fp → s.heap.get? b = some o → h'.get? b = some o) (hf : ∀ b ∈ fp, FpOk X pins H b) (ht : s.heap.objs.size ≤ t) (new : ObjOk X.prog X.w (upd H t u) h' t u) :
    Inv X pins σ (upd H t u) { s with heap := h', toks := t' } := by
  have nit : ∀ b u, H b = some u → b ∉ fp := fun b u e z => by rw [(hf b z).1] at e; cases e
  have hn : H t = none := J.hok.fresh ht
  have net : ∀ b v, H b = some v → b ≠ t := fun b v e => ne_of_none e hn
  have nlt : ∀ b o, s.heap.get? b = some o → b ≠ t := fun b o e z => by subst z; exact absurd (Heap.lt_size e) (Nat.not_lt.mpr ht)
  refine J.step (g' := s.gens) (d' := s.drawn) (ch := fp) (fun b hb => ?_) (fun b o _ _ hc e _ => k b o hc e) (fun b o _ _ hc e _ => ⟨o.slots, k b o hc e⟩) (fun b o _ e n => by rw [upd_ne (nlt b o e)]; exact n)
    (fun b o hc e => ⟨o, k b o hc e⟩) (fun b xs e => by rw [upd_ne (net b _ e)]; exact e) (fun b o v e => by rw [upd_ne (net b _ e)]; exact e) (fun b ps e => ⟨#[], by rw [upd_ne (net b _ e), e]; simp⟩) (fun m hm => ?_) (fun b v e => ?_) J.bare
  · exact ⟨(hf b hb).2.2.2.1, (hf b hb).2.1, (hf b hb).2.2.2.2.1, (hf b hb).2.2.2.2.2⟩
  · obtain ⟨o, es, ep, ho, r⟩ := hm
    exact ⟨o, es, ep, k _ o (fun z => (hf _ z).2.1 rfl) ho, r⟩
  · by_cases hb : b = t
    · subst hb
      rw [upd_same] at e
      cases e
      exact new
    · rw [upd_ne hb] at e
      refine (J.hok b v e).stay (fun c ob hc q => k c ob ?_ q) (fun c q => by rw [upd_ne (net c _ q)]; exact q) fun c ys q => by rw [upd_ne (net c _ q)]; exact q
      rcases hc with z | z
      · rw [z]; exact nit b v e
      · exact nit c _ z
end
noncomputable def Ite (b : Bool) (K : PySem.W.Frag) (a : Addr) : It :=
  ⟨fun i H => ∃ xs x, SqB b K H a xs ∧ xs[i]? = some x, fun i H x H' => ∃ t v, H t = none ∧ x = .ref t ∧ H' = upd H t (.tup [.int i, v]) ∧ ∀ xs, SqB b K H a xs → xs[i]? = some v, fun i H => ∃ xs, SqB b K H a xs ∧ xs.length = i⟩
theorem turn_enum {P : Program} {w : World} {K : PySem.W.Frag} {elts : List Expr} {n : Nat} {pos : Pos} (b : Bool) (a e I : Addr) (hne : e ≠ I) :
    Turn P w K (.Tuple elts n pos) (Ite b K a) [e, I] e (fun i h => (∃ old, IsEnum h e I i old) ∧ ItB b h I a i) where
  mem := by simp
  obj := fun i h st c hc => by
    obtain ⟨⟨old, st1⟩, st2⟩ := st
    simp only [List.mem_cons, List.not_mem_nil, or_false] at hc
    rcases hc with rfl | rfl
    · exact ⟨_, st1, fun v z => nomatch z⟩
    · obtain ⟨o, q, _, d⟩ := st2.obj
      exact ⟨o, q, d⟩
  keep := fun i h h' st k => by
    obtain ⟨⟨old, st1⟩, st2⟩ := st
    exact ⟨⟨old, k e (by simp) _ st1⟩, st2.at fun o q => k I (by simp) o q⟩
  item := by
    intro X hP hw hK hc i pins s σ H E J hf st hg
    subst hP hw hK
    obtain ⟨⟨old, st1⟩, st2⟩ := st
    obtain ⟨xs, x, hq, hx⟩ := hg
    obtain ⟨its, rv, co⟩ := J.seqB hq
    obtain ⟨u, hu, ru⟩ := rv.get hx
    have hi : i < its.toArray.size := by simpa using (List.getElem?_eq_some_iff.mp hu).1
    have hae : e ∉ [I, a] := by
      simp only [List.mem_cons, List.not_mem_nil, or_false, not_or]
      refine ⟨hne, fun z => ?_⟩
      obtain ⟨o, q, c⟩ := co.obj
      rw [← z, st1] at q
      cases q
      rcases c with c | c <;> exact absurd c (ty_ne (by decide))
    refine wpAny_pyNext_enum_itemD (drawsB (A := X.A.in1) (b := b) (I := I) (a := a) (show X.A.in1.handled = none from J.ok.hd hc) (apartB st2 co) its.toArray) st1 ⟨st2, co⟩ hi hne hae fun y h1 tk hy ho hs1 hT hsz hk => ⟨_, rfl, ?_⟩
    have ey : y = u := by
      rw [show its.toArray[i]? = its[i]? by simp, hu] at hy
      exact (Option.some.inj hy).symm
    subst ey
    refine wpAny_letOwnedTupleGo_enum ho fun h2 he2 sb2 => ?_
    have kk : ∀ c o, c ∉ [e, I] → s.heap.get? c = some o → h2.get? c = some o := fun c o hc' q => by
      simp only [List.mem_cons, List.not_mem_nil, or_false, not_or] at hc'
      exact (sb2.2 c hc'.1).trans (hk c o hc'.1 hc'.2 q)
    have lt : ∀ c ∈ [e, I], c < s.heap.objs.size := fun c hc' => by
      simp only [List.mem_cons, List.not_mem_nil, or_false] at hc'
      rcases hc' with rfl | rfl
      · exact Heap.lt_size st1
      · obtain ⟨o, q, _⟩ := st2.obj
        exact Heap.lt_size q
    -- first the records, then the pair
    have hT2 : h2.get? s.heap.objs.size = some { cls := .type "tuple", data := .seq #[.int i tk, y] } := (sb2.2 _ (fun z => Nat.lt_irrefl _ (z ▸ lt e (by simp)))).trans hT
    have J2 : Inv X pins σ (upd H s.heap.objs.size (.tup [.int i, x])) { s with heap := h2, toks := tk + 1 } := by
      refine J.turnedT kk hf (Nat.le_refl _) ⟨by show 2 ≤ sizeLine; decide, [.int i tk, y], .cons ⟨_, rfl⟩ (.cons ru .nil), ?_⟩
      exact ⟨_, hT2, rfl, _, rfl⟩
    refine ⟨.ref s.heap.objs.size, _, J2, rfl, ⟨_, x, J.hok.fresh (Nat.le_refl _), rfl, rfl, fun ys hy => by rw [J.seqB_inj hy hq]; exact hx⟩, ⟨⟨_, by simpa using he2⟩, hs1.1.at fun o q => (sb2.2 I (Ne.symm hne)).trans q⟩, fun c hc' => ?_⟩
    rw [upd_ne (Nat.ne_of_lt (lt c hc'))]
    exact (hf c hc').1
  done := by
    intro X hP hw hK hc i pins s σ H E J hf st hg
    subst hP hw hK
    obtain ⟨⟨old, st1⟩, st2⟩ := st
    obtain ⟨xs, hq, hx⟩ := hg
    obtain ⟨its, rv, co⟩ := J.seqB hq
    have hi : i = its.toArray.size := by rw [← hx]; simpa using rv.length
    refine wpAny_pyNext_enum_endD (drawsB (A := X.A.in1) (b := b) (I := I) (a := a) (show X.A.in1.handled = none from J.ok.hd hc) (apartB st2 co) its.toArray) st1 (show ItB b s.heap I a its.toArray.size ∧ CoB b s.heap a its.toArray from ⟨hi ▸ st2, co⟩) fun h' eb => ⟨rfl, ?_⟩
    exact J.turnedL (t' := s.toks) (fun c o hc' q => eb c o (fun z => hc' (by simp [z])) q) hf
  self := fun A i s Q E st h => by
    obtain ⟨⟨old, st1⟩, st2⟩ := st
    exact wpAny_pyIter_enum st1 h
theorem meets_enumT (t : Addr) (vs : Array Value) (n : Nat) (dd : Option Addr) (sl : Array (Option Value)) :
    Meets (Builtin.«enumerate.__new__» ⟨[.type "enumerate", .ref t], []⟩) (fun _ R s => s.heap.get? t = some { cls := .type "tuple", dict := dd, data := .seq vs n, slots := sl } ∧
      R (.ok (.ret (.ref (s.heap.push { cls := .type "tuple_iterator", data := .fields #[.ref t, .int 0 0] }).objs.size)))
        { s with heap := (s.heap.push { cls := .type "tuple_iterator", data := .fields #[.ref t, .int 0 0] }).push { cls := .type "enumerate", data := .fields #[.none, .bool false, .ref s.heap.objs.size, rawInt 0, .none, .none] } }) :=
  .of_wp fun prog w A R s h => by
    obtain ⟨hp, g, d, tk, os⟩ := s
    obtain ⟨ht, h⟩ := h
    have hsub := sub_enumerate
    have hT : Heap.IsTuple (Shared.heap ⟨hp, g, d, tk, os⟩) t vs := ⟨_, ht, rfl, n, rfl⟩
    wp_walk using AutoSeq1.wpAny_loadPart' ht
    refine wpAny_stack_any fun st => wpAny_pure ?_
    split
    · rename_i c _ _ _ _ _
      cases (c == Value.type "enumerate") <;> (wp_walk using AutoSeq1.wpAny_loadPart' ht, wpAny_pyIter_tuple hT) <;> exact ⟨_, rfl, h⟩
    · (wp_walk using AutoSeq1.wpAny_loadPart' ht, wpAny_pyIter_tuple hT) <;> exact ⟨_, rfl, h⟩
section
variable {prog : Program} {w : World} {A : Around} {E : Value → Shared → Prop} {s : Shared}
theorem call_enumT {t : Addr} {vs : Array Value} {Q : Value → Shared → Prop} (hT : s.heap.IsTuple t vs)
    (h : ∀ h', IsEnum h' (s.heap.objs.size + 1) s.heap.objs.size 0 .none → h'.IsTupleIter s.heap.objs.size t 0 → h'.objs.size = s.heap.objs.size + 2 →
      (∀ c u, s.heap.get? c = some u → h'.get? c = some u) → Q (.ref (s.heap.objs.size + 1)) { s with heap := h' }) :
    wpAny (model prog w) A (call (.type "enumerate") [.ref t]) Q E s := by
  obtain ⟨⟨c, dct, dt, sl⟩, hl, hc, n, hd⟩ := hT
  have hc : c = .type "tuple" := hc
  have hd : dt = .seq vs n := hd
  subst hc hd
  refine callType_new F.called_enumerate (by decide) (F.typeCall_enumerate_1 _) (F.newCall_enumerate_1 _) (fun obj => F.args_object_init_2 obj _) F.entry_enumerate_new (meets_enumT t vs n dct sl) ⟨hl, ?_⟩
  have hz : (s.heap.push { cls := .type "tuple_iterator", data := .fields #[.ref t, .int 0 0] }).objs.size = s.heap.objs.size + 1 := Heap.size_push ..
  have hz2 : ((s.heap.push { cls := .type "tuple_iterator", data := .fields #[.ref t, .int 0 0] }).push { cls := .type "enumerate", data := .fields #[.none, .bool false, .ref s.heap.objs.size, rawInt 0, .none, .none] }).objs.size = s.heap.objs.size + 2 := by rw [Heap.size_push, hz]
  rw [hz]
  have hen := Heap.get?_push_size (s.heap.push { cls := .type "tuple_iterator", data := .fields #[.ref t, .int 0 0] }) (o := { cls := .type "enumerate", data := .fields #[.none, .bool false, .ref s.heap.objs.size, rawInt 0, .none, .none] }) rfl
  rw [hz] at hen
  exact ⟨⟨_, hen, rfl⟩, h _ hen ⟨_, Heap.get?_push_of_some _ (Heap.get?_push_size _ rfl), rfl, rfl⟩ hz2 fun c u z => Heap.get?_push_of_some _ (Heap.get?_push_of_some _ z)⟩
theorem call_enumB {b : Bool} {t : Addr} {vs : Array Value} {Q : Value → Shared → Prop} (hT : CoB b s.heap t vs)
    (h : ∀ h', IsEnum h' (s.heap.objs.size + 1) s.heap.objs.size 0 .none → ItB b h' s.heap.objs.size t 0 → h'.objs.size = s.heap.objs.size + 2 →
      (∀ c u, s.heap.get? c = some u → h'.get? c = some u) → Q (.ref (s.heap.objs.size + 1)) { s with heap := h' }) :
    wpAny (model prog w) A (call (.type "enumerate") [.ref t]) Q E s := by
  cases b with
  | true => exact call_enumerate_list hT h
  | false => exact call_enumT hT h
end
section
variable {X : Cx} {x : Expr} {p pos tpos : Pos} {sc : Scope} {fs : De → Option (List Dt)} {elts : List Expr} {n : Nat}
noncomputable def iEnum (K : PySem.W.Frag) (ta : TA) : TI := fun σ H R => ta σ H fun vs H1 => ∃ b a xs, vs = [.ref a] ∧ SqB b K H1 a xs ∧ R (Ite b K a) H1
theorem pi_enum {ta : TA} (h : glOk sc "enumerate" = true) (hm : X.mg "enumerate" = none) (ha : PA X [x] ta) (e1 : ScIs X sc := by rfl) (hs : starEach [x] X.env = [(false, eval x X.env)] := by rfl) :
    PI X (.Tuple elts n tpos) (.Call (.Name "enumerate" p) [x] [] pos) (iEnum X.K ta) := by
  intro pins s σ H R I h'
  refine Call_ (ld_blt I (glD h e1) hm bt_enumerate (PyProof.Rows.callWith_type1 (thn (ha pos pins s σ H _ I h') fun us s1 ⟨vs, H1, I1, r1, q1⟩ => ?_) hs rfl))
  obtain ⟨b, a, xs, rfl, hq, q⟩ := q1
  obtain ⟨u, rfl, ru⟩ := vals1 r1
  cases ru
  obtain ⟨its, rv, co⟩ := I1.seqB hq
  refine call_enumB co fun h2 he hi hz hk => wpAny_pyIter_enum he ?_
  have I2 : Inv X pins σ H1 { s1 with heap := h2 } := I1.kept (t' := s1.toks) hk
  refine ⟨s1.heap.objs.size + 1, [s1.heap.objs.size + 1, s1.heap.objs.size], _, _, H1, rfl, I2, turn_enum b a _ _ (Nat.ne_of_gt (Nat.lt_succ_self _)), ⟨⟨_, he⟩, hi⟩, fun c hc => ?_, q⟩
  have hge : s1.heap.objs.size ≤ c := by
    simp only [List.mem_cons, List.not_mem_nil, or_false] at hc
    rcases hc with rfl | rfl
    · exact Nat.le_succ _
    · exact Nat.le_refl _
  exact I1.fpOk hge (I1.hok.fresh hge)
noncomputable def enumL (i : Nat) : List Dt → List Dt
  | [] => []
  | d :: r => .tup [.int i, d] :: enumL (i + 1) r
theorem enumL_len : ∀ (l : List Dt) (i : Nat), (enumL i l).length = l.length
  | [], _ => rfl
  | _ :: r, i => by simp [enumL, enumL_len r]
theorem enumL_get : ∀ (l : List Dt) (i k : Nat), (enumL i l)[k]? = l[k]?.map fun d => .tup [.int ((i + k : Nat) : Int), d]
  | [], i, k => by simp [enumL]
  | d :: r, i, 0 => by simp [enumL]
  | d :: r, i, k + 1 => by simp [enumL, enumL_get r, Nat.add_assoc, Nat.add_comm 1]
noncomputable def enumD : List Dt → Option (List Dt)
  | [.lst l] => some (enumL 0 l)
  | [.tup l] => some (enumL 0 l)
  | _ => none
theorem rep_pair {K : PySem.W.Frag} {F : Hp} {d e : Dt} {v w : V} {t : Addr} (h : F t = some (.tup [v, w])) (r : Rep K F d v) (r' : Rep K F e w) : Rep K F (.tup [d, e]) (.ref t) := by
  simp only [Rep, Reps]
  exact ⟨t, _, rfl, SqT.of h, v, [w], rfl, r, w, [], rfl, r', rfl⟩
theorem walk_enum {K : PySem.W.Frag} {F : Hp} {b : Bool} {a : Addr} {xs : List V} {l : List Dt} (r : Reps K F l xs) : WalkD K F (Ite b K a) (enumL 0 l) (fun H => SqB b K H a xs) := fun i H F2 hok fh ff => by
  have hl := r.length
  rw [enumL_len]
  refine ⟨fun h => ⟨xs, xs[i], hok, by simp [show i < xs.length by omega]⟩, fun h => ⟨xs, hok, by omega⟩, fun x H' hi hy => ?_⟩
  obtain ⟨t, v, ht, rfl, rfl, hv⟩ := hy
  have hx := hv xs hok
  obtain ⟨d, hd, rd⟩ := r.same_get hx
  refine ⟨_, upd F2 t (.tup [.int i, v]), ?_, Step.new fh ht, rep_pair upd_same rep_int ((rd.same ff).same (Same.upd (fh.free ht)))⟩
  rw [enumL_get, hd]
  simp
theorem di_enumerate (h : glOk sc "enumerate" = true) (hm : X.mg "enumerate" = none) (ha : DA X [x] fs) (e1 : ScIs X sc := by rfl) (hs : starEach [x] X.env = [(false, eval x X.env)] := by rfl) :
    DIF X (.Tuple elts n tpos) (.Call (.Name "enumerate" p) [x] [] pos) (fRng enumD fs) := PI.mono (pi_enum h hm ha.pa e1 hs) fun σ H R ⟨Φ, δ, F, ds, hK, en, hf, k⟩ => by
  unfold fRng at hf
  obtain ⟨as, hd, hf⟩ := bS hf
  refine ⟨Φ, δ, F, as, hK, en, hd, fun vs H' F' st r => ?_⟩
  unfold enumD at hf
  split at hf <;> first | (cases hf; done) | skip
  · cases hf
    simp only [Reps, Rep] at r
    obtain ⟨v, ws, rfl, ⟨a, xs, rfl, h1, h2⟩, rfl⟩ := r
    exact ⟨true, a, xs, rfl, st.fh.seq h1, k _ _ H' F' st (walk_enum (b := true) h2) fun H2 s => s.seq h1⟩
  · cases hf
    simp only [Reps, Rep] at r
    obtain ⟨v, ws, rfl, ⟨a, xs, rfl, h1, h2⟩, rfl⟩ := r
    exact ⟨false, a, xs, rfl, st.fh.tup h1, k _ _ H' F' st (walk_enum (b := false) h2) fun H2 s => s.tup h1⟩
end
end L2
namespace L2
open PySem PySem.Spec PyProof.Rows
structure ZApart (z ti tO i1 i2 : Addr) (fp1 fp2 : List Addr) : Prop where
  zt : ti ≠ z
  zo : tO ≠ z
  to : ti ≠ tO
  m1 : i1 ∈ fp1
  m2 : i2 ∈ fp2
  z1 : z ∉ fp1
  z2 : z ∉ fp2
  o1 : tO ∉ fp1
  o2 : tO ∉ fp2
  t1 : ti ≠ i1
  t2 : ti ≠ i2
  x12 : i1 ∉ fp2
  x21 : i2 ∉ fp1
section
variable {prog : Program} {w : World} {A : Around} {E : Value → Shared → Prop} {s : Shared} {z ti tO i1 i2 : Addr} {fp1 fp2 : List Addr} {n1 n2 k : Nat} {P1 P2 : Nat → Value → Prop} {S1 S2 : Nat → Heap → Prop} {va vb : Value}
theorem ne_of_mem {x y : Addr} {l : List Addr} (h : x ∈ l) (h' : y ∉ l) : x ≠ y := fun e => h' (e ▸ h)
theorem zipG_item {Q : Value → Shared → Prop} (D1 : Draws prog w A i1 fp1 n1 P1 S1) (D2 : Draws prog w A i2 fp2 n2 P2 S2) (D : ZApart z ti tO i1 i2 fp1 fp2)
    (hz : IsZip s.heap z ti tO .none) (hI : IsPair s.heap ti (.ref i1) (.ref i2)) (hO : IsPair s.heap tO va vb) (h1 : S1 k s.heap) (h2 : S2 k s.heap) (l1 : k < n1) (l2 : k < n2)
    (q : ∀ x y h' tk, P1 k x → P2 k y → IsZip h' z ti tO (rawInt s.heap.objs.size) → IsPair h' tO x y → S1 (k + 1) h' → S2 (k + 1) h' → IsPair h' s.heap.objs.size x y → h'.objs.size = s.heap.objs.size + 1 →
      (∀ c o, c ≠ z → c ≠ tO → c ≠ i1 → c ≠ i2 → s.heap.get? c = some o → h'.get? c = some o) → Q (.ref s.heap.objs.size) { s with heap := h', toks := tk }) :
    wpAny (model prog w) A (Builtin.«zip.__next__» ⟨[.ref z], []⟩) (fun fin s' => ∃ v, fin = .done (.ret v) ∧ Q v s') E s := by
  obtain ⟨hp, gn, dr, tk0, os⟩ := s
  have e1 : i1 ≠ z := ne_of_mem D.m1 D.z1
  have e2 : i2 ≠ z := ne_of_mem D.m2 D.z2
  have e3 : tO ≠ i1 := (ne_of_mem D.m1 D.o1).symm
  have e4 : tO ≠ i2 := (ne_of_mem D.m2 D.o2).symm
  have e5 : i1 ≠ i2 := (ne_of_mem D.m2 D.x12).symm
  show wpAny _ _ (field (.ref z) 2 >>= _) _ _ ⟨hp, gn, dr, tk0, os⟩
  refine wpAny_bind (wpAny_field hz rfl (x := .bool false) rfl ?_)
  show wpAny _ _ (field (.ref z) 3 >>= _) _ _ ⟨hp, gn, dr, tk0, os⟩
  refine wpAny_bind (wpAny_field hz rfl (x := .ref ti) rfl ?_)
  refine wpAny_bind (wpAny_seqItems hI rfl ?_)
  show wpAny _ _ (Builtin.SmallTypes.ownedTupleIsFree (.ref z) >>= _) _ _ ⟨hp, gn, dr, tk0, os⟩
  refine wpAny_bind ?_
  unfold Builtin.SmallTypes.ownedTupleIsFree
  refine wpAny_bind (wpAny_field hz rfl (x := .none) rfl (wpAny_pure ?_))
  simp only [if_true]
  refine wpAny_bind (wpAny_rule (wpAny_bind (wpAny_field hz rfl (x := .ref tO) rfl ?_)))
  refine wpAny_bind (wpAny_setField_rec hz (by simp) fun ha hza hsa => ?_)
  replace hza : IsZip ha z ti tO .ellipsis := hza
  replace hsa : Heap.SameBut z hp ha := hsa
  refine wpAny_bind ?_
  simp only [List.zipIdx_cons, List.zipIdx_nil, List.forIn_cons, List.forIn_nil]
  refine wpAny_bind (wpAny_bind (wpAny_onRaise ?_))
  show wpAny _ _ (Builtin.SmallTypes.nextOf (.ref i1) >>= _) _ _ ⟨ha, gn, dr, tk0, os⟩
  have h1a : S1 k ha := D1.frame _ _ _ h1 fun b hb o y => hsa.extBut b o (ne_of_mem hb D.z1) y
  have h2a : S2 k ha := D2.frame _ _ _ h2 fun b hb o y => hsa.extBut b o (ne_of_mem hb D.z2) y
  refine wpAny_bind (D1.item k _ _ _ l1 h1a fun x hb tk1 px h1b hsb => wpAny_pure ?_)
  replace hsb : Heap.SameBut i1 ha hb := hsb
  have hOb : IsPair hb tO va vb := hsb.extBut _ _ e3 (hsa.extBut _ _ D.zo hO)
  refine wpAny_bind (wpAny_seqItems hOb rfl (wpAny_bind (wpAny_updateSeq_pair hOb fun hc hOc hsc => ?_)))
  replace hOc : IsPair hc tO x vb := hOc
  replace hsc : Heap.SameBut tO hb hc := hsc
  refine wpAny_bind (wpAny_letGo (wpAny_pure (wpAny_bind (wpAny_bind (wpAny_onRaise ?_)))))
  show wpAny _ _ (Builtin.SmallTypes.nextOf (.ref i2) >>= _) _ _ ⟨hc, gn, dr, tk1, os⟩
  have h2c : S2 k hc := D2.frame _ _ _ h2a fun b hb' o y => hsc.extBut b o (ne_of_mem hb' D.o2) (hsb.extBut b o (ne_of_mem hb' D.x12) y)
  refine wpAny_bind (D2.item k _ _ _ l2 h2c fun y hd tk2 py h2d hsd => wpAny_pure ?_)
  replace hsd : Heap.SameBut i2 hc hd := hsd
  have hOd : IsPair hd tO x vb := hsd.extBut _ _ e4 hOc
  refine wpAny_bind (wpAny_seqItems hOd rfl (wpAny_bind (wpAny_updateSeq_pair hOd fun he hOe hse => ?_)))
  replace hOe : IsPair he tO x y := hOe
  replace hse : Heap.SameBut tO hd he := hse
  refine wpAny_bind (wpAny_letGo (wpAny_pure (wpAny_pure ?_)))
  refine wpAny_bind (wpAny_seqItems hOe rfl (wpAny_bind (wpAny_newTuple ?_)))
  have sz : he.objs.size = hp.objs.size := by rw [hse.1, hsd.1, hsc.1, hsb.1, hsa.1]
  have hze : IsZip he z ti tO .ellipsis := hse.extBut _ _ D.zo.symm (hsd.extBut _ _ e2.symm (hsc.extBut _ _ D.zo.symm (hsb.extBut _ _ e1.symm hza)))
  have ke : ∀ c o, c ≠ z → c ≠ tO → c ≠ i1 → c ≠ i2 → hp.get? c = some o → he.get? c = some o := fun c o c1 c2 c3 c4 y =>
    hse.extBut _ _ c2 (hsd.extBut _ _ c4 (hsc.extBut _ _ c2 (hsb.extBut _ _ c3 (hsa.extBut _ _ c1 y))))
  have h1e : S1 (k + 1) he := D1.frame _ _ _ h1b fun b hb' o y => hse.extBut b o (ne_of_mem hb' D.o1) (hsd.extBut b o (ne_of_mem hb' D.x21) (hsc.extBut b o (ne_of_mem hb' D.o1) y))
  have h2e : S2 (k + 1) he := D2.frame _ _ _ h2d fun b hb' o y => hse.extBut b o (ne_of_mem hb' D.o2) y
  have zl : z < he.objs.size := Heap.lt_size hze
  show wpAny _ _ (Builtin.SmallTypes.ownedTupleHandOut (.ref z) (.ref he.objs.size) >>= _) _ _ _
  refine wpAny_bind ?_
  unfold Builtin.SmallTypes.ownedTupleHandOut
  have hzf : IsZip (he.push { cls := .type "tuple", data := .seq #[x, y] }) z ti tO .ellipsis := Heap.get?_push_of_some _ hze
  refine wpAny_bind (wpAny_setField_rec hzf (by simp) fun hg hzg hsg => ?_)
  replace hzg : IsZip hg z ti tO (rawInt he.objs.size) := hzg
  refine wpAny_setField_rec hzg (by simp) fun hh hzh hsh => ?_
  replace hzh : IsZip hh z ti tO (rawInt he.objs.size) := hzh
  have up : ∀ c o, c ≠ z → he.get? c = some o → hh.get? c = some o := fun c o c1 y => hsh.extBut _ _ c1 (hsg.extBut _ _ c1 (Heap.get?_push_of_some _ y))
  have hTh : IsPair hh he.objs.size x y := hsh.extBut _ _ (Nat.ne_of_gt zl) (hsg.extBut _ _ (Nat.ne_of_gt zl) (Heap.get?_push_size _ rfl))
  have szh : hh.objs.size = he.objs.size + 1 := by rw [hsh.1, hsg.1, Heap.size_push]
  rw [sz] at hzh hTh szh
  refine wpAny_pure ⟨_, rfl, ?_⟩
  show Q (.ref he.objs.size) _
  rw [sz]
  exact q x y hh tk2 px py hzh (up _ _ D.zo hOe) (D1.frame _ _ _ h1e fun b hb' o y => up b o (ne_of_mem hb' D.z1) y) (D2.frame _ _ _ h2e fun b hb' o y => up b o (ne_of_mem hb' D.z2) y) hTh szh fun c o c1 c2 c3 c4 y => up c o c1 (ke c o c1 c2 c3 c4 y)
theorem zipG_end {Q : Fin → Shared → Prop} (D1 : Draws prog w A i1 fp1 n1 P1 S1) (D2 : Draws prog w A i2 fp2 n2 P2 S2) (D : ZApart z ti tO i1 i2 fp1 fp2)
    (hz : IsZip s.heap z ti tO .none) (hI : IsPair s.heap ti (.ref i1) (.ref i2)) (hO : IsPair s.heap tO va vb) (h1 : S1 k s.heap) (h2 : S2 k s.heap) (l1 : k = n1 ∨ (k < n1 ∧ k = n2))
    (q : ∀ h' e, (∀ c o, c ≠ z → c ≠ tO → c ≠ i1 → c ≠ i2 → s.heap.get? c = some o → h'.get? c = some o) → (∃ o, h'.get? e = some o ∧ o.cls = .type "StopIteration") → ∀ tk, E (.ref e) { s with heap := h', toks := tk }) :
    wpAny (model prog w) A (Builtin.«zip.__next__» ⟨[.ref z], []⟩) Q E s := by
  obtain ⟨hp, gn, dr, tk0, os⟩ := s
  have e1 : i1 ≠ z := ne_of_mem D.m1 D.z1
  have e2 : i2 ≠ z := ne_of_mem D.m2 D.z2
  have e3 : tO ≠ i1 := (ne_of_mem D.m1 D.o1).symm
  show wpAny _ _ (field (.ref z) 2 >>= _) _ _ ⟨hp, gn, dr, tk0, os⟩
  refine wpAny_bind (wpAny_field hz rfl (x := .bool false) rfl ?_)
  show wpAny _ _ (field (.ref z) 3 >>= _) _ _ ⟨hp, gn, dr, tk0, os⟩
  refine wpAny_bind (wpAny_field hz rfl (x := .ref ti) rfl ?_)
  refine wpAny_bind (wpAny_seqItems hI rfl ?_)
  show wpAny _ _ (Builtin.SmallTypes.ownedTupleIsFree (.ref z) >>= _) _ _ ⟨hp, gn, dr, tk0, os⟩
  refine wpAny_bind ?_
  unfold Builtin.SmallTypes.ownedTupleIsFree
  refine wpAny_bind (wpAny_field hz rfl (x := .none) rfl (wpAny_pure ?_))
  simp only [if_true]
  refine wpAny_bind (wpAny_rule (wpAny_bind (wpAny_field hz rfl (x := .ref tO) rfl ?_)))
  refine wpAny_bind (wpAny_setField_rec hz (by simp) fun ha hza hsa => ?_)
  replace hza : IsZip ha z ti tO .ellipsis := hza
  replace hsa : Heap.SameBut z hp ha := hsa
  refine wpAny_bind ?_
  simp only [List.zipIdx_cons, List.zipIdx_nil, List.forIn_cons, List.forIn_nil]
  refine wpAny_bind (wpAny_bind (wpAny_onRaise ?_))
  show wpAny _ _ (Builtin.SmallTypes.nextOf (.ref i1) >>= _) _ _ ⟨ha, gn, dr, tk0, os⟩
  have h1a : S1 k ha := D1.frame _ _ _ h1 fun b hb o y => hsa.extBut b o (ne_of_mem hb D.z1) y
  have h2a : S2 k ha := D2.frame _ _ _ h2 fun b hb o y => hsa.extBut b o (ne_of_mem hb D.z2) y
  rcases l1 with l1 | ⟨l1, l2⟩
  · subst l1
    refine wpAny_bind (D1.done _ _ _ h1a fun hb e hsb he => ?_)
    obtain ⟨oe, hoe, hce⟩ := he
    have hzb : IsZip hb z ti tO .ellipsis := hsb _ _ e1.symm hza
    have ez : e ≠ z := fun y => by subst y; rw [hzb] at hoe; cases hoe; simp at hce
    refine wpAny_setField_rec hzb (by simp) fun hc _ hsc => q hc e (fun c o c1 _ c3 _ y => hsc.extBut _ _ c1 (hsb _ _ c3 (hsa.extBut _ _ c1 y))) ⟨oe, hsc.extBut _ _ ez hoe, hce⟩ tk0
  · subst l2
    refine wpAny_bind (D1.item k _ _ _ l1 h1a fun x hb tk1 px h1b hsb => wpAny_pure ?_)
    replace hsb : Heap.SameBut i1 ha hb := hsb
    have hOb : IsPair hb tO va vb := hsb.extBut _ _ e3 (hsa.extBut _ _ D.zo hO)
    refine wpAny_bind (wpAny_seqItems hOb rfl (wpAny_bind (wpAny_updateSeq_pair hOb fun hc hOc hsc => ?_)))
    replace hsc : Heap.SameBut tO hb hc := hsc
    refine wpAny_bind (wpAny_letGo (wpAny_pure (wpAny_bind (wpAny_bind (wpAny_onRaise ?_)))))
    show wpAny _ _ (Builtin.SmallTypes.nextOf (.ref i2) >>= _) _ _ ⟨hc, gn, dr, tk1, os⟩
    have h2c : S2 k hc := D2.frame _ _ _ h2a fun b hb' o y => hsc.extBut b o (ne_of_mem hb' D.o2) (hsb.extBut b o (ne_of_mem hb' D.x12) y)
    refine wpAny_bind (D2.done _ _ _ h2c fun hd e hsd he => ?_)
    obtain ⟨oe, hoe, hce⟩ := he
    have hzd : IsZip hd z ti tO .ellipsis := hsd _ _ e2.symm (hsc.extBut _ _ D.zo.symm (hsb.extBut _ _ e1.symm hza))
    have ez : e ≠ z := fun y => by subst y; rw [hzd] at hoe; cases hoe; simp at hce
    refine wpAny_setField_rec hzd (by simp) fun hf _ hsf => q hf e (fun c o c1 c2 c3 c4 y => hsf.extBut _ _ c1 (hsd _ _ c4 (hsc.extBut _ _ c2 (hsb.extBut _ _ c3 (hsa.extBut _ _ c1 y))))) ⟨oe, hsf.extBut _ _ ez hoe, hce⟩ tk1
theorem nextZ_item {Q : Option Value → Shared → Prop} (D1 : Draws prog w A.in1 i1 fp1 n1 P1 S1) (D2 : Draws prog w A.in1 i2 fp2 n2 P2 S2) (D : ZApart z ti tO i1 i2 fp1 fp2)
    (hz : IsZip s.heap z ti tO .none) (hI : IsPair s.heap ti (.ref i1) (.ref i2)) (hO : IsPair s.heap tO va vb) (h1 : S1 k s.heap) (h2 : S2 k s.heap) (l1 : k < n1) (l2 : k < n2)
    (q : ∀ x y h' tk, P1 k x → P2 k y → IsZip h' z ti tO (rawInt s.heap.objs.size) → IsPair h' tO x y → S1 (k + 1) h' → S2 (k + 1) h' → IsPair h' s.heap.objs.size x y → h'.objs.size = s.heap.objs.size + 1 →
      (∀ c o, c ≠ z → c ≠ tO → c ≠ i1 → c ≠ i2 → s.heap.get? c = some o → h'.get? c = some o) → Q (some (.ref s.heap.objs.size)) { s with heap := h', toks := tk }) : wpAny (model prog w) A (pyNext (.ref z)) Q E s := by
  have hT : s.TypeIs (.ref z) "zip" := ⟨_, hz, rfl⟩
  unfold pyNext
  exact wpAny_bind (wpAny_attempt (wpAny_callSpecial?_slot (name := Str.ofString "__next__") hT F.slot_zip_next (wpAny_call_entry F.slot_zip_next hT F.entry_zip_next (zipG_item D1 D2 D hz hI hO h1 h2 l1 l2 fun x y h' tk a b c d e f g i j => wpAny_pure (q x y h' tk a b c d e f g i j)) (F.args_zip_next_1 _))))
theorem nextZ_end {Q : Option Value → Shared → Prop} (D1 : Draws prog w A.in1 i1 fp1 n1 P1 S1) (D2 : Draws prog w A.in1 i2 fp2 n2 P2 S2) (D : ZApart z ti tO i1 i2 fp1 fp2)
    (hz : IsZip s.heap z ti tO .none) (hI : IsPair s.heap ti (.ref i1) (.ref i2)) (hO : IsPair s.heap tO va vb) (h1 : S1 k s.heap) (h2 : S2 k s.heap) (l1 : k = n1 ∨ (k < n1 ∧ k = n2))
    (q : ∀ h' tk, (∀ c o, c ≠ z → c ≠ tO → c ≠ i1 → c ≠ i2 → s.heap.get? c = some o → h'.get? c = some o) → Q none { s with heap := h', toks := tk }) : wpAny (model prog w) A (pyNext (.ref z)) Q E s := by
  have hT : s.TypeIs (.ref z) "zip" := ⟨_, hz, rfl⟩
  unfold pyNext
  refine wpAny_bind (wpAny_attempt (wpAny_callSpecial?_slot (name := Str.ofString "__next__") hT F.slot_zip_next (wpAny_call_entry F.slot_zip_next hT F.entry_zip_next (zipG_end D1 D2 D hz hI hO h1 h2 l1 fun h' e hk he tk => ?_) (F.args_zip_next_1 _))))
  obtain ⟨o, ho, hc⟩ := he
  exact wpAny_bind (wpAny_isInstance (T := "StopIteration") (b := true) ⟨o, ho, hc⟩ isSubtype_stop (wpAny_pure (q _ tk hk)))
end
noncomputable abbrev itN (b : Bool) : String := match b with
  | true => "list_iterator"
  | false => "tuple_iterator"
noncomputable abbrev zq1 (h : Heap) (b : Bool) (l : Addr) : Heap := h.push { cls := .type (itN b), data := .fields #[.ref l, .int 0 0] }
noncomputable abbrev zq2 (h : Heap) (b c : Bool) (l m : Addr) : Heap := (zq1 h b l).push { cls := .type (itN c), data := .fields #[.ref m, .int 0 0] }
noncomputable abbrev zq3 (h : Heap) (b c : Bool) (l m : Addr) : Heap := (zq2 h b c l m).push { cls := .type "tuple", data := .seq #[.ref h.objs.size, .ref (zq1 h b l).objs.size] }
noncomputable abbrev zq4 (h : Heap) (b c : Bool) (l m : Addr) : Heap := (zq3 h b c l m).push { cls := .type "tuple", data := .seq #[.none, .none] }
noncomputable abbrev zq5 (h : Heap) (b c : Bool) (l m : Addr) : Heap := (zq4 h b c l m).push { cls := .type "zip", data := .fields #[.none, .bool false, .bool false, .ref (zq2 h b c l m).objs.size, .ref (zq3 h b c l m).objs.size] }
section
variable {prog : Program} {w : World} {A : Around} {E : Value → Shared → Prop} {s : Shared}
theorem pyIterB {b : Bool} {a : Addr} {vs : Array Value} {Q : Value → Shared → Prop} (h : CoB b s.heap a vs) (q : Q (.ref s.heap.objs.size) { s with heap := s.heap.push { cls := .type (itN b), data := .fields #[.ref a, .int 0 0] } }) : wpAny (model prog w) A (pyIter (.ref a)) Q E s := by
  cases b with
  | true => exact wpAny_pyIter_list h q
  | false => exact wpAny_pyIter_tuple h q
theorem CoB.push {b : Bool} {h : Heap} {a : Addr} {vs : Array Value} (x : CoB b h a vs) (o : Obj) : CoB b (h.push o) a vs := by
  cases b with
  | true => obtain ⟨u, e, r⟩ := x; exact ⟨u, Heap.get?_push_of_some _ e, r⟩
  | false => obtain ⟨u, e, r⟩ := x; exact ⟨u, Heap.get?_push_of_some _ e, r⟩
theorem meets_zipB (b c : Bool) (l m : Addr) (xs ys : Array Value) : Meets (Builtin.«zip.__new__» ⟨[.type "zip", .ref l, .ref m], []⟩) (fun _ R s => CoB b s.heap l xs ∧ CoB c s.heap m ys ∧
      R (.ok (.ret (.ref (zq4 s.heap b c l m).objs.size))) { s with heap := zq5 s.heap b c l m }) :=
  .of_wp fun prog w A R s h => by
    obtain ⟨hp, g, d, tk, os⟩ := s
    obtain ⟨hl, hm, h⟩ := h
    have hsub := sub_zip
    have hL : CoB b (Shared.heap ⟨hp, g, d, tk, os⟩) l xs := hl
    have hM : CoB c (Shared.heap ⟨hp.push { cls := .type (itN b), data := .fields #[.ref l, .int 0 0] }, g, d, tk, os⟩) m ys := hm.push _
    wp_walk using pyIterB hL, pyIterB hM
    exact ⟨_, rfl, h⟩
theorem call_zipB {b c : Bool} {l m : Addr} {xs ys : Array Value} {Q : Value → Shared → Prop} (hl : CoB b s.heap l xs) (hm : CoB c s.heap m ys)
    (q : ∀ h', IsZip h' (s.heap.objs.size + 4) (s.heap.objs.size + 2) (s.heap.objs.size + 3) .none → IsPair h' (s.heap.objs.size + 2) (.ref s.heap.objs.size) (.ref (s.heap.objs.size + 1)) →
      IsPair h' (s.heap.objs.size + 3) .none .none → ItB b h' s.heap.objs.size l 0 → ItB c h' (s.heap.objs.size + 1) m 0 → h'.objs.size = s.heap.objs.size + 5 →
      (∀ a o, s.heap.get? a = some o → h'.get? a = some o) → Q (.ref (s.heap.objs.size + 4)) { s with heap := h' }) : wpAny (model prog w) A (call (.type "zip") [.ref l, .ref m]) Q E s := by
  refine callType_new F.called_zip (by decide) (F.typeCall_zip_2 _ _) (F.newCall_zip_2 _ _) (fun obj => F.args_object_init_3 obj _ _) F.entry_zip_new (meets_zipB b c l m xs ys) ⟨hl, hm, ?_⟩
  have z1 : (zq1 s.heap b l).objs.size = s.heap.objs.size + 1 := Heap.size_push ..
  have z2 : (zq2 s.heap b c l m).objs.size = s.heap.objs.size + 2 := by rw [show zq2 s.heap b c l m = (zq1 s.heap b l).push _ from rfl, Heap.size_push, z1]
  have z3 : (zq3 s.heap b c l m).objs.size = s.heap.objs.size + 3 := by rw [show zq3 s.heap b c l m = (zq2 s.heap b c l m).push _ from rfl, Heap.size_push, z2]
  have z4 : (zq4 s.heap b c l m).objs.size = s.heap.objs.size + 4 := by rw [show zq4 s.heap b c l m = (zq3 s.heap b c l m).push _ from rfl, Heap.size_push, z3]
  have z5 : (zq5 s.heap b c l m).objs.size = s.heap.objs.size + 5 := by rw [show zq5 s.heap b c l m = (zq4 s.heap b c l m).push _ from rfl, Heap.size_push, z4]
  have u5 : (zq5 s.heap b c l m).get? (zq4 s.heap b c l m).objs.size = some _ := Heap.get?_push_size _ rfl
  have u4 : (zq5 s.heap b c l m).get? (zq3 s.heap b c l m).objs.size = some _ := Heap.get?_push_of_some _ (Heap.get?_push_size _ rfl)
  have u3 : (zq5 s.heap b c l m).get? (zq2 s.heap b c l m).objs.size = some _ := Heap.get?_push_of_some _ (Heap.get?_push_of_some _ (Heap.get?_push_size _ rfl))
  have v2 : (zq5 s.heap b c l m).get? (zq1 s.heap b l).objs.size = some _ := Heap.get?_push_of_some _ (Heap.get?_push_of_some _ (Heap.get?_push_of_some _ (Heap.get?_push_size _ rfl)))
  have v1 : (zq5 s.heap b c l m).get? s.heap.objs.size = some _ := Heap.get?_push_of_some _ (Heap.get?_push_of_some _ (Heap.get?_push_of_some _ (Heap.get?_push_of_some _ (Heap.get?_push_size _ rfl))))
  show _ ∧ _
  rw [z2, z3, z4] at u5
  rw [z1, z2] at u3
  rw [z3] at u4
  rw [z1] at v2
  rw [z4]
  refine ⟨⟨_, u5, rfl⟩, q _ u5 u3 u4 ?_ ?_ z5 fun a o e => Heap.get?_push_of_some _ (Heap.get?_push_of_some _ (Heap.get?_push_of_some _ (Heap.get?_push_of_some _ (Heap.get?_push_of_some _ e))))⟩
  · cases b with
    | true => exact ⟨_, v1, rfl, rfl⟩
    | false => exact ⟨_, v1, rfl, rfl⟩
  · cases c with
    | true => exact ⟨_, v2, rfl, rfl⟩
    | false => exact ⟨_, v2, rfl, rfl⟩
end
section
variable {X : Cx} {pins : List (Addr × Obj)} {σ : St} {H : Hp} {s : Shared} {a : Addr} {xs ys : List V} {b c : Bool}
theorem sq_ne (J : Inv X pins σ H s) (hq : SqB b X.K H a xs) {r : Addr} (hf : FpOk X pins H r) : a ≠ r := by
  have key : (∃ o, H a = some o) ∨ ∃ o, X.K.lookup a = some o := by
    cases b with
    | true =>
      rcases hq with (h | ⟨o, h⟩) | ⟨o, _, _, h, _⟩
      · exact .inl ⟨_, h⟩
      · exact .inl ⟨_, h⟩
      · exact .inr ⟨_, h⟩
    | false =>
      rcases hq with (h | ⟨o, h⟩) | ⟨o, _, _, h, _⟩
      · exact .inl ⟨_, h⟩
      · exact .inl ⟨_, h⟩
      · exact .inr ⟨_, h⟩
  rintro rfl
  rcases key with ⟨o, h⟩ | ⟨o, h⟩
  · rw [hf.1] at h
    cases h
  · have hb := J.ok.mod.kin a o h
    rcases hf.2.2.2.1 with z | z
    · exact J.ok.noex a o hb z
    · exact absurd (Nat.lt_of_lt_of_le (Heap.lt_size hb) (Nat.le_trans J.ok.bsz z)) (Nat.lt_irrefl _)
theorem zapart {l m z ti tO i1 i2 : Addr} (J : Inv X pins σ H s) (hd : [z, ti, tO, i1, i2].Nodup) (hf : ∀ r ∈ [z, ti, tO, i1, i2], FpOk X pins H r) (h1 : SqB b X.K H l xs) (h2 : SqB c X.K H m ys) : ZApart z ti tO i1 i2 [i1, l] [i2, m] := by
  have n1 : ∀ r ∈ [z, ti, tO, i1, i2], l ≠ r := fun r hr => sq_ne J h1 (hf r hr)
  have n2 : ∀ r ∈ [z, ti, tO, i1, i2], m ≠ r := fun r hr => sq_ne J h2 (hf r hr)
  simp only [List.mem_cons, List.not_mem_nil, or_false, forall_eq_or_imp, forall_eq] at n1 n2
  simp only [List.nodup_cons, List.mem_cons, List.not_mem_nil, or_false, not_or, not_false_eq_true, List.nodup_nil, and_true] at hd
  obtain ⟨⟨d1, d2, d3, d4⟩, ⟨d5, d6, d7⟩, ⟨d8, d9⟩, d10⟩ := hd
  refine ⟨Ne.symm d1, Ne.symm d2, d5, by simp, by simp, ?_, ?_, ?_, ?_, d6, d7, ?_, ?_⟩ <;> simp only [List.mem_cons, List.not_mem_nil, or_false, not_or]
  · exact ⟨d3, Ne.symm n1.1⟩
  · exact ⟨d4, Ne.symm n2.1⟩
  · exact ⟨d8, Ne.symm n1.2.2.1⟩
  · exact ⟨d9, Ne.symm n2.2.2.1⟩
  · exact ⟨d10, Ne.symm n2.2.2.2.1⟩
  · exact ⟨Ne.symm d10, Ne.symm n1.2.2.2.2⟩
end
noncomputable def Itz (b c : Bool) (K : PySem.W.Frag) (l m : Addr) : It :=
  ⟨fun i H => ∃ xs ys x y, SqB b K H l xs ∧ SqB c K H m ys ∧ xs[i]? = some x ∧ ys[i]? = some y, fun i H x H' => ∃ t v u, H t = none ∧ x = .ref t ∧ H' = upd H t (.tup [v, u]) ∧ ∀ xs ys, SqB b K H l xs → SqB c K H m ys → xs[i]? = some v ∧ ys[i]? = some u,
   fun i H => ∃ xs ys, SqB b K H l xs ∧ SqB c K H m ys ∧ min xs.length ys.length = i⟩
theorem turn_zip {P : Program} {w : World} {K : PySem.W.Frag} {elts : List Expr} {n : Nat} {pos : Pos} (b c : Bool) (l m z ti tO i1 i2 : Addr) (hd : [z, ti, tO, i1, i2].Nodup) :
    Turn P w K (.Tuple elts n pos) (Itz b c K l m) [z, ti, tO, i1, i2] z (fun i h => IsZip h z ti tO .none ∧ IsPair h ti (.ref i1) (.ref i2) ∧ (∃ va vb, IsPair h tO va vb) ∧ ItB b h i1 l i ∧ ItB c h i2 m i) where
  mem := by simp
  obj := fun i h st a ha => by
    obtain ⟨s1, s2, ⟨va, vb, s3⟩, s4, s5⟩ := st
    simp only [List.mem_cons, List.not_mem_nil, or_false] at ha
    rcases ha with rfl | rfl | rfl | rfl | rfl
    · exact ⟨_, s1, fun v y => nomatch y⟩
    · exact ⟨_, s2, fun v y => nomatch y⟩
    · exact ⟨_, s3, fun v y => nomatch y⟩
    · obtain ⟨o, q, _, d⟩ := s4.obj
      exact ⟨o, q, d⟩
    · obtain ⟨o, q, _, d⟩ := s5.obj
      exact ⟨o, q, d⟩
  keep := fun i h h' st k => by
    obtain ⟨s1, s2, ⟨va, vb, s3⟩, s4, s5⟩ := st
    exact ⟨k z (by simp) _ s1, k ti (by simp) _ s2, ⟨va, vb, k tO (by simp) _ s3⟩, s4.at fun o q => k i1 (by simp) o q, s5.at fun o q => k i2 (by simp) o q⟩
  item := by
    intro X hP hw hK hc i pins s σ H E J hf st hg
    subst hP hw hK
    obtain ⟨s1, s2, ⟨va, vb, s3⟩, s4, s5⟩ := st
    obtain ⟨xs, ys, x, y, hq, hr, hx, hy⟩ := hg
    obtain ⟨its, rv, co⟩ := J.seqB hq
    obtain ⟨its2, rv2, co2⟩ := J.seqB hr
    obtain ⟨u, hu, ru⟩ := rv.get hx
    obtain ⟨u2, hu2, ru2⟩ := rv2.get hy
    have l1 : i < its.toArray.size := by simpa using (List.getElem?_eq_some_iff.mp hu).1
    have l2 : i < its2.toArray.size := by simpa using (List.getElem?_eq_some_iff.mp hu2).1
    refine nextZ_item (drawsB (A := X.A.in1) (b := b) (I := i1) (a := l) (show X.A.in1.handled = none from J.ok.hd hc) (apartB s4 co) its.toArray) (drawsB (A := X.A.in1) (b := c) (I := i2) (a := m) (show X.A.in1.handled = none from J.ok.hd hc) (apartB s5 co2) its2.toArray)
      (zapart J hd hf hq hr) s1 s2 s3 ⟨s4, co⟩ ⟨s5, co2⟩ l1 l2 fun x' y' h1 tk p1 p2 hz hO t1 t2 hT hsz hk => ⟨_, rfl, ?_⟩
    have ex : x' = u := by
      rw [show its.toArray[i]? = its[i]? by simp, hu] at p1
      exact (Option.some.inj p1).symm
    have ey : y' = u2 := by
      rw [show its2.toArray[i]? = its2[i]? by simp, hu2] at p2
      exact (Option.some.inj p2).symm
    subst ex ey
    refine wpAny_letOwnedTupleGo_zip hz fun h2 hz2 sb2 => ?_
    have nd := hd
    simp only [List.nodup_cons, List.mem_cons, List.not_mem_nil, or_false, not_or, not_false_eq_true, List.nodup_nil, and_true] at nd
    obtain ⟨⟨d1, d2, d3, d4⟩, ⟨d5, d6, d7⟩, ⟨d8, d9⟩, d10⟩ := nd
    have lt : ∀ a ∈ [z, ti, tO, i1, i2], a < s.heap.objs.size := fun a ha => by
      simp only [List.mem_cons, List.not_mem_nil, or_false] at ha
      rcases ha with rfl | rfl | rfl | rfl | rfl
      · exact Heap.lt_size s1
      · exact Heap.lt_size s2
      · exact Heap.lt_size s3
      · obtain ⟨o, q, _⟩ := s4.obj
        exact Heap.lt_size q
      · obtain ⟨o, q, _⟩ := s5.obj
        exact Heap.lt_size q
    have zn : s.heap.objs.size ≠ z := fun y => Nat.lt_irrefl _ (y ▸ lt z (by simp))
    have kk : ∀ a o, a ∉ [z, ti, tO, i1, i2] → s.heap.get? a = some o → h2.get? a = some o := fun a o ha q => by
      simp only [List.mem_cons, List.not_mem_nil, or_false, not_or] at ha
      exact (sb2.2 a ha.1).trans (hk a o ha.1 ha.2.2.1 ha.2.2.2.1 ha.2.2.2.2 q)
    have hT2 : h2.get? s.heap.objs.size = some { cls := .type "tuple", data := .seq #[x', y'] } := (sb2.2 _ zn).trans hT
    have J2 : Inv X pins σ (upd H s.heap.objs.size (.tup [x, y])) { s with heap := h2, toks := tk } :=
      J.turnedT kk hf (Nat.le_refl _) ⟨by show 2 ≤ sizeLine; decide, [x', y'], .cons ru (.cons ru2 .nil), ⟨_, hT2, rfl, _, rfl⟩⟩
    refine ⟨.ref s.heap.objs.size, _, J2, rfl, ⟨_, x, y, J.hok.fresh (Nat.le_refl _), rfl, rfl, fun us ws hu hw => ⟨by rw [J.seqB_inj hu hq]; exact hx, by rw [J.seqB_inj hw hr]; exact hy⟩⟩, ⟨hz2, (sb2.2 ti (Ne.symm d1)).trans (hk ti _ (Ne.symm d1) d5 d6 d7 s2), ⟨_, _, (sb2.2 tO (Ne.symm d2)).trans hO⟩, t1.1.at fun o q => (sb2.2 i1 (Ne.symm d3)).trans q, t2.1.at fun o q => (sb2.2 i2 (Ne.symm d4)).trans q⟩, fun a ha => ?_⟩
    rw [upd_ne (Nat.ne_of_lt (lt a ha))]
    exact (hf a ha).1
  done := by
    intro X hP hw hK hc i pins s σ H E J hf st hg
    subst hP hw hK
    obtain ⟨s1, s2, ⟨va, vb, s3⟩, s4, s5⟩ := st
    obtain ⟨xs, ys, hq, hr, hx⟩ := hg
    obtain ⟨its, rv, co⟩ := J.seqB hq
    obtain ⟨its2, rv2, co2⟩ := J.seqB hr
    have e1 := rv.length
    have e2 := rv2.length
    refine nextZ_end (drawsB (A := X.A.in1) (b := b) (I := i1) (a := l) (show X.A.in1.handled = none from J.ok.hd hc) (apartB s4 co) its.toArray) (drawsB (A := X.A.in1) (b := c) (I := i2) (a := m) (show X.A.in1.handled = none from J.ok.hd hc) (apartB s5 co2) its2.toArray)
      (zapart J hd hf hq hr) s1 s2 s3 ⟨s4, co⟩ ⟨s5, co2⟩ (by simp only [List.size_toArray]; omega) fun h' tk hk => ⟨rfl, ?_⟩
    exact J.turnedL (t' := tk) (fun a o ha q => hk a o (fun y => ha (by simp [y])) (fun y => ha (by simp [y])) (fun y => ha (by simp [y])) (fun y => ha (by simp [y])) q) hf
  self := fun A i s Q E st h => wpAny_pyIter_zip st.1 h
section
variable {X : Cx} {x y : Expr} {p pos tpos : Pos} {sc : Scope} {fs : De → Option (List Dt)} {elts : List Expr} {n : Nat}
noncomputable def iZip (K : PySem.W.Frag) (ta : TA) : TI := fun σ H R => ta σ H fun vs H1 => ∃ b c l m xs ys, vs = [.ref l, .ref m] ∧ SqB b K H1 l xs ∧ SqB c K H1 m ys ∧ R (Itz b c K l m) H1
theorem pi_zip {ta : TA} (h : glOk sc "zip" = true) (hm : X.mg "zip" = none) (ha : PA X [x, y] ta) (e1 : ScIs X sc := by rfl) (hs : starEach [x, y] X.env = [(false, eval x X.env), (false, eval y X.env)] := by rfl) (hs2 : starEach [y] X.env = [(false, eval y X.env)] := by rfl) :
    PI X (.Tuple elts n tpos) (.Call (.Name "zip" p) [x, y] [] pos) (iZip X.K ta) := by
  intro pins s σ H R I h'
  refine Call_ (ld_blt I (glD h e1) hm bt_zip (PyProof.Rows.callWith_type1 (thn (ha pos pins s σ H _ I h') fun us s1 ⟨vs, H1, I1, r1, q1⟩ => ?_) (by rw [hs, hs2]) (by rw [hs2]; rfl)))
  obtain ⟨b, c, l, m, xs, ys, rfl, hq, hr, q⟩ := q1
  obtain ⟨u, w', rfl, ru, rw'⟩ := vals2 r1
  cases ru
  cases rw'
  obtain ⟨its, rv, co⟩ := I1.seqB hq
  obtain ⟨its2, rv2, co2⟩ := I1.seqB hr
  refine call_zipB co co2 fun h2 hz hI hO hi1 hi2 hsz hk => wpAny_pyIter_zip hz ?_
  have I2 : Inv X pins σ H1 { s1 with heap := h2 } := I1.kept (t' := s1.toks) hk
  refine ⟨s1.heap.objs.size + 4, [s1.heap.objs.size + 4, s1.heap.objs.size + 2, s1.heap.objs.size + 3, s1.heap.objs.size, s1.heap.objs.size + 1], _, _, H1, rfl, I2, turn_zip b c l m _ _ _ _ _ (by simp), ⟨hz, hI, ⟨_, _, hO⟩, hi1, hi2⟩, fun a ha => ?_, q⟩
  have hge : s1.heap.objs.size ≤ a := by
    simp only [List.mem_cons, List.not_mem_nil, or_false] at ha
    rcases ha with rfl | rfl | rfl | rfl | rfl <;> first | exact Nat.le_add_right _ _ | exact Nat.le_refl _
  exact I1.fpOk hge (I1.hok.fresh hge)
noncomputable def zipL : List Dt → List Dt → List Dt
  | d :: l, e :: m => .tup [d, e] :: zipL l m
  | _, _ => []
theorem zipL_len : ∀ (l m : List Dt), (zipL l m).length = min l.length m.length
  | [], m => by simp [zipL]
  | _ :: _, [] => by simp [zipL]
  | d :: l, e :: m => by simp [zipL, zipL_len l m]
theorem zipL_get : ∀ {l m : List Dt} {k : Nat} {d e : Dt}, l[k]? = some d → m[k]? = some e → (zipL l m)[k]? = some (.tup [d, e])
  | [], m, k, d, e, h, _ => by simp at h
  | _ :: _, [], k, d, e, _, h => by simp at h
  | a :: l, b :: m, 0, d, e, h, h' => by simp at h h'; simp [zipL, h, h']
  | a :: l, b :: m, k + 1, d, e, h, h' => by
    simp only [zipL, List.getElem?_cons_succ]
    exact zipL_get (by simpa using h) (by simpa using h')
noncomputable def asSq : Dt → Option (Bool × List Dt)
  | .lst l => some (true, l)
  | .tup l => some (false, l)
  | _ => none
noncomputable def zipD : List Dt → Option (List Dt)
  | [d, e] => (asSq d).bind fun p => (asSq e).map fun q => zipL p.2 q.2
  | _ => none
theorem asSq_of {K : PySem.W.Frag} {F : Hp} {d : Dt} {v : V} {p : Bool × List Dt} (r : Rep K F d v) (h : asSq d = some p) : ∃ a xs, v = .ref a ∧ Reps K F p.2 xs ∧ ∀ H, Same F H → SqB p.1 K H a xs := by
  unfold asSq at h
  split at h <;> first | (cases h; done) | skip
  · cases h
    simp only [Rep] at r
    obtain ⟨a, xs, rfl, h1, h2⟩ := r
    exact ⟨a, xs, rfl, h2, fun H s => s.seq h1⟩
  · cases h
    simp only [Rep] at r
    obtain ⟨a, xs, rfl, h1, h2⟩ := r
    exact ⟨a, xs, rfl, h2, fun H s => s.tup h1⟩
theorem walk_zip {K : PySem.W.Frag} {F : Hp} {b c : Bool} {a a' : Addr} {xs ys : List V} {l m : List Dt} (r : Reps K F l xs) (r' : Reps K F m ys) : WalkD K F (Itz b c K a a') (zipL l m) (fun H => SqB b K H a xs ∧ SqB c K H a' ys) := fun i H F2 hok fh ff => by
  have hl := r.length
  have hm := r'.length
  rw [zipL_len]
  refine ⟨fun h => ⟨xs, ys, xs[i], ys[i], hok.1, hok.2, by simp [show i < xs.length by omega], by simp [show i < ys.length by omega]⟩, fun h => ⟨xs, ys, hok.1, hok.2, by omega⟩, fun x H' hi hy => ?_⟩
  obtain ⟨t, v, u, ht, rfl, rfl, hv⟩ := hy
  obtain ⟨hx, hy⟩ := hv xs ys hok.1 hok.2
  obtain ⟨d, hd, rd⟩ := r.same_get hx
  obtain ⟨e, he, re⟩ := r'.same_get hy
  have up := Same.upd (o := .tup [v, u]) (fh.free ht)
  exact ⟨_, upd F2 t (.tup [v, u]), zipL_get hd he, Step.new fh ht, rep_pair upd_same ((rd.same ff).same up) ((re.same ff).same up)⟩
theorem di_zip (h : glOk sc "zip" = true) (hm : X.mg "zip" = none) (ha : DA X [x, y] fs) (e1 : ScIs X sc := by rfl) (hs : starEach [x, y] X.env = [(false, eval x X.env), (false, eval y X.env)] := by rfl) (hs2 : starEach [y] X.env = [(false, eval y X.env)] := by rfl) :
    DIF X (.Tuple elts n tpos) (.Call (.Name "zip" p) [x, y] [] pos) (fRng zipD fs) := PI.mono (pi_zip h hm ha.pa e1 hs hs2) fun σ H R ⟨Φ, δ, F, ds, hK, en, hf, k⟩ => by
  unfold fRng at hf
  obtain ⟨as, hd, hf⟩ := bS hf
  refine ⟨Φ, δ, F, as, hK, en, hd, fun vs H' F' st r => ?_⟩
  unfold zipD at hf
  split at hf <;> first | (cases hf; done) | skip
  obtain ⟨p1, hp1, hf⟩ := bS hf
  obtain ⟨p2, hp2, hf⟩ := mS hf
  cases hf
  simp only [Reps] at r
  obtain ⟨v, ws, rfl, r1, w', us, rfl, r2, rfl⟩ := r
  obtain ⟨a, xs, rfl, q1, s1⟩ := asSq_of r1 hp1
  obtain ⟨a', ys, rfl, q2, s2⟩ := asSq_of r2 hp2
  exact ⟨p1.1, p2.1, a, a', xs, ys, rfl, s1 _ st.fh, s2 _ st.fh, k _ _ H' F' st (walk_zip q1 q2) fun H2 s => ⟨s1 _ s, s2 _ s⟩⟩
end
end L2
namespace L2
open PySem PySem.Spec PyProof.Rows
theorem vals_strValues : ∀ l : List (Str × Tok), Vals ((l.map (·.1)).map V.str) (strValues l)
  | [] => .nil
  | p :: r => .cons ⟨p.2, rfl⟩ (vals_strValues r)
section
variable {X : Cx} {o a b e c : Expr} {es : List Expr} {fa fb fo fe : De → Option Dt} {fs : De → Option (List Dt)} {pos apos cpos p : Pos} {i : Nat}
theorem splitI {prog : Program} {w : World} {A : Around} {E : Value → Shared → Prop} {s : Shared} {x y : Str} {t u : Tok} {Q : Value → Shared → Prop} (hy : (y.length == 0) = false) (hsz : x.length + 2 ≤ sizeLine)
    (q : ∀ l k, l.map (·.1) = Txt.split x y → Q (.ref s.heap.objs.size) { s with heap := s.heap.push { cls := .type "list", data := .seq (strValues l).toArray }, toks := k }) : wpAny (model prog w) A (call (.builtin "str.split") [.str x t, .str y u]) Q E s := by
  have hn : (Builtin.Str.partsBetween x (Builtin.Str.occurrences x y 0 x.length (x.length + 1)) y.length).length ≤ sizeLine := by
    have := StrLaws.occ_length_le x y 0 x.length (x.length + 1)
    rw [length_partsBetween]
    omega
  cases h1 : (decide (x.length < y.length) || decide (Builtin.Str.strKind x < Builtin.Str.strKind y)) with
  | true => exact call_meets F.slot_str_split (typeIs_str _ _ _) F.entry_str_split (F.args_str_split_2 _ _) (meets_str_split_cannot_occur x y t u h1) (q [(x, t)] s.toks (if_pos h1).symm)
  | false =>
    cases hf : (Builtin.Str.occurrences x y 0 x.length (x.length + 1)).isEmpty with
    | true => exact call_meets F.slot_str_split (typeIs_str _ _ _) F.entry_str_split (F.args_str_split_2 _ _) (meets_str_split_not_found x y t u h1 hy hf) (q [(x, t)] s.toks ((if_neg (ne_true_of_eq_false h1)).trans (if_pos hf)).symm)
    | false =>
      refine call_meets F.slot_str_split (typeIs_str _ _ _) F.entry_str_split (F.args_str_split_2 _ _) (meets_str_split_sep x y t u h1 hy hf (by omega) hn) ?_
      show wants Q E _ { s with toks := _, heap := s.heap.push { cls := Value.type "list", data := .seq (strsFrom s.toks (Builtin.Str.partsBetween x (Builtin.Str.occurrences x y 0 x.length (x.length + 1)) y.length)).toArray } }
      rw [strsFrom_eq]
      exact q (numbered s.toks _) _ ((numbered_texts _ _).trans ((if_neg (ne_true_of_eq_false h1)).trans (if_neg (ne_true_of_eq_false hf))).symm)
theorem split_len {x y : Str} (h : x.length + 2 ≤ sizeLine) : (Txt.split x y).length ≤ sizeLine := by
  unfold Txt.split
  split
  · show 1 ≤ sizeLine; omega
  · split
    · show 1 ≤ sizeLine; omega
    · have := StrLaws.occ_length_le x y 0 x.length (x.length + 1)
      rw [length_partsBetween]
      omega
theorem mt_split : MtR X "str.split" (fun v vs H Q => ∃ x y, v = .str x ∧ vs = [.str y] ∧ (y.length == 0) = false ∧ x.length + 2 ≤ sizeLine ∧ ∀ p, H p = none → Q (.ref p) (upd H p (.lst ((Txt.split x y).map V.str)))) := by
  intro pins s σ H v vs u us Q I rx rv h
  obtain ⟨x, y, rfl, rfl, hy, hz, q⟩ := h
  obtain ⟨t, rfl⟩ := rx
  obtain ⟨u, rfl, ru⟩ := rv.one
  obtain ⟨t', rfl⟩ := ru
  refine splitI hy hz fun l k el => ?_
  have hv := vals_strValues l
  rw [el] at hv
  exact ⟨.ref _, _, I.lnew (t' := k) hv (by rw [List.length_map]; exact split_len hz), rfl, q _ I.fresh⟩
noncomputable def g_split : Dt → List Dt → Option T
  | .str x, [.str y] => if (y.length == 0) = false ∧ x.length + 2 ≤ sizeLine then some (.lst ((Txt.split x y).map .str)) else none
  | _, _ => none
theorem m_splitD {K : PySem.W.Frag} : MRD K (fun v vs H Q => ∃ x y, v = .str x ∧ vs = [.str y] ∧ (y.length == 0) = false ∧ x.length + 2 ≤ sizeLine ∧ ∀ p, H p = none → Q (.ref p) (upd H p (.lst ((Txt.split x y).map V.str)))) g_split := by
  intro F H d v ds vs Q t fh rd rs hg k
  unfold g_split at hg
  split at hg <;> first | (cases hg; done) | skip
  split at hg <;> first | (cases hg; done) | skip
  rename_i hc
  cases hg
  cases rd
  obtain ⟨v, rfl, rv⟩ := repBs1 rs
  cases rv
  exact ⟨_, _, rfl, rfl, hc.1, hc.2, fun p hp => own_lst k fh (Reps.map (fun _ => rep_str) _) hp⟩
theorem g_split_str : ∀ d ds t, g_split d ds = some t → ∃ z, d = .str z := fun d ds t h => by
  unfold g_split at h
  split at h
  · exact ⟨_, rfl⟩
  · cases h
theorem do_split (ho : DB X o fo) (ha : DAB X (e :: es) fs)
    (hbase : attributeBase o "split" X.env (eval o X.env) = eval o X.env := by rfl)
    (hfew : ((backTo cpos (starEach (e :: es) X.env)).all (fun x => !x.1) && (backToKw cpos (keywordEach [] X.env)).all (fun x => x.1.isSome)
      && decide ((e :: es).length + ([] : List Keyword).length + (if ([] : List Keyword).isEmpty then 0 else 1) < 30)) = true := by rfl)
    (hline : (apos.endLine == cpos.line) = true := by rfl) (hs : starEach (e :: es) X.env = (false, eval e X.env) :: starEach es X.env := by rfl) (hplain : (backTo cpos (starEach es X.env)).any (·.1) = false := by rfl) :
    DO X (.Call (.Attribute o "split" apos) (e :: es) [] cpos) (vMeth g_split fo fs) := do_bmS PySem.F.slot_str_split PySem.F.type_str_split mt_split m_splitD g_split_str ho ha hbase hfew hline hs hplain
noncomputable def fmtD : Dt → Option Str
  | .str x => if x.length ≤ sizeLine then some x else none
  | .int i => if logOk i then some (toString i) else none
  | _ => none
noncomputable def PF (X : Cx) (e : Expr) (K : PySem.W.Frag) (f : De → Option Str) : Prop := PE X e (fun σ H Q => ∃ Φ δ F x, Fm.K Φ = K ∧ En Φ δ σ F H ∧ f δ = some x ∧ ∀ H' F', Step F H F' H' → Q (.str x) H')
noncomputable def pfC (x : Str) : De → Option Str := fun _ => some x
noncomputable def pfV (f : De → Option Dt) : De → Option Str := fun δ => (f δ).bind fmtD
theorem pf_const {x : Str} {j} : PF X (.Constant (.str x) j pos) X.K (pfC x) := PE.mono pe_str fun σ H Q ⟨Φ, δ, F, x, hK, en, hf, k⟩ => by
  cases hf
  exact k H F (Step.refl en.fh)
theorem pf_val (h : DB X a fa) : PF X (.FormattedValue a (-1) none pos) X.K (pfV fa) := fun pins s σ H Q I hq => by
  obtain ⟨Φ, δ, F, x, hK, en, hf, k⟩ := hq
  unfold pfV at hf
  obtain ⟨d, hd, hf⟩ := bS hf
  refine FormattedValue_plain (thn (h pins s σ H (fun v H' => ∃ F', RepB X.K F' H' d v ∧ Q (.str x) H') I ⟨Φ, δ, F, d, hK, en, hd, fun v H' F' st r => ⟨F', r, k H' F' st⟩⟩) fun u s1 ⟨v, H1, I1, r1, F1, r, q⟩ => ?_)
  unfold fmtD at hf
  split at hf <;> first | (cases hf; done) | skip
  · split at hf <;> first | (cases hf; done) | skip
    rename_i hl
    cases hf
    cases r
    obtain ⟨t, rfl⟩ := r1
    exact formatField_str (fun t' tk => ⟨.str _, H1, I1.tok _, ⟨_, rfl⟩, q⟩) hl
  · split at hf <;> first | (cases hf; done) | skip
    rename_i hl
    cases hf
    cases r
    obtain ⟨t, rfl⟩ := r1
    exact formatField_int_small (of_decide_eq_true hl) ⟨.str _, H1, I1.tok _, ⟨_, rfl⟩, q⟩
inductive PFs (X : Cx) (K : PySem.W.Frag) : List Expr → List (De → Option Str) → Prop
  | nil : PFs X K [] []
  | cons {e es f fs} : PF X e K f → PFs X K es fs → PFs X K (e :: es) (f :: fs)
noncomputable def glue (out : Str) : List (De → Option Str) → De → Option Str
  | [], _ => if out.length ≤ sizeLine then some out else none
  | f :: r, δ => (f δ).bind fun x => if (out ++ x).length ≤ sizeLine then glue (out ++ x) r δ else none
theorem glue_ok {K : PySem.W.Frag} (hX : X.K = K) : ∀ {es : List Expr} {fs : List (De → Option Str)}, PFs X K es fs → ∀ (out : Str) (pins : List (Addr × Obj)) (s : Shared) (σ : St) (H : Hp) (Q : VK) (Φ : Fm) (δ : De) (F : Hp) (x : Str), Inv X pins σ H s → Fm.K Φ = K → En Φ δ σ F H → glue out fs δ = some x → (∀ H' F', Step F H F' H' → Q (.str x) H') →
    wpAny (model X.prog X.w) X.A (joinParts out (evalEach es X.env)) (EP X pins σ Q) X.xe s := by
  intro es fs h
  induction h with
  | nil =>
    intro out pins s σ H Q Φ δ F x I hK en hg k
    simp only [glue] at hg
    split at hg <;> first | (cases hg; done) | skip
    rename_i hl
    cases hg
    exact joinParts_nil ⟨.str _, H, I.tok _, ⟨_, rfl⟩, k H F (Step.refl en.fh)⟩ hl
  | @cons e es f fs he hes ih =>
    intro out pins s σ H Q Φ δ F x I hK en hg k
    simp only [glue] at hg
    obtain ⟨y, hy, hg⟩ := bS hg
    split at hg <;> first | (cases hg; done) | skip
    rename_i hl
    show wpAny (model X.prog X.w) X.A (joinParts out (eval e X.env :: evalEach es X.env)) _ _ s
    refine joinParts_cons (thn (he pins s σ H (fun v H' => v = .str y ∧ ∃ F', Step F H F' H') I ⟨Φ, δ, F, y, hK, en, hy, fun H' F' st => ⟨rfl, F', st⟩⟩) fun u s1 ⟨v, H1, I1, r1, ev, F1, st⟩ => ?_)
    subst ev
    obtain ⟨t, rfl⟩ := r1
    exact ⟨hl, ih (out ++ y) pins s1 σ H1 Q Φ δ F1 x I1 hK (en.step st) hg fun H' F' st2 => k H' F' (st.trans st2)⟩
noncomputable def vFstr (fs : List (De → Option Str)) : De → Option T := fun δ => (glue Str.empty fs δ).map fun x => .leaf (.str x)
theorem do_fstr {es : List Expr} {e1 e2 : Expr} {fs : List (De → Option Str)} (h : PFs X X.K (e1 :: e2 :: es) fs) : DO X (.JoinedStr (e1 :: e2 :: es) pos) (vFstr fs) := fun pins s σ H Q I hq => by
  obtain ⟨Φ, δ, F, t, hK, en, hf, k⟩ := hq
  unfold vFstr at hf
  obtain ⟨x, hx, hf⟩ := mS hf
  cases hf
  exact JoinedStr_many (glue_ok rfl h Str.empty pins s σ H Q Φ δ F x I hK en hx fun H' F' st => (k.step st).str st.fh)
end
end L2
namespace L2
open PySem PySem.Spec PyProof.Rows
section
variable {X : Cx} {e : Expr} {es : List Expr} {fs : De → Option (List Dt)} {pos p : Pos} {x : Str} {sc : Scope}
end
end L2
namespace L2
open PySem PySem.Spec PyProof.Rows
theorem gAdd_i {i j : Int} : gAdd (.int i) (.int j) = some (.leaf (.int (i + j))) := rfl
theorem gAdd_s {x y : Str} (h : x.length + y.length ≤ sizeLine) : gAdd (.str x) (.str y) = some (.leaf (.str (x ++ y))) := if_pos h
theorem gAdd_l {l m : List Dt} (h : l.length + m.length ≤ sizeLine) : gAdd (.lst l) (.lst m) = some (.lst (l ++ m)) := if_pos h
theorem gSub_i {i j : Int} : gSubD (.int i) (.int j) = some (.leaf (.int (i - j))) := rfl
theorem gMul_i {i j : Int} (h : mulOk i j = true) : gMul (.int i) (.int j) = some (.leaf (.int (i * j))) := if_pos h
theorem gMod_i {i j : Int} (h : 0 < j) : gMod (.int i) (.int j) = some (.leaf (.int (i % j))) := if_pos h
theorem gPow_i {i j : Int} (h : powOk i j = true) : gPow (.int i) (.int j) = some (.leaf (.int (i ^ j.toNat))) := if_pos h
theorem powOk_40 : powOk 2 40 = true := by decide
@[irreducible] def wide : Int := 1099511627776
theorem wide_eq : wide = 1099511627776 := by unfold wide; rfl
theorem gPow_40 : gPow (.int 2) (.int 40) = some (.leaf (.int wide)) := by
  rw [gPow_i powOk_40, wide_eq]
  rfl
theorem wide_pos : (0 : Int) < wide := by rw [wide_eq]; decide
theorem gMod_w {i : Int} : gMod (.int i) (.int wide) = some (.leaf (.int (i % wide))) := gMod_i wide_pos
theorem gCmp_i {f : Int → Int → Bool} {i j : Int} : gCmp f (.int i) (.int j) = some (.leaf (.bl (f i j))) := rfl
theorem gEq_ii {i j : Int} : gEq false (.int i) (.int j) = some (.leaf (.bl (decide (i = j)))) := rfl
theorem gEq_ss {i j : Str} : gEq false (.str i) (.str j) = some (.leaf (.bl (decide (i = j)))) := rfl
theorem gEq_bb {i j : Bool} : gEq false (.bl i) (.bl j) = some (.leaf (.bl (decide (i = j)))) := rfl
theorem gNe_ii {i j : Int} : gEq true (.int i) (.int j) = some (.leaf (.bl (!decide (i = j)))) := rfl
theorem gNe_ss {i j : Str} : gEq true (.str i) (.str j) = some (.leaf (.bl (!decide (i = j)))) := rfl
theorem gIs_n {neg : Bool} {x : Dt} : gIs neg x .non = some (.leaf (.bl (if neg then !isNon x else isNon x))) := rfl
theorem gIx_l {l : List Dt} {i : Int} : gIxA (.lst l) (.int i) = (atI l i).map .leaf := rfl
theorem gIx_t {l : List Dt} {i : Int} : gIxA (.tup l) (.int i) = (atI l i).map .leaf := rfl
theorem gIx_s {x : Str} {i : Int} (h : x.length ≤ sizeLine) : gIxA (.str x) (.int i) = (atI x.cps.toList i).map fun c => .leaf (.str ⟨#[c]⟩) := if_pos h
theorem gIx_d {ks : List Key} {l : List Dt} {k : Dt} : gIxA (.dct ks l) k = (keyD k).bind fun k => (lookZ ks l k).map .leaf := rfl
theorem gIn_d {neg : Bool} {ks : List Key} {l : List Dt} {k : Dt} : gInA neg k (.dct ks l) = (keyD k).map fun k => .leaf (.bl (if neg then !(lookZ ks l k).isSome else (lookZ ks l k).isSome)) := rfl
theorem gIn_l {neg : Bool} {x : Dt} {l : List Dt} (h : (flatD x && l.all flatD) = true) : gInA neg x (.lst l) = some (.leaf (.bl (if neg then !(l.any fun y => eqF y x) else l.any fun y => eqF y x))) := by
  cases x <;> simp only [gInA, gIn, inD] <;> first | rw [if_pos h]; rfl | cases h
theorem gIn_t {neg : Bool} {x : Dt} {l : List Dt} (h : (flatD x && l.all flatD) = true) : gInA neg x (.tup l) = some (.leaf (.bl (if neg then !(l.any fun y => eqF y x) else l.any fun y => eqF y x))) := by
  cases x <;> simp only [gInA, gIn, inD] <;> first | rw [if_pos h]; rfl | cases h
theorem gLen_l {l : List Dt} : gLen [.lst l] = some (.leaf (.int l.length)) := rfl
theorem gLen_t {l : List Dt} : gLen [.tup l] = some (.leaf (.int l.length)) := rfl
theorem gInt_b {i : Bool} : gInt [.bl i] = some (.leaf (.int (if i then 1 else 0))) := rfl
theorem gTuple_l {l : List Dt} : gTuple [.lst l] = some (.leaf (.tup l)) := rfl
theorem rng1_i {j : Int} (h : rngOk j = true) : rng1 [.int j] = some (rangeD 0 j.toNat) := if_pos h
theorem rngOk_of {j : Int} (h0 : -1000000000 ≤ j) (h1 : j ≤ 1000000000) : rngOk j = true := by
  unfold rngOk
  simp only [Bool.and_eq_true, decide_eq_true_eq]
  omega
theorem rng1_n {n : Nat} (h : n ≤ 1000000000) : rng1 [.int n] = some (rangeD 0 n) := by
  rw [rng1_i (rngOk_of (by omega) (by omega))]
  rfl
theorem itD_l {l : List Dt} : itD (.lst l) = some l := rfl
theorem itD_t {l : List Dt} : itD (.tup l) = some l := rfl
theorem itD_s {x : Str} : itD (.str x) = some (signD x) := rfl
theorem truD_b {b : Bool} : truD (.bl b) = some b := rfl
theorem asB_b {b : Bool} : asB (.leaf (.bl b)) = some b := rfl
theorem asBl_b {b : Bool} : asBl (.bl b) = some b := rfl
theorem asI_i {b : Int} : asI (.int b) = some b := rfl
theorem small {n : Nat} (h : n ≤ 1000000) : n ≤ sizeLine := Nat.le_trans h (by decide)
theorem small_lt {n : Nat} (h : n < 1000000) : n < sizeLine := Nat.lt_of_lt_of_le h (by decide)
theorem compL_map {bb : Dt → De → Option De} {ft : De → Option Bool} {fe : De → Option Dt} {δ : De} {f : Dt → Dt} : ∀ {ds : List Dt}, (∀ d ∈ ds, ∃ δ1, bb d δ = some δ1 ∧ ft δ1 = some true ∧ fe δ1 = some (f d)) → compL bb ft fe δ ds = some (ds.map f)
  | [], _ => rfl
  | d :: r, h => by
    obtain ⟨δ1, h1, h2, h3⟩ := h d List.mem_cons_self
    unfold compL
    rw [h1, Option.bind_some, h2, Option.bind_some, if_pos rfl, h3, Option.bind_some, compL_map fun e he => h e (List.mem_cons_of_mem _ he)]
    rfl
theorem compL_ex {bb : Dt → De → Option De} {ft : De → Option Bool} {fe : De → Option Dt} {δ : De} {P : Dt → Dt → Prop} : ∀ {ds : List Dt}, (∀ d ∈ ds, ∃ δ1 y, bb d δ = some δ1 ∧ ft δ1 = some true ∧ fe δ1 = some y ∧ P d y) → ∃ ys, compL bb ft fe δ ds = some ys ∧ Paired P ds ys
  | [], _ => ⟨[], rfl, .nil⟩
  | d :: r, h => by
    obtain ⟨δ1, y, h1, h2, h3, h4⟩ := h d List.mem_cons_self
    obtain ⟨ys, h5, h6⟩ := compL_ex fun e he => h e (List.mem_cons_of_mem _ he)
    refine ⟨y :: ys, ?_, .cons h4 h6⟩
    unfold compL
    rw [h1, Option.bind_some, h2, Option.bind_some, if_pos rfl, h3, Option.bind_some, h5]
    rfl
theorem compL_filter {bb : Dt → De → Option De} {ft : De → Option Bool} {fe : De → Option Dt} {δ : De} {p : Dt → Bool} {f : Dt → Dt} : ∀ {ds : List Dt}, (∀ d ∈ ds, ∃ δ1, bb d δ = some δ1 ∧ ft δ1 = some (p d) ∧ (p d = true → fe δ1 = some (f d))) → compL bb ft fe δ ds = some ((ds.filter p).map f)
  | [], _ => rfl
  | d :: r, h => by
    obtain ⟨δ1, h1, h2, h3⟩ := h d List.mem_cons_self
    have ih := compL_filter fun e he => h e (List.mem_cons_of_mem _ he)
    unfold compL
    rw [h1, Option.bind_some, h2, Option.bind_some]
    cases hp : p d with
    | true =>
      rw [if_pos rfl, h3 hp, Option.bind_some, ih, List.filter_cons_of_pos hp]
      rfl
    | false =>
      rw [if_neg (by simp), ih, List.filter_cons_of_neg (by simp [hp])]
theorem mem_range {lo : Int} {n : Nat} {d : Dt} (h : d ∈ rangeD lo n) : ∃ i : Nat, i < n ∧ d = .int (lo + i) := by
  unfold rangeD at h
  obtain ⟨i, hi, rfl⟩ := List.mem_map.mp h
  exact ⟨i, List.mem_range.mp hi, rfl⟩
theorem range_len {lo : Int} {n : Nat} : (rangeD lo n).length = n := by simp [rangeD]
theorem forD_nil {bb : Dt → De → Option De} {g : De → Option Out} {δ : De} : forD bb g [] δ = some (.nx δ) := rfl
theorem forD_cons {bb : Dt → De → Option De} {g : De → Option Out} {d : Dt} {r : List Dt} {δ δ1 δ2 : De} (h1 : bb d δ = some δ1) (h2 : g δ1 = some (.nx δ2)) : forD bb g (d :: r) δ = forD bb g r δ2 := by
  show ((bb d δ).bind fun δ1 => (g δ1).bind fun o => match o with | .nx δ2 => forD bb g r δ2 | .ct δ2 => forD bb g r δ2 | .bk δ2 => some (.nx δ2) | .rt t => some (.rt t) | .re t δ2 => some (.re t δ2)) = _
  rw [h1, Option.bind_some, h2]
  rfl
theorem atI_nat' {α : Type} {l : List α} {k : Nat} : atI l (k : Int) = l[k]? := by
  unfold atI ixN
  rw [if_pos (by omega)]
  by_cases h : k < l.length
  · rw [if_pos (by omega)]
    simp
  · rw [if_neg (by omega)]
    simp
    omega
theorem gMul_l {i j : Int} (h1 : -1000000000000000000 < i) (h2 : i < 1000000000000000000) : gMul (.int i) (.int j) = some (.leaf (.int (i * j))) := gMul_i (mulOk_l h1 h2)
theorem gMul_r {i j : Int} (h1 : -1000000000000000000 < j) (h2 : j < 1000000000000000000) : gMul (.int i) (.int j) = some (.leaf (.int (i * j))) := gMul_i (mulOk_r h1 h2)
noncomputable def thenO (o : Option Out) (g : De → Option Out) : Option Out := o.bind fun o => match o with
  | .nx δ' => g δ'
  | o => some o
theorem sSeq_d {g1 g2 : De → Option Out} {δ : De} : sSeq g1 g2 δ = thenO (g1 δ) g2 := rfl
theorem thenO_nx {δ : De} {g : De → Option Out} : thenO (some (.nx δ)) g = g δ := rfl
theorem thenO_rt {t : T} {g : De → Option Out} : thenO (some (.rt t)) g = some (.rt t) := rfl
noncomputable def finO : Option Out → Option T
  | some (.rt t) => some t
  | some (.nx _) => some (.leaf .non)
  | _ => none
theorem runD_d {m : Nat} {g : De → Option Out} {ds : List Dt} : runD m g ds = finO (g (ds.map (fun d => some (.leaf d)) ++ List.replicate (m - ds.length) none)) := rfl
theorem finO_rt {t : T} : finO (some (.rt t)) = some t := rfl
theorem finO_nx {δ : De} : finO (some (.nx δ)) = some (.leaf .non) := rfl
noncomputable def condO {α : Type} (b : Option Bool) (f g : De → Option α) (δ : De) : Option α := b.bind fun b => if b then f δ else g δ
theorem condO_t {α : Type} {f g : De → Option α} {δ : De} : condO (some true) f g δ = f δ := rfl
theorem condO_f {α : Type} {f g : De → Option α} {δ : De} : condO (some false) f g δ = g δ := rfl
theorem condO_p {α : Type} {f g : De → Option α} {δ : De} {b : Bool} (h : b = true) : condO (some b) f g δ = f δ := by subst h; rfl
theorem condO_n {α : Type} {f g : De → Option α} {δ : De} {b : Bool} (h : b = false) : condO (some b) f g δ = g δ := by subst h; rfl
theorem sIf_d {c : De → Option Bool} {g1 g2 : De → Option Out} {δ : De} : sIf c g1 g2 δ = condO (c δ) g1 g2 δ := rfl
theorem vIf_d {c : De → Option Bool} {g1 g2 : De → Option T} {δ : De} : vIf c g1 g2 δ = condO (c δ) g1 g2 δ := rfl
noncomputable def kB (b : Bool) : De → Option Bool := fun _ => some b
noncomputable def kT (b : Bool) : De → Option T := fun _ => some (.leaf (.bl b))
theorem kB_d {b : Bool} {δ : De} : kB b δ = some b := rfl
theorem kT_d {b : Bool} {δ : De} : kT b δ = some (.leaf (.bl b)) := rfl
theorem fAnd_d {f g : De → Option Bool} {δ : De} : fAnd f g δ = condO (f δ) g (kB false) δ := rfl
theorem fOr_d {f g : De → Option Bool} {δ : De} : fOr f g δ = condO (f δ) (kB true) g δ := rfl
theorem vAnd_d {f : De → Option Dt} {g : De → Option T} {δ : De} : vAnd f g δ = condO ((f δ).bind asBl) g (kT false) δ := by
  unfold vAnd condO kT
  cases f δ with
  | none => rfl
  | some d => rfl
noncomputable def mkL (ds : List Dt) : Option T := if ds.length ≤ sizeLine then some (.lst ds) else none
noncomputable def mkTp (ds : List Dt) : Option T := if ds.length ≤ sizeLine then some (.leaf (.tup ds)) else none
theorem mkL_of {ds : List Dt} (h : ds.length ≤ 1000000) : mkL ds = some (.lst ds) := if_pos (small h)
theorem mkTp_of {ds : List Dt} (h : ds.length ≤ 1000000) : mkTp ds = some (.leaf (.tup ds)) := if_pos (small h)
theorem vLst_d {f : De → Option (List Dt)} {δ : De} : vLst f δ = (f δ).bind mkL := rfl
theorem vTup_d {f : De → Option (List Dt)} {δ : De} : vTup f δ = (f δ).bind mkTp := rfl
theorem vComp_d {src : List (Option Nat)} {fi : De → Option (List Dt)} {bb : Dt → De → Option De} {ft : De → Option Bool} {fe : De → Option Dt} {δ : De} : vComp src fi bb ft fe δ = (fi δ).bind fun ds => (compL bb ft fe (dC src δ) ds).bind mkL := rfl
noncomputable def appL (l : List Dt) (i : Nat) (δ : De) (d : Dt) : Option Out := if l.length < sizeLine then some (.nx (δ.set i (some (.lst (l ++ [d]))))) else none
theorem appL_of {l : List Dt} {i : Nat} {δ : De} {d : Dt} (h : l.length < 1000000) : appL l i δ d = some (.nx (δ.set i (some (.lst (l ++ [d]))))) := if_pos (small_lt h)
theorem app_d {i : Nat} {f : De → Option Dt} {δ : De} {l : List Dt} (h : δ[i]? = some (some (.lst l))) : q25 i f δ = (f δ).bind (appL l i δ) := by
  unfold q25
  rw [h]
  rfl
theorem join_signs (cs : List Nat) : Txt.join "" (cs.map fun c => (⟨#[c]⟩ : Str)) = ⟨cs.toArray⟩ := by
  have e0 : ("" : Str).cps = #[] := by decide +kernel
  have go : ∀ (l : List Nat) (acc : Array Nat), (l.map fun c => (⟨#[c]⟩ : Str)).foldl (fun acc p => acc ++ ("" : Str).cps ++ p.cps) acc = acc ++ l.toArray := by
    intro l
    induction l with
    | nil => intro acc; simp
    | cons c l ih =>
      intro acc
      rw [List.map_cons, List.foldl_cons, ih, e0]
      simp
  unfold Txt.join Builtin.Str.glued
  cases cs with
  | nil => rfl
  | cons c r =>
    show (⟨(r.map fun c => (⟨#[c]⟩ : Str)).foldl (fun acc p => acc ++ ("" : Str).cps ++ p.cps) (#[c] : Array Nat)⟩ : Str) = _
    rw [go]
    simp
theorem joinOk_signs (cs : List Nat) (h : cs.length ≤ 1000) : JoinOk "" (cs.map fun c => (⟨#[c]⟩ : Str)) = true := by
  unfold JoinOk
  have h1 : ∀ y ∈ cs.map (fun c => (⟨#[c]⟩ : Str)), y.length ≤ 1 := fun y hy => by
    obtain ⟨c, _, rfl⟩ := List.mem_map.mp hy
    exact Nat.le_refl _
  rw [StrLaws.joinFits h1 (by rw [List.length_map, show ("" : Str).length = 0 by decide +kernel]; omega)]
  rfl
theorem asStrs_map : ∀ ts : List Str, asStrs (ts.map .str) = some ts
  | [] => rfl
  | t :: r => by
    show (asStrs (r.map .str)).map (t :: ·) = _
    rw [asStrs_map r]
    rfl
noncomputable def sgD (cs : List Nat) : List Dt := cs.map fun c => .str ⟨#[c]⟩
theorem join_sgD {cs : List Nat} (h : cs.length ≤ 1000) : g_join (.str "") [.lst (sgD cs)] = some (.leaf (.str ⟨cs.toArray⟩)) := by
  have e : sgD cs = (cs.map fun c => (⟨#[c]⟩ : Str)).map .str := by unfold sgD; rw [List.map_map]; rfl
  show (asStrs (sgD cs)).bind _ = _
  rw [e, asStrs_map, Option.bind_some, if_pos (joinOk_signs cs h), join_signs]
theorem atI_in {α : Type} {xs : List α} {i : Int} (h0 : 0 ≤ i) (h1 : i < xs.length) : ∃ v, atI xs i = some v ∧ v ∈ xs := by
  obtain ⟨n, rfl⟩ := Int.eq_ofNat_of_zero_le h0
  have hn : n < xs.length := by omega
  exact ⟨xs[n], atI_nat (by simp [hn]), List.getElem_mem hn⟩
theorem len_cps (x : Str) : x.length = x.cps.toList.length := by
  show x.cps.size = _
  simp
theorem gAdd_ls {l m : List Dt} (h : l.length + m.length ≤ 1000000) : gAdd (.lst l) (.lst m) = some (.lst (l ++ m)) := gAdd_l (small h)
theorem flatD_s {x : Str} : flatD (.str x) = true := rfl
theorem eqF_s {x y : Str} : eqF (.str x) (.str y) = decide (x = y) := by
  show (x == y) = _
  rw [Bool.eq_iff_iff]
  simp
theorem eqF_i {x y : Int} : eqF (.int x) (.int y) = decide (x = y) := by
  show (x == y) = _
  rw [Bool.eq_iff_iff]
  simp
theorem sFor_d {fi : De → Option (List Dt)} {bb : Dt → De → Option De} {g : De → Option Out} {δ : De} : sFor fi bb g δ = (fi δ).bind fun ds => forD bb g ds δ := rfl
theorem emod_cases (a : Int) {n : Nat} (hn : 0 < n) : ∃ k : Nat, k < n ∧ a % (n : Int) = (k : Int) := by
  have h0 := Int.emod_nonneg a (show (n : Int) ≠ 0 by omega)
  have h1 := Int.emod_lt_of_pos a (show (0 : Int) < n by omega)
  exact ⟨(a % (n : Int)).toNat, by omega, by omega⟩
theorem atI_0 {α : Type} {l : List α} : atI l 0 = l[0]? := atI_nat' (k := 0)
theorem atI_1 {α : Type} {l : List α} : atI l 1 = l[1]? := atI_nat' (k := 1)
theorem atI_2 {α : Type} {l : List α} : atI l 2 = l[2]? := atI_nat' (k := 2)
theorem atI_3 {α : Type} {l : List α} : atI l 3 = l[3]? := atI_nat' (k := 3)
theorem atI_4 {α : Type} {l : List α} : atI l 4 = l[4]? := atI_nat' (k := 4)
theorem atI_m1 {α : Type} {x : α} {l : List α} : atI (x :: l) (-1) = (x :: l)[l.length]? := by
  unfold atI ixN
  rw [if_neg (by decide), if_pos (by simp only [List.length_cons]; omega)]
  simp only [Option.bind_some]
  congr 1
  simp only [List.length_cons]
  omega
theorem forD_at {bb : Dt → De → Option De} {g : De → Option Out} (P : List Dt → De → Prop) (all : List Dt) : ∀ (ds done : List Dt) (δ : De), all = done ++ ds → P done δ → (∀ done d r δ, all = done ++ d :: r → P done δ → ∃ δ1 δ2, bb d δ = some δ1 ∧ (g δ1 = some (.nx δ2) ∨ g δ1 = some (.ct δ2)) ∧ P (done ++ [d]) δ2) → ∃ δ', forD bb g ds δ = some (.nx δ') ∧ P all δ'
  | [], done, δ, ha, h, _ => ⟨δ, rfl, by rw [ha, List.append_nil]; exact h⟩
  | d :: r, done, δ, ha, h, hs => by
    obtain ⟨δ1, δ2, h1, h2, h3⟩ := hs done d r δ ha h
    obtain ⟨δ', h4, h5⟩ := forD_at P all r (done ++ [d]) δ2 (by rw [ha]; simp) h3 hs
    refine ⟨δ', ?_, h5⟩
    unfold forD
    rw [h1, Option.bind_some]
    rcases h2 with h2 | h2 <;> rw [h2, Option.bind_some] <;> exact h4
theorem range_at {lo : Int} {n : Nat} {done r : List Dt} {d : Dt} (h : rangeD lo n = done ++ d :: r) : d = .int (lo + done.length) ∧ done.length < n := by
  have hl : done.length < n := by
    have e := congrArg List.length h
    rw [range_len, List.length_append, List.length_cons] at e
    omega
  have e : (rangeD lo n)[done.length]? = some d := by rw [h]; simp
  unfold rangeD at e
  rw [List.getElem?_map, List.getElem?_range hl] at e
  exact ⟨(Option.some.inj e).symm, hl⟩
end L2
namespace L2
open PySem PySem.Spec PyProof.Rows
noncomputable def SDic (P : Program) (w : World) (K : PySem.W.Frag) (mg : Str → Option Value) (x : Str) (ks : List Key) (l : List Dt) : Prop :=
  ∃ (a : Addr) (kvs : List (Key × V)) (vs : List (Key × Value)), mg x = some (.ref a) ∧ (a == sysModules) = false ∧ kvs.map (·.1) = ks ∧ (∀ F, Reps K F l (kvs.map (·.2))) ∧ KV kvs vs ∧ ∀ h : Heap, K.In h → h.DictOf (mixKind P w) a vs
noncomputable def gSg (ks : List Key) (l : List Dt) : Dt → Option T := fun k => (keyD k).bind fun k => (lookZ ks l k).map .leaf
noncomputable def vSg (ks : List Key) (l : List Dt) (f : De → Option Dt) : De → Option T := fun δ => (f δ).bind (gSg ks l)
noncomputable def gSi (neg : Bool) (ks : List Key) (l : List Dt) : Dt → Option Bool := fun k => (keyD k).map fun k => if neg then !(lookZ ks l k).isSome else (lookZ ks l k).isSome
noncomputable def fSi (neg : Bool) (ks : List Key) (l : List Dt) (f : De → Option Dt) : De → Option Bool := fun δ => (f δ).bind (gSi neg ks l)
section
variable {X : Cx} {b : Expr} {fb : De → Option Dt} {pos p : Pos} {x : Str} {sc : Scope} {ks : List Key} {l : List Dt}
noncomputable def tSg (kvs : List (Key × V)) (ty : TE) : TE := fun σ H Q => ty σ H fun y H1 => ∃ k v, y = kV k ∧ valV kvs k = some v ∧ Q v H1
noncomputable def tSi (neg : Bool) (kvs : List (Key × V)) (ty : TE) : TE := fun σ H Q => ty σ H fun y H1 => ∃ k, y = kV k ∧ Q (.bl (if neg then !(valV kvs k).isSome else (valV kvs k).isSome)) H1
theorem pe_sg {a : Addr} {kvs : List (Key × V)} {vs : List (Key × Value)} {ty : TE} (h : glOk sc x = true) (hg : X.mg x = some (.ref a)) (rel : KV kvs vs) (hD : ∀ h : Heap, X.K.In h → h.DictOf (mixKind X.prog X.w) a vs) (hb : PE X b ty) (hn : NoSl b) (e1 : ScIs X sc := by rfl) :
    PE X (.Subscript (.Name x p) b pos) (tSg kvs ty) := by
  intro pins s σ H Q I q
  have hx : PE X (.Name x p) (tC (.ref a)) := pe_globD h ⟨_, hg, rfl⟩ e1
  refine subD_of PySem.F.slot_dict_getitem.lookup hn (thn (hx pins s σ H (fun y H1 => y = .ref a ∧ tSg kvs ty σ H1 Q) I ⟨rfl, q⟩) fun u s1 ⟨y0, H1, I1, rx, e0, q1⟩ => thn (hb pins s1 σ H1 _ I1 q1) fun iv s2 ⟨y, H2, I2, ry, k, v, ey, hv, q2⟩ => ?_)
  subst e0 ey
  obtain rfl : u = Value.ref a := rx
  have dd := hD _ I2.kIn
  obtain ⟨w', hw, rw'⟩ := RelO.some_of (v := v) (o := valueAt vs k) (by rw [← hv]; exact rel.val k)
  exact ⟨dd.typeIs, wpAny_getItem_of (kV_is ry) dd.mapOf hw ⟨v, H2, I2.tok _, rw', q2⟩⟩
theorem pc_sni {a : Addr} {kvs : List (Key × V)} {vs : List (Key × Value)} {ty : TE} (h : glOk sc x = true) (hg : X.mg x = some (.ref a)) (hs : (a == sysModules) = false) (rel : KV kvs vs) (hD : ∀ h : Heap, X.K.In h → h.DictOf (mixKind X.prog X.w) a vs) (hb : PE X b ty) (e1 : ScIs X sc := by rfl) :
    PC X .NotIn b (.Name x p) (tSi true kvs ty) := by
  intro pins s σ H Q I q
  have hx : PE X (.Name x p) (tC (.ref a)) := pe_globD h ⟨_, hg, rfl⟩ e1
  refine thn (hb pins s σ H _ I q) fun iv s1 ⟨y, H1, I1, ry, k, ey, q1⟩ => thn (hx pins s1 σ H1 (fun y H2 => y = .ref a ∧ Q (.bl (!(valV kvs k).isSome)) H2) I1 ⟨rfl, q1⟩) fun u s2 ⟨y0, H2, I2, rx, e0, q2⟩ => ?_
  subst e0 ey
  obtain rfl : u = Value.ref a := rx
  have dd := hD _ I2.kIn
  refine wpAny_notIn_of (kV_is ry) hs dd.mapOf ?_
  rw [← (rel.val k).isSome_eq]
  exact ⟨.bl (!(valV kvs k).isSome), H2, I2.tok _, rfl, q2⟩
theorem do_sg (h : glOk sc x = true) (hm : SDic X.prog X.w X.K X.mg x ks l) (hb : DB X b fb) (e1 : ScIs X sc := by rfl) (hn : NoSl b := by exact fun _ _ => rfl) : DO X (.Subscript (.Name x p) b pos) (vSg ks l fb) := by
  obtain ⟨a, kvs, vs, hg, hs, rfl, hR, rel, hD⟩ := hm
  refine PE.mono (pe_sg h hg rel hD hb hn e1) fun σ H Q ⟨Φ, δ, F, t, hK, en, hf, k⟩ => ?_
  unfold vSg at hf
  obtain ⟨y, hy, hf⟩ := bS hf
  obtain ⟨kk, hk, hf⟩ := bS hf
  obtain ⟨d, hd, hf⟩ := mS hf
  cases hf
  refine ⟨Φ, δ, F, y, hK, en, hy, fun v H1 F1 st rv => ?_⟩
  obtain ⟨w, hw, rw'⟩ := look_some (hR F1) hd
  exact ⟨kk, w, keyD_of rv hk, hw, (k.step st).leaf.here st.fh rw'⟩
theorem si_of {neg : Bool} {K : PySem.W.Frag} {kvs : List (Key × V)} (hR : ∀ F, Reps K F l (kvs.map (·.2))) {σ : St} {H : Hp} {Q : Bool → Hp → Prop} (h : tTr K (fSi neg (kvs.map (·.1)) l fb) σ H Q) : tSi neg kvs (tBd K fb) σ H (fun v H' => ∃ c, v = .bl c ∧ Q c H') := by
  obtain ⟨Φ, δ, F, t, hK, en, hf, k⟩ := h
  unfold fSi at hf
  obtain ⟨y, hy, hf⟩ := bS hf
  obtain ⟨kk, hk, hf⟩ := mS hf
  subst hf
  refine ⟨Φ, δ, F, y, hK, en, hy, fun v H1 F1 st rv => ⟨kk, keyD_of rv hk, _, rfl, ?_⟩⟩
  rw [← look_is (hR F1)]
  exact k H1 F1 st
theorem dt_sni (h : glOk sc x = true) (hm : SDic X.prog X.w X.K X.mg x ks l) (hb : DB X b fb) (e1 : ScIs X sc := by rfl) (hk : behindInMarks .NotIn (.Name x p) = false := by with_unfolding_all rfl) : DT X (.Compare b [.NotIn] [.Name x p] pos) (fSi true ks l fb) := by
  obtain ⟨a, kvs, vs, hg, hs, rfl, hR, rel, hD⟩ := hm
  exact PT.mono (pt_cmp (pc_sni h hg hs rel hD hb e1) hk) fun σ H Q q => si_of hR q
end
end L2
namespace L2
open PySem PySem.Spec PyProof.Rows
noncomputable def sEnt (p : Params) (q : Str × Tok × V × Value) : DictEntry := ⟨PyData.keyHash p q.1, .str q.1 q.2.1, q.2.2.2⟩
theorem sdic_mk {P : Program} {w : World} {K : PySem.W.Frag} {mg : Str → Option Value} {x : Str} {a : Addr} {o : Obj} {ep : Nat} {l : List Dt} (rs : List (Str × Tok × V × Value)) (hm : mg x = some (.ref a)) (hl : K.lookup a = some o) (hc : o.ExactDict) (hd : o.data = .dict (rs.map (sEnt w.params)).toArray ep)
    (hs : (a == sysModules) = false) (hn : (rs.map (·.1)).Nodup) (hv : ∀ r ∈ rs, RelV r.2.2.1 r.2.2.2) (hR : ∀ F, Reps K F l (rs.map (·.2.2.1))) : SDic P w K mg x (rs.map fun r => .inr r.1) l := by
  refine ⟨a, rs.map fun r => (.inr r.1, r.2.2.1), rs.map fun r => (.inr r.1, r.2.2.2), hm, hs, by rw [List.map_map]; rfl, fun F => by rw [List.map_map]; exact hR F, ?_, fun h X => ⟨o, _, ep, X a o hl, hc, hd, ?_, ?_, ?_⟩⟩
  · clear hd hn hR
    induction rs with
    | nil => exact .nil
    | cons r rs ih => exact .cons ⟨rfl, hv r List.mem_cons_self⟩ (ih fun r hr => hv r (List.mem_cons_of_mem _ hr))
  · intro e he
    obtain ⟨r, _, rfl⟩ := List.mem_map.mp (List.mem_toArray.mp he)
    exact ⟨.inr r.1, mixKind_str P w r.1 r.2.1, rfl⟩
  · show Pairs (mixKind P w) (rs.map (sEnt w.params)) _
    clear hd hn hR hv
    induction rs with
    | nil => exact .nil
    | cons r rs ih => exact .cons (mixKind_str P w r.1 r.2.1) rfl ih
  · rw [List.map_map]
    have : (rs.map ((fun x : Key × Value => x.1) ∘ fun r => ((Sum.inr r.1 : Key), r.2.2.2))) = (rs.map (·.1)).map Sum.inr := by rw [List.map_map]; rfl
    rw [this]
    exact List.Pairwise.map _ (fun a b h q => h (Sum.inr.inj q)) hn
theorem rep_stup {K : PySem.W.Frag} {a : Addr} {o : Obj} {its : Array Value} {n : Nat} {xs : List V} {ds : List Dt} (hl : K.lookup a = some o) (hc : o.cls = .type "tuple") (hd : o.data = .seq its n) (hr : Vals xs its.toList) (hz : xs.length ≤ sizeLine) {F : Hp} (hx : Reps K F ds xs) : Rep K F (.tup ds) (.ref a) := by
  simp only [Rep]
  exact ⟨a, xs, rfl, .inr ⟨o, its, n, hl, hc, hd, by rw [← Array.length_toList, ← hr.length]; exact hz, hr⟩, hx⟩
theorem glob_tup {K : PySem.W.Frag} {mg : Str → Option Value} {x : Str} {a : Addr} {o : Obj} {its : Array Value} {n : Nat} {xs : List V} {ds : List Dt} (hm : mg x = some (.ref a)) (hl : K.lookup a = some o) (hc : o.cls = .type "tuple") (hd : o.data = .seq its n) (hr : Vals xs its.toList) (hz : xs.length ≤ sizeLine) (hx : ∀ F, Reps K F ds xs) : GlobD K mg x (.tup ds) :=
  ⟨.ref a, ⟨_, hm, rfl⟩, fun F => rep_stup hl hc hd hr hz (hx F)⟩
theorem ds_no {X : Cx} {ss : List Stmt} : DS X ss (fun _ => none) := fun pins s σ H D I h => by
  obtain ⟨_, _, _, _, _, _, hf, _⟩ := h
  cases hf
inductive RepsI (K : PySem.W.Frag) (F : Hp) : List Dt → List V → Prop
  | nil : RepsI K F [] []
  | cons {d : Dt} {v : V} {l : List Dt} {vs : List V} : Rep K F d v → RepsI K F l vs → RepsI K F (d :: l) (v :: vs)
theorem reps_of {K : PySem.W.Frag} {F : Hp} {l : List Dt} {vs : List V} (h : RepsI K F l vs) : Reps K F l vs := by
  induction h with
  | nil => simp [Reps]
  | cons h _ ih => simp only [Reps]; exact ⟨_, _, rfl, h, ih⟩
end L2
namespace L2
open PySem PySem.Spec PyProof.Rows
section
variable {X : Cx} {elt tg iter : Expr} {ifs : List Expr} {scope : Scope} {pos : Pos} {M : List Str} {src : List (Option Nat)} {wi : TI} {g : TG} {tt : TT} {te : TE}
theorem lcomp_run {pins : List (Addr × Obj)} {s : Shared} {σ : St} {H : Hp} {Q : VK} {cpos : Pos} {use : Option (Value → Sem Unit)} {QQ : Value → Shared → Prop} (S : CmpScope X.N X.env.scope scope M src) (hc : X.calm = true) (hi : PI X tg iter wi) (hg : M.Nodup → ∀ C s H ex, PG (cxC X M scope C s H ex) tg g) (ht : ∀ C s H ex, PTs (cxC X M scope C s H ex) ifs tt)
    (he : ∀ C s H ex, PE (cxC X M scope C s H ex) elt te) (hs : ∀ x, foldedSetIterable iter X.env x = pure x) (I : Inv X pins σ H s) (h : tComp src wi g tt te σ H Q)
    (hfin : ∀ (D C : Addr) (H' : Hp) (s' : Shared) (m : Str → Option Value), Inv X pins σ H' s' → FpOk X pins H' C → s'.heap.Ns C m → Q (.ref D) H' → compPost (model X.prog X.w) X.A X.xe use QQ (.ref D) C (.ok .next) s') :
    wpAny (model X.prog X.w) X.A (comprehension (.ListComp elt [⟨tg, iter, ifs, 0⟩] scope pos) scope X.env cpos (newList []) false (eval iter X.env) use) QQ X.xe s := by
  have hcells : ∀ x ∈ scope.names, x.2 = .free → ∃ c, X.env.cells.lookup x.1 = some c := fun x hx hfr => I.ok.has x.1 (S.free x hx hfr)
  refine wpAny_comprehension_free (use := use) rfl hs (closure_eq hcells) S.kind S.names (thn (hi pins s σ H _ I h) fun v s1 h1 => thn h1 fun itv s2 h2 => ?_)
  obtain ⟨it, fp, tn, J, H2, rfl, I2, T, st2, f2, hq⟩ := h2
  refine wpAny_newObj_type ?_
  have I3 : Inv X pins σ (upd H2 s2.heap.objs.size (.lst [])) { s2 with heap := s2.heap.push { cls := .type "list", dict := none, data := .seq ([] : List Value).toArray }, toks := s2.toks } := I2.lnew (its := []) (ys := []) (t' := s2.toks) .nil (by simp)
  have hD : H2 s2.heap.objs.size = none := I2.fresh
  obtain ⟨W, ⟨m0, w0⟩, turn⟩ := hq _ hD
  generalize hDn : s2.heap.objs.size = D at *
  generalize hs3 : ({ s2 with heap := s2.heap.push { cls := .type "list", dict := none, data := .seq ([] : List Value).toArray }, toks := s2.toks } : Shared) = s3 at *
  have f3 : ∀ b ∈ fp, FpOk X pins (upd H2 D (.lst [])) b := fun b hb => ⟨by
    obtain ⟨o, e, _⟩ := T.obj _ _ st2 b hb
    rw [upd_ne (by rw [← hDn]; exact Nat.ne_of_lt (Heap.lt_size e))]
    exact (f2 b hb).1, (f2 b hb).2⟩
  have k23 : ∀ b o, s2.heap.get? b = some o → s3.heap.get? b = some o := fun b o e => by rw [← hs3]; exact Heap.get?_push_of_some _ e
  have st3 : tn 0 s3.heap := T.keep _ _ _ st2 fun b _ o e => k23 b o e
  have fl3 : ∀ b ∈ fp, b < s3.heap.objs.size := fun b hb => by
    obtain ⟨o, e, _⟩ := T.obj _ _ st3 b hb
    exact Heap.lt_size e
  refine wpAny_newFunctionEnv S.nocell (by intro y hy; simp at hy) (fun h₁ hns₁ hsb₁ => ?_) S.kind
  have k34 : ∀ b o, s3.heap.get? b = some o → h₁.get? b = some o := fun b o e => hsb₁.extBut b o (Nat.ne_of_lt (Heap.lt_size e)) (Heap.get?_push_of_some _ e)
  generalize hs4 : ({ s3 with heap := h₁, toks := s3.toks + ([] : List (Str × Value)).length } : Shared) = s4
  have I4 : Inv (cxC X M scope s3.heap.objs.size s3 (upd H2 D (.lst [])) fp) [] (stC src σ) (upd H2 D (.lst [])) s4 := by
    rw [← hs4]
    exact inv_comp S I3 f3 fl3 hns₁ k34 rfl rfl
  have st4 : tn 0 s4.heap := T.keep _ _ _ st3 fun b _ o e => by rw [← hs4]; exact k34 b o e
  generalize hX' : cxC X M scope s3.heap.objs.size s3 (upd H2 D (.lst [])) fp = X' at *
  have hg' : PG X' tg g := by rw [← hX']; exact hg S.nd _ _ _ _
  have ht' : PTs X' ifs tt := by rw [← hX']; exact ht _ _ _ _
  have he' : PE X' elt te := by rw [← hX']; exact he _ _ _ _
  have eP : X'.prog = X.prog := by rw [← hX']; rfl
  have eW : X'.w = X.w := by rw [← hX']; rfl
  have eK : X'.K = X.K := by rw [← hX']; rfl
  have eA : X'.A = X.A := by rw [← hX']; rfl
  have ex' : X'.xe = fun _ _ => False := by rw [← hX']; rfl
  have ec : X'.calm = true := by rw [← hX']; exact hc
  have eE : X'.env = compEnvC scope (clOf scope.names X.env.cells) s3.heap.objs.size X.env := by rw [← hX']; rfl
  have stat : ∀ {H' : Hp}, (∀ b ∈ fp, H' b = none) → ∀ b ∈ fp, FpOk X' [] H' b := fun hn b hb => by
    rw [← hX']
    refine ⟨hn b hb, Nat.ne_of_lt (fl3 b hb), fun z => ?_, .inl hb, fun x c h => (f3 b hb).2.2.2.2.1 x c (clOf_lookup hcells h), fun p hp => absurd hp (by simp [cxC])⟩
    rcases List.mem_cons.mp (I3.stkSub b z) with q | q
    · exact (f3 b hb).2.1 q
    · exact (f3 b hb).2.2.1 q
  -- behind the block
  have fin : ∀ (H' : Hp) (s' : Shared), Inv X' [] (stC src σ) H' s' → Q (.ref D) H' → compPost (model X.prog X.w) X.A X.xe use QQ (.ref D) s3.heap.objs.size (.ok .next) s' := by
    intro H' s' J' q
    rw [← hX'] at J'
    obtain ⟨m, hn, _⟩ := id J'.loc
    have hC : H' s3.heap.objs.size = none := J'.free
    have un : Un (frs X.stack) fp (upd H2 D (.lst [])) H' s3.heap s'.heap := J'.base
    have IA : Inv X pins σ H' s' := I3.call' (s' := s') (show s'.os = s3.os from J'.os) un J'.hok J'.bare fun b hb => ⟨(f3 b hb).2.2.2.1, (f3 b hb).2.1, (f3 b hb).2.2.2.2.1, (f3 b hb).2.2.2.2.2⟩
    exact hfin D _ H' s' m IA (I3.fpOk (Nat.le_refl _) hC) hn q
  have loop : ∀ s4' : Shared, s4' = s4 → codeAny (model X.prog X.w) X.A (.compLoop (.ListComp elt [⟨tg, iter, ifs, 0⟩] scope pos) 0 (.ref it) (.ref D) X'.env) (compPost (model X.prog X.w) X.A X.xe use QQ (.ref D) s3.heap.objs.size) s4' := by
    rintro _ rfl
    refine compLoop_gen (fun n s' => ∃ i H', Inv X' [] (stC src σ) H' s' ∧ tn i s'.heap ∧ (∀ b ∈ fp, H' b = none) ∧ W i n H') ?_ m0 ⟨0, _, I4, st4, fun b hb => (f3 b hb).1, w0⟩
    rintro n s5 ⟨i, H5, I5, st5, fr5, w5⟩
    rcases turn i n H5 w5 with ⟨stop, qn⟩ | ⟨go, N, hN, step⟩
    · have := T.done X' eP eW eK ec i [] s5 (stC src σ) H5 (fun _ _ => False) I5 (stat fr5) st5 stop
      rw [eA] at this
      refine thn this fun r s6 ⟨hr, I6⟩ => ?_
      subst hr
      exact fin H5 s6 I6 qn
    · have := T.item X' eP eW eK ec i [] s5 (stC src σ) H5 (fun _ _ => False) I5 (stat fr5) st5 go
      rw [eA] at this
      refine thn this fun r s6 ⟨u, hr, h6⟩ => ?_
      subst hr
      refine thn h6 fun _ s7 ⟨x, H7, I7, r7, y7, st7, fr7⟩ => ?_
      have I7' := I7.pinned (stat fr7) (T.obj _ _ st7)
      have a1 := hg' _ s7 (stC src σ) H7 x u _ I7' r7 (step x H7 y7)
      rw [ex', eP, eW, eA] at a1
      refine thn a1 fun _ s8 ⟨σ8, H8, I8, wk8, q8⟩ => ?_
      have a2 := ht' _ s8 σ8 H8 _ I8 q8
      rw [ex', eP, eW, eA] at a2
      refine thn a2 fun ok s9 ⟨H9, I9, q9⟩ => ?_
      have again : ∀ {H7' : Hp} {s' : Shared}, Inv X' ([] ++ pinsAt fp s7.heap) σ8 H7' s' → N H7' → ∃ m, m < n ∧ ∃ i H', Inv X' [] (stC src σ) H' s' ∧ tn i s'.heap ∧ (∀ b ∈ fp, H' b = none) ∧ W i m H' := fun {H7' s'} J7 n7 => by
        obtain ⟨m', hm, w7⟩ := hN H7' n7
        refine ⟨m', hm, i + 1, H7', J7.unpinned.weak wk8.1 wk8.2, T.keep _ _ _ st7 fun b hb o e => (J7.pin (b, o) (List.mem_append_right _ (List.mem_append_right _ (mem_pinsAt hb e)))).1, fun b hb => ?_, w7⟩
        obtain ⟨o, e, d⟩ := T.obj _ _ st7 b hb
        exact (J7.pin (b, o) (List.mem_append_right _ (List.mem_append_right _ (mem_pinsAt hb e)))).2.1
      cases ok with
      | false => exact again I9 q9
      | true =>
        have a3 := he' _ s9 σ8 H9 _ I9 q9
        rw [ex', eP, eW, eA] at a3
        refine thn a3 fun v s10 ⟨y, H10, I10, r10, ys, hl, hz, q10⟩ => ?_
        have a4 := mt_append (X := X') _ s10 σ8 H10 (.ref D) [y] (.ref D) [v] (fun _ H' => N H') I10 rfl (.cons r10 .nil) ⟨D, ys, y, rfl, rfl, hl, hz, q10⟩
        rw [ex', eP, eW, eA] at a4
        refine thn a4 fun _ s11 ⟨_, H11, I11, _, q11⟩ => ?_
        exact again I11 q11
  have e4 : ∀ c : Env, c = X'.env → codeAny (model X.prog X.w) X.A (.compStart (.ListComp elt [⟨tg, iter, ifs, 0⟩] scope pos) 0 (.ref it) (.ref D) c) (compPost (model X.prog X.w) X.A X.xe use QQ (.ref D) s3.heap.objs.size) s4 := by
    rintro _ rfl
    exact codeAny_compStart_list (loop _ rfl) (T.self _ _ _ _ _ st4 (loop _ rfl))
  exact e4 _ (by rw [eE]; rfl)
theorem ps_setC {i : Nat} {y : Str} {py spos : Pos} (hN : X.N.Nodup) (hi' : X.N[i]? = some y) (hx : Loc X.env.scope y) (hf : X.fn y = true ∨ X.env.scope.names.lookup y = some .local)
    (S : CmpScope X.N X.env.scope scope M src) (hc : X.calm = true) (hi : PI X tg iter wi) (hg : M.Nodup → ∀ C s H ex, PG (cxC X M scope C s H ex) tg g) (ht : ∀ C s H ex, PTs (cxC X M scope C s H ex) ifs tt)
    (he : ∀ C s H ex, PE (cxC X M scope C s H ex) elt te) (hs : ∀ x, foldedSetIterable iter X.env x = pure x)
    (hsw : swapsWith (.ListComp elt [⟨tg, iter, ifs, 0⟩] scope pos) (some (.Name y py)) spos.line X.env = pure true) :
    PS X (.Assign [.Name y py] (.ListComp elt [⟨tg, iter, ifs, 0⟩] scope pos) spos) (tAsg (tComp src wi g tt te) (gName i)) := by
  intro pins s σ H D I h
  rw [exec_Assign_Name_used _ _ _ _ hsw]
  refine wpAny_bind (wpAny_standAt (wpAny_bind ?_))
  show wpAny _ X.A (do let _ ← comprehension (.ListComp elt [⟨tg, iter, ifs, 0⟩] scope pos) scope X.env _ (newList []) false (eval iter X.env) (some (assign (.Name y py) X.env))) _ _ s
  refine wpAny_bind (wpAny_mono (lcomp_run (use := some (assign (.Name y py) X.env)) (QQ := fun _ s' => ∃ σ' H', Inv X pins σ' H' s' ∧ D.nx σ' H') S hc hi hg ht he hs I h ?_) (fun _ s' hq => wpAny_pure (wpAny_pure hq)) fun _ _ e => e)
  intro Dd C H' s' m IA hC hn q
  show wpAny _ X.A (assign (.Name y py) X.env (.ref Dd)) _ _ s'
  refine wpAny_assign_Name (store_ok2 IA hN hi' hx (v := .ref Dd) rfl (fun s2 I2 hsb => ?_) hf)
  obtain ⟨a, sb, ha⟩ := hsb
  have ne : C ≠ a := by
    rcases ha with rfl | ha
    · exact hC.2.1
    · exact Ne.symm (hC.2.2.2.2.1 y a ha)
  refine ⟨m, hn.sameBut sb ne, fun h3 sb3 => ⟨_, H', ?_, q⟩⟩
  have kC : ∀ b o, b ≠ C → s2.heap.get? b = some o → h3.get? b = some o := fun b o hb e => sb3.extBut b o hb e
  have nm : ∀ {b : Addr}, b ∉ [C] → b ≠ C := fun hb z => hb (by rw [z]; exact List.mem_cons_self)
  refine I2.call' (s' := { s2 with heap := h3 }) (ch := [C]) rfl ⟨fun b o e n hb hx => kC b o (nm hx) e, fun b o e n hb hx => ⟨o.slots, kC b o (nm hx) e⟩, fun b o e n hx => n, fun b o e hx => ⟨o, kC b o (nm hx) e⟩, fun b xs e => e, fun b o u e => e, fun b ps e => ⟨#[], by rw [Array.append_empty]; exact e⟩⟩ ?_ I2.bare fun b hb => ?_
  · intro b u e
    have nb : b ≠ C := fun z => by rw [z, hC.1] at e; cases e
    refine (I2.hok b u e).stay (fun c v hc' q => kC c v ?_ q) (fun _ q => q) fun _ _ q => q
    rcases hc' with z | z
    · rw [z]; exact nb
    · intro w; rw [w, hC.1] at z; cases z
  · cases List.mem_singleton.mp hb
    exact ⟨hC.2.2.2.1, hC.2.1, hC.2.2.2.2.1, hC.2.2.2.2.2⟩
end
section
variable {X : Cx} {elt tg iter : Expr} {ifs : List Expr} {scope : Scope} {pos : Pos} {M : List Str} {src : List (Option Nat)} {fi : De → Option (List Dt)} {ft : De → Option Bool} {fe : De → Option Dt} {i : Nat}
theorem ds_setC {sc : Scope} {N : List Str} {y : Str} {py spos : Pos} {ts : List Nat} {bb : Dt → De → Option De} (h : nmOk sc N i y = true) (hl : lcOk sc y = true) (nd : N.Nodup) (S : CmpScope X.N X.env.scope scope M src) (hc : X.calm = true) (hi : DIB X tg iter fi) (hg : M.Nodup → ∀ C s H ex, DG (cxC X M scope C s H ex) tg ts bb)
    (ht : ∀ C s H ex, DTs (cxC X M scope C s H ex) ifs ft) (he : ∀ C s H ex, DL (cxC X M scope C s H ex) elt fe) (hts : (ts.all fun k => decide (src[k]? = some none)) = true) (hs : ∀ x, foldedSetIterable iter X.env x = pure x := by intro _; rfl)
    (e1 : ScIs X sc := by rfl) (e2 : X.N = N := by rfl) (hf : X.fn y = true ∨ X.env.scope.names.lookup y = some .local := by exact .inl rfl) (hsw : swapsWith (.ListComp elt [⟨tg, iter, ifs, 0⟩] scope pos) (some (.Name y py)) spos.line X.env = pure true := by rfl) :
    DS1 X (.Assign [.Name y py] (.ListComp elt [⟨tg, iter, ifs, 0⟩] scope pos) spos) (sSet i (vComp src fi bb ft fe)) := by
  have e1 : X.env.scope = sc := e1
  subst e1 e2
  refine PS.mono (ps_setC (g := gD X.K ts bb) (tt := tTr X.K ft) (te := tL X.K fe) nd (nm_nth h) (lc_loc hl) hf S hc hi (fun nd C s H ex => hg nd C s H ex) (fun C s H ex => ht C s H ex) (fun C s H ex => he C s H ex) hs hsw) fun D σ H ⟨Φ, δ, F, o, hK, en, hf', k⟩ => ?_
  unfold sSet at hf'
  obtain ⟨t, ht', hf'⟩ := mS hf'
  cases hf'
  exact comp_of S hts σ H _ ⟨Φ, δ, F, t, hK, en, ht', fun v H' F' S st o hs => k _ F' H' (en.put st (hK ▸ o) hs i)⟩
theorem frz_tO {K : PySem.W.Frag} {f : De → Option T} {σ : St} {H : Hp} {Q : VK} (h : tO K (toT (toD f)) σ H Q) : tO K f σ H Q := by
  obtain ⟨Φ, δ, F, t, hK, en, hf, k⟩ := h
  unfold toT toD at hf
  cases ht : f δ with
  | none => rw [ht] at hf; cases hf
  | some u =>
    rw [ht] at hf
    cases hf
    exact ⟨Φ, δ, F, u, hK, en, ht, k.leaf.to⟩
theorem ds_setCf {sc : Scope} {N : List Str} {y : Str} {py spos : Pos} {ts : List Nat} {bb : Dt → De → Option De} (h : nmOk sc N i y = true) (hl : lcOk sc y = true) (nd : N.Nodup) (S : CmpScope X.N X.env.scope scope M src) (hc : X.calm = true) (hi : DIB X tg iter fi) (hg : M.Nodup → ∀ C s H ex, DG (cxC X M scope C s H ex) tg ts bb)
    (ht : ∀ C s H ex, DTs (cxC X M scope C s H ex) ifs ft) (he : ∀ C s H ex, DL (cxC X M scope C s H ex) elt fe) (hts : (ts.all fun k => decide (src[k]? = some none)) = true) (hs : ∀ x, foldedSetIterable iter X.env x = pure x := by intro _; rfl)
    (e1 : ScIs X sc := by rfl) (e2 : X.N = N := by rfl) (hf : X.fn y = true ∨ X.env.scope.names.lookup y = some .local := by exact .inl rfl) (hsw : swapsWith (.ListComp elt [⟨tg, iter, ifs, 0⟩] scope pos) (some (.Name y py)) spos.line X.env = pure true := by rfl) :
    DS1 X (.Assign [.Name y py] (.ListComp elt [⟨tg, iter, ifs, 0⟩] scope pos) spos) (sSet i (toT (toD (vComp src fi bb ft fe)))) := by
  have e1 : X.env.scope = sc := e1
  subst e1 e2
  refine PS.mono (ps_setC (g := gD X.K ts bb) (tt := tTr X.K ft) (te := tL X.K fe) nd (nm_nth h) (lc_loc hl) hf S hc hi (fun nd C s H ex => hg nd C s H ex) (fun C s H ex => ht C s H ex) (fun C s H ex => he C s H ex) hs hsw) fun D σ H ⟨Φ, δ, F, o, hK, en, hf', k⟩ => ?_
  unfold sSet at hf'
  obtain ⟨t, ht', hf'⟩ := mS hf'
  cases hf'
  exact comp_of S hts σ H _ (frz_tO ⟨Φ, δ, F, t, hK, en, ht', fun v H' F' S st o hs => k _ F' H' (en.put st (hK ▸ o) hs i)⟩)
end
end L2
namespace L2
open PySem PySem.Spec PyProof.Rows
noncomputable def repS (x : Str) (n : Int) : Str := if n < 1 then Str.empty else if (n == 1 || x.length == 0) = true then x else ⟨(List.replicate n.toNat x.cps).foldl (· ++ ·) #[]⟩
noncomputable def gMulS : Dt → Dt → Option T
  | .str x, .int n => if n < 1 ∨ n = 1 then (if 0 ≤ n then some (.leaf (.str (repS x n))) else none) else none
  | _, _ => none
noncomputable def rMulS : R2 := fun x y H Q => ∃ z n, x = .str z ∧ y = .int n ∧ (n = 0 ∨ n = 1) ∧ Q (.str (repS z n)) H
theorem op_mulS {X : Cx} : OpR X (binaryOp .Mult) rMulS := by
  intro pins s σ H x y v u Q I rx ry h
  obtain ⟨z, n, rfl, rfl, hb, q⟩ := h
  obtain ⟨t, rfl⟩ := rx
  obtain ⟨t', rfl⟩ := ry
  rcases hb with rfl | rfl
  · exact PySem.P.mul_str_none (by decide) (by decide) ⟨.str (repS z 0), H, I.tok _, ⟨_, rfl⟩, q⟩
  · refine PySem.P.mul_str (by decide) (fun _ h => by cases h) (fun _ h => by cases h) ?_
    rw [if_neg (by decide), if_pos (by rfl)]
    exact ⟨.str (repS z 1), H, I, ⟨t, by unfold repS; rw [if_neg (by decide), if_pos (by rfl)]⟩, q⟩
theorem r_mulS {K : PySem.W.Frag} : R2D K rMulS gMulS := by
  intro F H x y vx vy Q t fh rx ry hg k
  unfold gMulS at hg
  split at hg <;> first | (cases hg; done) | skip
  rename_i x n
  split at hg
  · split at hg
    · cases hg; cases rx; cases ry; exact ⟨_, _, rfl, rfl, by omega, k.str fh⟩
    · cases hg
  · cases hg
end L2
namespace L2
open PySem PySem.Spec PyProof.Rows
section
variable {X : Cx} {e o : Expr} {f : Str} {pos pos' apos cpos : Pos} {i j : Nat} {c : Str} {NS : List Str} {fe : De → Option T} {fd : De → Option Dt}
end
end L2
namespace L2
open PySem PySem.Spec PyProof.Rows
section
variable {X : Cx} {e o ik : Expr} {f : Str} {pos pos' apos cpos spos : Pos} {i j : Nat} {c : Str} {NS : List Str} {fe : De → Option T} {fd fk : De → Option Dt}
end
end L2
namespace L2
open PySem PySem.Spec PyProof.Rows
section
variable {X : Cx} {e o : Expr} {es : List Expr} {m c : Str} {pos apos cpos p : Pos} {i j : Nat} {NS ps : List Str} {fo : De → Option Dt} {fs : De → Option (List Dt)} {ff : List Dt → Option T} {k n : Nat}
end
section
variable {K : PySem.W.Frag} {F H : Hp} {ts : List T} {vs : List V} {S : Nat → Addr → Prop} {N : List Str}
end
section
variable {P : Program} {w : World} {K : PySem.W.Frag} {mg : Str → Option Value} {base : Heap}
end
section
variable {X : Cx} {e : Expr} {pos : Pos} {fd : De → Option Dt}
end
end L2
namespace L2
open PySem PySem.Spec PyProof.Rows
section
variable {X : Cx} {e : Expr} {es : List Expr} {i : Nat} {ags : List Ag} {f : De → Option Dt}
end
end L2
namespace L2
open PySem PySem.Spec PyProof.Rows
section
variable {X : Cx} {e o : Expr} {es : List Expr} {x m c : Str} {pos apos cpos p : Pos} {i j : Nat} {NS ps : List Str} {sc : Scope} {k n : Nat} {f : List T → Option (T × List T)} {ags : List Ag} {fs : De → Option (List Dt)} {fe fk : De → Option Dt}
end
end L2
namespace L2
open PySem PySem.Spec PyProof.Rows
section
variable {X : Cx}
noncomputable def rCat0 (K : PySem.W.Frag) : R2 := fun x y H Q => ∃ a b ys, x = .ref a ∧ y = .ref b ∧ SqT K H a [] ∧ SqT K H b ys ∧ Q (.ref b) H
theorem op_cat0 : OpR X (binaryOp .Add) (rCat0 X.K) := by
  intro pins s σ H x y v u Q I rx ry h
  obtain ⟨a, b, ys, rfl, rfl, ha, hb, q⟩ := h
  cases rx
  cases ry
  obtain ⟨its, r1, p1, _⟩ := I.tuple ha
  obtain ⟨its2, r2, p2, _⟩ := I.tuple hb
  cases r1
  obtain ⟨⟨cls, dd, data, sl⟩, ho, hc, n, hd⟩ := id p1
  obtain ⟨⟨cls2, dd2, data2, sl2⟩, ho2, hc2, n2, hd2⟩ := id p2
  simp only at hc hd hc2 hd2
  subst hc hd hc2 hd2
  exact concat_meets ⟨_, ho, rfl⟩ ⟨_, ho2, rfl⟩ noFill_tuple_add seq_tuple_add PySem.F.slot_tuple_add PySem.F.entry_tuple_add (PySem.F.args_tuple_add_2 _ _)
    (tuple_addW0 a b #[] its2.toArray n n2 dd dd2 sl sl2 rfl) ⟨ho, ho2, ⟨.ref b, H, I, rfl, q⟩⟩
noncomputable def gAddT : Dt → Dt → Option T
  | .tup [], .tup m => some (.leaf (.tup m))
  | .tup (d :: l), .tup (e :: m) => gAdd (.tup (d :: l)) (.tup (e :: m))
  | _, _ => none
theorem op_addT : OpR X (binaryOp .Add) (fun x y H Q => rCat0 X.K x y H Q ∨ rAddD X.K x y H Q) := OpR.or op_cat0 op_addD
theorem r_addT {K : PySem.W.Frag} : R2D K (fun x y H Q => rCat0 K x y H Q ∨ rAddD K x y H Q) gAddT := by
  intro F H x y vx vy Q t fh rx ry hg k
  unfold gAddT at hg
  split at hg <;> first | (cases hg; done) | skip
  · rename_i m
    cases hg
    obtain ⟨a, vs, rfl, h1, h2⟩ := rx
    obtain ⟨b, ws, rfl, h3, h4⟩ := ry
    simp only [Reps] at h2
    subst h2
    refine .inl ⟨a, b, ws, rfl, rfl, fh.tup h1, fh.tup h3, k.leaf.here fh ?_⟩
    simp only [Rep]
    exact ⟨b, ws, rfl, h3, h4⟩
  · exact .inr (r_add F H _ _ vx vy Q t fh rx ry hg k)
end
section
variable {X : Cx} {pos : Pos} {k v : Expr} {ks : List (Option Expr)} {vs : List Expr} {fk fv : De → Option Dt} {g : De → Option (List (Key × Dt))}
end
end L2
namespace L2
open PySem PySem.Spec PyProof.Rows
theorem cps_app (x y : Str) : (x ++ y).cps.toList = x.cps.toList ++ y.cps.toList := by
  show (x.cps ++ y.cps).toList = _
  rw [Array.toList_append]
theorem str_ext {x y : Str} (h : x.cps.toList = y.cps.toList) : x = y := Str.ext' (Array.toList_inj.mp h)
theorem cut_free {c : Nat} : ∀ {a b p q : List Nat}, c ∉ a → c ∉ b → a ++ c :: p = b ++ c :: q → a = b ∧ p = q
  | [], [], p, q, _, _, h => by simp at h; exact ⟨rfl, h⟩
  | [], y :: b, p, q, _, hb, h => by simp at h; exact absurd (by simp [h.1]) hb
  | x :: a, [], p, q, ha, _, h => by simp at h; exact absurd (by simp [h.1]) ha
  | x :: a, y :: b, p, q, ha, hb, h => by
    simp only [List.cons_append, List.cons.injEq] at h
    obtain ⟨e1, e2⟩ := cut_free (a := a) (b := b) (fun z => ha (List.mem_cons_of_mem _ z)) (fun z => hb (List.mem_cons_of_mem _ z)) h.2
    exact ⟨by rw [h.1, e1], e2⟩
theorem no_cut {c : Nat} {a b q : List Nat} (ha : c ∉ a) (h : a = b ++ c :: q) : False := ha (by rw [h]; simp)
theorem join_cons (c : Nat) (x y : Str) (r : List Str) : (Str.join ⟨#[c]⟩ (x :: y :: r)).cps.toList = x.cps.toList ++ c :: (Str.join ⟨#[c]⟩ (y :: r)).cps.toList := by
  show (x ++ ⟨#[c]⟩ ++ Str.join ⟨#[c]⟩ (y :: r)).cps.toList = _
  rw [cps_app, cps_app]
  simp
theorem join_inj (c : Nat) : ∀ {l m : List Str}, l ≠ [] → m ≠ [] → (∀ x ∈ l, c ∉ x.cps.toList) → (∀ x ∈ m, c ∉ x.cps.toList) → Str.join ⟨#[c]⟩ l = Str.join ⟨#[c]⟩ m → l = m
  | [], _, h, _, _, _, _ => absurd rfl h
  | _, [], _, h, _, _, _ => absurd rfl h
  | [x], [y], _, _, _, _, h => by
    have : x = y := h
    rw [this]
  | [x], y :: z :: m, _, _, hl, _, h => by
    have e : x.cps.toList = _ := congrArg (fun s => s.cps.toList) (show x = Str.join ⟨#[c]⟩ (y :: z :: m) from h)
    rw [join_cons] at e
    exact (no_cut (hl x (by simp)) e).elim
  | x :: w :: l, [y], _, _, _, hm, h => by
    have e : y.cps.toList = _ := congrArg (fun s => s.cps.toList) (show y = Str.join ⟨#[c]⟩ (x :: w :: l) from h.symm)
    rw [join_cons] at e
    exact (no_cut (hm y (by simp)) e).elim
  | x :: w :: l, y :: z :: m, _, _, hl, hm, h => by
    have e := congrArg (fun s => s.cps.toList) h
    simp only [join_cons] at e
    obtain ⟨e1, e2⟩ := cut_free (hl x (by simp)) (hm y (by simp)) e
    have := join_inj c (l := w :: l) (m := z :: m) (by simp) (by simp) (fun a ha => hl a (List.mem_cons_of_mem _ ha)) (fun a ha => hm a (List.mem_cons_of_mem _ ha)) (str_ext e2)
    rw [str_ext e1, this]
theorem split_ne (x y : Str) : Txt.split x y ≠ [] := fun h => by
  have e := StrLaws.join_split x y
  unfold Txt.split at h
  split at h
  · cases h
  · split at h
    · cases h
    · rw [StrLaws.partsBetween_eq] at h
      obtain ⟨p, q, e2⟩ := StrLaws.partsFrom_ne x y.length 0 (Builtin.Str.occurrences x y 0 x.length (x.length + 1))
      rw [e2] at h
      cases h
theorem split_of (c : Nat) {l : List Str} (hl : l ≠ []) (hc : ∀ x ∈ l, c ∉ x.cps.toList) : Txt.split (Str.join ⟨#[c]⟩ l) ⟨#[c]⟩ = l :=
  join_inj c (split_ne _ _) hl (StrLaws.split_free _ c) hc (StrLaws.join_split _ _)
theorem join_is (s : Str) (l : List Str) : Txt.join s l = Str.join s l := StrLaws.glued_eq_join s l
theorem g_join_of {s : Str} {l : List Str} (h : JoinOk s l = true) : g_join (.str s) [.lst (l.map .str)] = some (.leaf (.str (Str.join s l))) := by
  show (asStrs (l.map .str)).bind _ = _
  rw [asStrs_map, Option.bind_some, if_pos h, join_is]
theorem joinOk_of {s : Str} {l : List Str} {b n : Nat} (h1 : ∀ y ∈ l, y.length ≤ b) (hn : l.length ≤ n) (h : n * (b + s.length) ≤ 1000000) : JoinOk s l = true := by
  unfold JoinOk
  rw [StrLaws.joinTotal]
  have hs : (l.map (·.length)).sum ≤ l.length * b := by
    clear hn
    induction l with
    | nil => simp
    | cons x r ih =>
      have := ih fun y hy => h1 y (List.mem_cons_of_mem _ hy)
      have := h1 x (by simp)
      simp only [List.map_cons, List.sum_cons, List.length_cons, Nat.succ_mul]
      omega
  have hm : l.length * (b + s.length) ≤ n * (b + s.length) := Nat.mul_le_mul_right _ hn
  rw [Nat.mul_add] at hm
  have : ¬ ((l.map (·.length)).sum + l.length * s.length > sizeLine) := by
    have : (1000000 : Nat) ≤ sizeLine := by decide
    omega
  simp [Builtin.Str.tooLong, this]
theorem free_join {c d : Nat} (hd : c ≠ d) : ∀ {l : List Str}, (∀ x ∈ l, c ∉ x.cps.toList) → c ∉ (Str.join ⟨#[d]⟩ l).cps.toList
  | [], _ => by show c ∉ (Str.empty).cps.toList; simp [Str.empty]
  | [x], h => h x (by simp)
  | x :: y :: r, h => by
    rw [join_cons]
    intro z
    rcases List.mem_append.mp z with z | z
    · exact h x (by simp) z
    · rcases List.mem_cons.mp z with z | z
      · exact hd z
      · exact free_join hd (l := y :: r) (fun a ha => h a (List.mem_cons_of_mem _ ha)) z
theorem len_join {s : Str} {b : Nat} : ∀ {l : List Str}, (∀ x ∈ l, x.length ≤ b) → (Str.join s l).length ≤ l.length * (b + s.length)
  | [], _ => by show (Str.empty).length ≤ _; exact Nat.zero_le _
  | [x], h => by
    have := h x (by simp)
    show x.length ≤ 1 * (b + s.length)
    omega
  | x :: y :: r, h => by
    have h1 := h x (by simp)
    have h2 := len_join (s := s) (b := b) (l := y :: r) fun a ha => h a (List.mem_cons_of_mem _ ha)
    show (x ++ s ++ Str.join s (y :: r)).length ≤ _
    rw [Str.length_append, Str.length_append]
    simp only [List.length_cons, Nat.succ_mul] at h2 ⊢
    omega
theorem num_signs {n : Int} (h0 : 0 ≤ n) : (Str.ofString (toString n)).cps.toList = (Nat.toDigits 10 n.toNat).map Char.toNat := by
  obtain ⟨m, rfl⟩ := Int.eq_ofNat_of_zero_le h0
  exact PySem.W.KIN.signs_num m
theorem num_digit {n : Int} (h0 : 0 ≤ n) : ∀ c ∈ (Str.ofString (toString n)).cps.toList, 48 ≤ c ∧ c ≤ 57 := fun c hc => by
  rw [num_signs h0] at hc
  obtain ⟨ch, hch, e⟩ := List.mem_map.mp hc
  have r := PyProof.Rows.digit_range (Nat.isDigit_of_mem_toDigits (by decide) (by decide) hch)
  rw [← e]
  exact r
theorem digits_ne (m : Nat) : Nat.toDigits 10 m ≠ [] := by
  by_cases h : m < 10
  · rw [Nat.toDigits_of_lt_base h]
    simp
  · have hm : m % 10 < 10 := Nat.mod_lt m (by decide)
    have t : Nat.toDigits 10 (m / 10) ++ Nat.toDigits 10 (m % 10) = Nat.toDigits 10 (10 * (m / 10) + m % 10) := Nat.toDigits_append_toDigits (by decide) (by omega) hm
    rw [Nat.div_add_mod] at t
    rw [← t, Nat.toDigits_of_lt_base hm]
    simp
theorem digits_head (m : Nat) (hm : 0 < m) : ∀ r, Nat.toDigits 10 m ≠ '0' :: r := by
  induction m using Nat.strongRecOn with
  | _ m ih =>
    intro r e
    by_cases h : m < 10
    · rw [Nat.toDigits_of_lt_base h] at e
      simp only [List.cons.injEq] at e
      have : ∀ k : Nat, k < 10 → 0 < k → Nat.digitChar k ≠ '0' := by decide
      exact this m h hm e.1
    · have hm' : m % 10 < 10 := Nat.mod_lt m (by decide)
      have t : Nat.toDigits 10 (m / 10) ++ Nat.toDigits 10 (m % 10) = Nat.toDigits 10 (10 * (m / 10) + m % 10) := Nat.toDigits_append_toDigits (by decide) (by omega) hm'
      rw [Nat.div_add_mod] at t
      rw [← t] at e
      cases q : Nat.toDigits 10 (m / 10) with
      | nil => exact digits_ne _ q
      | cons a l =>
        rw [q, List.cons_append, List.cons.injEq] at e
        exact ih (m / 10) (by omega) (by omega) l (by rw [q, e.1])
theorem num_ne {n : Int} (h0 : 0 ≤ n) : (Str.ofString (toString n)).cps.toList ≠ [] := by
  rw [num_signs h0]
  intro z
  exact digits_ne _ (List.map_eq_nil_iff.mp z)
theorem num_len {n : Int} (h0 : 0 ≤ n) (h1 : n < 1099511627776) : (Str.ofString (toString n)).length ≤ 13 := toString_length_le h0 (by decide) (Int.lt_trans h1 (by decide))
theorem num_int {n : Int} (h0 : 0 ≤ n) (h1 : n < 1099511627776) : PySem.intText? (Str.ofString (toString n)) = some n := by
  have hl := num_len h0 h1
  have e := intText_digits (x := Str.ofString (toString n)) (fun c hc => num_digit h0 c hc) (num_ne h0) (by omega)
  rw [num_signs h0, PySem.W.KIN.val_back] at e
  rw [e, Int.toNat_of_nonneg h0]
end L2
namespace L2
open PySem
theorem ne_copy_op : (Str.ofString "copy" = Str.ofString "op") = False := eq_false (by decide +kernel)
theorem ne_copy_if : (Str.ofString "copy" = Str.ofString "if") = False := eq_false (by decide +kernel)
theorem ne_copy_go : (Str.ofString "copy" = Str.ofString "go") = False := eq_false (by decide +kernel)
theorem ne_op_copy : (Str.ofString "op" = Str.ofString "copy") = False := eq_false (by decide +kernel)
theorem ne_op_if : (Str.ofString "op" = Str.ofString "if") = False := eq_false (by decide +kernel)
theorem ne_op_go : (Str.ofString "op" = Str.ofString "go") = False := eq_false (by decide +kernel)
theorem ne_load_copy : (Str.ofString "load" = Str.ofString "copy") = False := eq_false (by decide +kernel)
theorem ne_load_op : (Str.ofString "load" = Str.ofString "op") = False := eq_false (by decide +kernel)
theorem ne_load_if : (Str.ofString "load" = Str.ofString "if") = False := eq_false (by decide +kernel)
theorem ne_load_go : (Str.ofString "load" = Str.ofString "go") = False := eq_false (by decide +kernel)
theorem ne_store_copy : (Str.ofString "store" = Str.ofString "copy") = False := eq_false (by decide +kernel)
theorem ne_store_op : (Str.ofString "store" = Str.ofString "op") = False := eq_false (by decide +kernel)
theorem ne_store_if : (Str.ofString "store" = Str.ofString "if") = False := eq_false (by decide +kernel)
theorem ne_store_go : (Str.ofString "store" = Str.ofString "go") = False := eq_false (by decide +kernel)
theorem ne_take_copy : (Str.ofString "take" = Str.ofString "copy") = False := eq_false (by decide +kernel)
theorem ne_take_op : (Str.ofString "take" = Str.ofString "op") = False := eq_false (by decide +kernel)
theorem ne_take_if : (Str.ofString "take" = Str.ofString "if") = False := eq_false (by decide +kernel)
theorem ne_take_go : (Str.ofString "take" = Str.ofString "go") = False := eq_false (by decide +kernel)
theorem ne_lay_copy : (Str.ofString "lay" = Str.ofString "copy") = False := eq_false (by decide +kernel)
theorem ne_lay_op : (Str.ofString "lay" = Str.ofString "op") = False := eq_false (by decide +kernel)
theorem ne_lay_if : (Str.ofString "lay" = Str.ofString "if") = False := eq_false (by decide +kernel)
theorem ne_lay_go : (Str.ofString "lay" = Str.ofString "go") = False := eq_false (by decide +kernel)
theorem ne_hear_copy : (Str.ofString "hear" = Str.ofString "copy") = False := eq_false (by decide +kernel)
theorem ne_hear_op : (Str.ofString "hear" = Str.ofString "op") = False := eq_false (by decide +kernel)
theorem ne_hear_if : (Str.ofString "hear" = Str.ofString "if") = False := eq_false (by decide +kernel)
theorem ne_hear_go : (Str.ofString "hear" = Str.ofString "go") = False := eq_false (by decide +kernel)
theorem ne_say_copy : (Str.ofString "say" = Str.ofString "copy") = False := eq_false (by decide +kernel)
theorem ne_say_op : (Str.ofString "say" = Str.ofString "op") = False := eq_false (by decide +kernel)
theorem ne_say_if : (Str.ofString "say" = Str.ofString "if") = False := eq_false (by decide +kernel)
theorem ne_say_go : (Str.ofString "say" = Str.ofString "go") = False := eq_false (by decide +kernel)
theorem ne_if_copy : (Str.ofString "if" = Str.ofString "copy") = False := eq_false (by decide +kernel)
theorem ne_if_op : (Str.ofString "if" = Str.ofString "op") = False := eq_false (by decide +kernel)
theorem ne_if_load : (Str.ofString "if" = Str.ofString "load") = False := eq_false (by decide +kernel)
theorem ne_if_store : (Str.ofString "if" = Str.ofString "store") = False := eq_false (by decide +kernel)
theorem ne_if_take : (Str.ofString "if" = Str.ofString "take") = False := eq_false (by decide +kernel)
theorem ne_if_lay : (Str.ofString "if" = Str.ofString "lay") = False := eq_false (by decide +kernel)
theorem ne_if_hear : (Str.ofString "if" = Str.ofString "hear") = False := eq_false (by decide +kernel)
theorem ne_if_say : (Str.ofString "if" = Str.ofString "say") = False := eq_false (by decide +kernel)
theorem ne_if_go : (Str.ofString "if" = Str.ofString "go") = False := eq_false (by decide +kernel)
theorem ne_if_end : (Str.ofString "if" = Str.ofString "end") = False := eq_false (by decide +kernel)
theorem ne_go_copy : (Str.ofString "go" = Str.ofString "copy") = False := eq_false (by decide +kernel)
theorem ne_go_op : (Str.ofString "go" = Str.ofString "op") = False := eq_false (by decide +kernel)
theorem ne_go_load : (Str.ofString "go" = Str.ofString "load") = False := eq_false (by decide +kernel)
theorem ne_go_store : (Str.ofString "go" = Str.ofString "store") = False := eq_false (by decide +kernel)
theorem ne_go_take : (Str.ofString "go" = Str.ofString "take") = False := eq_false (by decide +kernel)
theorem ne_go_lay : (Str.ofString "go" = Str.ofString "lay") = False := eq_false (by decide +kernel)
theorem ne_go_hear : (Str.ofString "go" = Str.ofString "hear") = False := eq_false (by decide +kernel)
theorem ne_go_say : (Str.ofString "go" = Str.ofString "say") = False := eq_false (by decide +kernel)
theorem ne_go_if : (Str.ofString "go" = Str.ofString "if") = False := eq_false (by decide +kernel)
theorem ne_go_end : (Str.ofString "go" = Str.ofString "end") = False := eq_false (by decide +kernel)
theorem ne_end_copy : (Str.ofString "end" = Str.ofString "copy") = False := eq_false (by decide +kernel)
theorem ne_end_op : (Str.ofString "end" = Str.ofString "op") = False := eq_false (by decide +kernel)
theorem ne_end_if : (Str.ofString "end" = Str.ofString "if") = False := eq_false (by decide +kernel)
theorem ne_end_go : (Str.ofString "end" = Str.ofString "go") = False := eq_false (by decide +kernel)
theorem ns_pl_mi : (Str.ofString "+" = Str.ofString "-") = False := eq_false (by decide +kernel)
theorem ns_pl_ti : (Str.ofString "+" = Str.ofString "*") = False := eq_false (by decide +kernel)
theorem ns_pl_lt : (Str.ofString "+" = Str.ofString "<") = False := eq_false (by decide +kernel)
theorem ns_pl_eq : (Str.ofString "+" = Str.ofString "=") = False := eq_false (by decide +kernel)
theorem ns_pl_an : (Str.ofString "+" = Str.ofString "&") = False := eq_false (by decide +kernel)
theorem ns_pl_or : (Str.ofString "+" = Str.ofString "|") = False := eq_false (by decide +kernel)
theorem ns_pl_xo : (Str.ofString "+" = Str.ofString "^") = False := eq_false (by decide +kernel)
theorem ns_mi_pl : (Str.ofString "-" = Str.ofString "+") = False := eq_false (by decide +kernel)
theorem ns_mi_ti : (Str.ofString "-" = Str.ofString "*") = False := eq_false (by decide +kernel)
theorem ns_mi_lt : (Str.ofString "-" = Str.ofString "<") = False := eq_false (by decide +kernel)
theorem ns_mi_eq : (Str.ofString "-" = Str.ofString "=") = False := eq_false (by decide +kernel)
theorem ns_mi_an : (Str.ofString "-" = Str.ofString "&") = False := eq_false (by decide +kernel)
theorem ns_mi_or : (Str.ofString "-" = Str.ofString "|") = False := eq_false (by decide +kernel)
theorem ns_mi_xo : (Str.ofString "-" = Str.ofString "^") = False := eq_false (by decide +kernel)
theorem ns_ti_pl : (Str.ofString "*" = Str.ofString "+") = False := eq_false (by decide +kernel)
theorem ns_ti_mi : (Str.ofString "*" = Str.ofString "-") = False := eq_false (by decide +kernel)
theorem ns_ti_lt : (Str.ofString "*" = Str.ofString "<") = False := eq_false (by decide +kernel)
theorem ns_ti_eq : (Str.ofString "*" = Str.ofString "=") = False := eq_false (by decide +kernel)
theorem ns_ti_an : (Str.ofString "*" = Str.ofString "&") = False := eq_false (by decide +kernel)
theorem ns_ti_or : (Str.ofString "*" = Str.ofString "|") = False := eq_false (by decide +kernel)
theorem ns_ti_xo : (Str.ofString "*" = Str.ofString "^") = False := eq_false (by decide +kernel)
theorem ns_lt_pl : (Str.ofString "<" = Str.ofString "+") = False := eq_false (by decide +kernel)
theorem ns_lt_mi : (Str.ofString "<" = Str.ofString "-") = False := eq_false (by decide +kernel)
theorem ns_lt_ti : (Str.ofString "<" = Str.ofString "*") = False := eq_false (by decide +kernel)
theorem ns_lt_eq : (Str.ofString "<" = Str.ofString "=") = False := eq_false (by decide +kernel)
theorem ns_lt_an : (Str.ofString "<" = Str.ofString "&") = False := eq_false (by decide +kernel)
theorem ns_lt_or : (Str.ofString "<" = Str.ofString "|") = False := eq_false (by decide +kernel)
theorem ns_lt_xo : (Str.ofString "<" = Str.ofString "^") = False := eq_false (by decide +kernel)
theorem ns_eq_pl : (Str.ofString "=" = Str.ofString "+") = False := eq_false (by decide +kernel)
theorem ns_eq_mi : (Str.ofString "=" = Str.ofString "-") = False := eq_false (by decide +kernel)
theorem ns_eq_ti : (Str.ofString "=" = Str.ofString "*") = False := eq_false (by decide +kernel)
theorem ns_eq_lt : (Str.ofString "=" = Str.ofString "<") = False := eq_false (by decide +kernel)
theorem ns_eq_an : (Str.ofString "=" = Str.ofString "&") = False := eq_false (by decide +kernel)
theorem ns_eq_or : (Str.ofString "=" = Str.ofString "|") = False := eq_false (by decide +kernel)
theorem ns_eq_xo : (Str.ofString "=" = Str.ofString "^") = False := eq_false (by decide +kernel)
theorem ns_an_pl : (Str.ofString "&" = Str.ofString "+") = False := eq_false (by decide +kernel)
theorem ns_an_mi : (Str.ofString "&" = Str.ofString "-") = False := eq_false (by decide +kernel)
theorem ns_an_ti : (Str.ofString "&" = Str.ofString "*") = False := eq_false (by decide +kernel)
theorem ns_an_lt : (Str.ofString "&" = Str.ofString "<") = False := eq_false (by decide +kernel)
theorem ns_an_eq : (Str.ofString "&" = Str.ofString "=") = False := eq_false (by decide +kernel)
theorem ns_an_or : (Str.ofString "&" = Str.ofString "|") = False := eq_false (by decide +kernel)
theorem ns_an_xo : (Str.ofString "&" = Str.ofString "^") = False := eq_false (by decide +kernel)
theorem ns_or_pl : (Str.ofString "|" = Str.ofString "+") = False := eq_false (by decide +kernel)
theorem ns_or_mi : (Str.ofString "|" = Str.ofString "-") = False := eq_false (by decide +kernel)
theorem ns_or_ti : (Str.ofString "|" = Str.ofString "*") = False := eq_false (by decide +kernel)
theorem ns_or_lt : (Str.ofString "|" = Str.ofString "<") = False := eq_false (by decide +kernel)
theorem ns_or_eq : (Str.ofString "|" = Str.ofString "=") = False := eq_false (by decide +kernel)
theorem ns_or_an : (Str.ofString "|" = Str.ofString "&") = False := eq_false (by decide +kernel)
theorem ns_or_xo : (Str.ofString "|" = Str.ofString "^") = False := eq_false (by decide +kernel)
theorem ns_xo_pl : (Str.ofString "^" = Str.ofString "+") = False := eq_false (by decide +kernel)
theorem ns_xo_mi : (Str.ofString "^" = Str.ofString "-") = False := eq_false (by decide +kernel)
theorem ns_xo_ti : (Str.ofString "^" = Str.ofString "*") = False := eq_false (by decide +kernel)
theorem ns_xo_lt : (Str.ofString "^" = Str.ofString "<") = False := eq_false (by decide +kernel)
theorem ns_xo_eq : (Str.ofString "^" = Str.ofString "=") = False := eq_false (by decide +kernel)
theorem ns_xo_an : (Str.ofString "^" = Str.ofString "&") = False := eq_false (by decide +kernel)
theorem ns_xo_or : (Str.ofString "^" = Str.ofString "|") = False := eq_false (by decide +kernel)
end L2
seal L2.PE L2.PS L2.PSs L2.PT L2.PW L2.PA L2.PI L2.PG L2.PTs L2.PO L2.PGs L2.CallR L2.OpR L2.IxR L2.SlR L2.MtR L2.UnR L2.DO L2.DL L2.DB L2.DT L2.DW L2.DS L2.DS1 L2.R2D L2.CRD L2.MRD L2.DG L2.DGs L2.DIF L2.DIB L2.DTs L2.DP
namespace P12
open PySem L2
noncomputable def top (i : Nat) : Stmt := PySem.Challenge.pw_dimhouse_k12_written_and_read.main.body.getD i (.Pass ⟨0, 0, 0, 0⟩)
noncomputable def c_CELLS : Dt := (.tup [(.str "cell"), (.str "twin")])
noncomputable def c_FIGURES : Dt := (.str "0123456789")
noncomputable def c_HEADS : Dt := (.tup [(.str "cell"), (.str "twin"), (.str "shelf"), (.str "twins")])
noncomputable def c_LEADING : Dt := (.tup [(.str "if"), (.str "go")])
noncomputable def c_LETTERS : Dt := (.str "abcdefghijklmnopqrstuvwxyz")
noncomputable def c_MOST_OF_LABEL : Dt := (.int 8)
noncomputable def c_MOST_OF_NAME : Dt := (.int 6)
noncomputable def c_MOST_OF_SIZE : Dt := (.int 8)
noncomputable def c_MOST_OF_VALUE : Dt := (.int 13)
noncomputable def c_SHELVES : Dt := (.tup [(.str "shelf"), (.str "twins")])
noncomputable def c_SIGNS : Dt := (.tup [(.str "+"), (.str "-"), (.str "*"), (.str "<"), (.str "="), (.str "&"), (.str "|"), (.str "^")])
noncomputable def k_WANTED : List Key := [.inr "cell", .inr "twin", .inr "shelf", .inr "twins", .inr "at", .inr "load", .inr "store", .inr "take", .inr "lay", .inr "hear", .inr "say", .inr "if", .inr "go", .inr "end"]
noncomputable def c_WANTED : List Dt := [(.tup [(.str "name"), (.str "value")]), (.tup [(.str "name"), (.str "value")]), (.tup [(.str "name"), (.str "size")]), (.tup [(.str "name"), (.str "size")]), (.tup [(.str "label")]), (.tup [(.str "name"), (.str "name")]), (.tup [(.str "name"), (.str "atom")]), (.tup [(.str "name"), (.str "name"), (.str "atom")]), (.tup [(.str "name"), (.str "atom"), (.str "atom")]), (.tup [(.str "name")]), (.tup [(.str "atom")]), (.tup [(.str "atom"), (.str "label")]), (.tup [(.str "label")]), (.tup [(.str "atom")])]
noncomputable def c_WIDE : Dt := (.int 1099511627776)
noncomputable def z26 : List Dt → Option T := runD 3 ((sSeq (sIf (tB2 (gCmp fun i j => decide (i < j)) (vB 1) (toD (vCall gLen (aCons (vB 0) aNil)))) (sRet (d2 gIxA (vB 0) (vB 1))) sNil)
    (sSeq (sSet 2 (toT (kD (.int 7))))
    (sSeq (sIf (tB2 (gCmp fun i j => decide (j < i)) (toD (vCall gLen (aCons (vB 0) aNil))) (kD (.int 0))) (sSet 2 (toT (toD (d2 gMod (toD (d2 gIxA (vB 0) (toD (d2 gMod (vB 1) (toD (vCall gLen (aCons (vB 0) aNil))))))) (kD (.int 999983)))))) sNil)
    (sRet (d2 gMod (toD (d2 gMul (toD (d2 gAdd (toD (d2 gAdd (vB 2) (toD (d2 gMul (kD (.int 613)) (vB 1))))) (kD (.int 29)))) (toD (d2 gAdd (toD (d2 gAdd (vB 2) (toD (d2 gMul (kD (.int 71)) (vB 1))))) (kD (.int 5)))))) (kD (.int 1000003))))))))
noncomputable def z6 : List Dt → Option T := runD 4 ((sSeq (sSet 3 (toT (toD (vTup (aCons (kD (.int 10007)) (aCons (kD (.int 10009)) (aCons (kD (.int 10037)) (aCons (kD (.int 10039)) (aCons (kD (.int 10061)) (aCons (kD (.int 10067)) (aCons (kD (.int 10069)) (aCons (kD (.int 10079)) aNil))))))))))))
    (sRet (d2 gMod (toD (d2 gMod (toD (d2 gAdd (toD (d2 gMul (vB 0) (kD (.int 48271)))) (toD (d2 gMul (kD (.int 7919)) (vB 1))))) (toD (d2 gIxA (vB 3) (toD (d2 gMod (vB 1) (kD (.int 8)))))))) (vB 2)))))
noncomputable def y53 : De → Option Dt := (toD (d2 gIxA (vB 2) (toD (vCall z6 (aCons (vL 1) (aCons (vL 0) (aCons (kD (.int 26)) aNil)))))))
noncomputable def z21 : List Dt → Option T := runD 7 ((sSeq (sSet 2 (toT (kD (.str "abcdefghijklmnopqrstuvwxyz"))))
    (sSeq (sSet 3 (toT (toD (vLst (aCons (kD (.str "at")) (aCons (kD (.str "cell")) (aCons (kD (.str "twin")) (aCons (kD (.str "shelf")) (aCons (kD (.str "twins")) (aCons (kD (.str "load")) (aCons (kD (.str "store")) (aCons (kD (.str "take")) (aCons (kD (.str "lay")) (aCons (kD (.str "hear")) (aCons (kD (.str "say")) (aCons (kD (.str "end")) (aCons (kD (.str "if")) (aCons (kD (.str "go")) aNil))))))))))))))))))
    (sSeq (sSet 4 (toT (toD (d2 (gEq false) (toD (vCall z6 (aCons (vL 0) (aCons (kD (.int 5)) (aCons (kD (.int 4)) aNil))))) (kD (.int 1))))))
    (sSeq (sIf (fAnd (fTru (vB 4)) (tB2 (gCmp fun i j => decide (i < j)) (vB 1) (kD (.int 12)))) (sRet (d2 gIxA (vB 3) (toD (d2 gMod (toD (d2 gAdd (vB 1) (toD (vCall z6 (aCons (vL 0) (aCons (kD (.int 6)) (aCons (kD (.int 14)) aNil))))))) (kD (.int 14)))))) sNil)
    (sSeq (sSet 5 (toT (toD (d2 gAdd (kD (.int 1)) (toD (vCall z6 (aCons (vL 0) (aCons (kD (.int 7)) (aCons (toD (d2 gSubD (kD (.int 6)) (toD (vCall gInt (aCons (vB 4) aNil))))) aNil)))))))))
    (sSeq (sSet 6 (vComp [none, some 0, some 2] (fRng rng1 (aCons (vL 5) aNil)) (bName 0) tYesD y53))
    (sSeq (sPut 6 (toD (vCall z6 (aCons (vL 0) (aCons (kD (.int 3)) (aCons (vL 5) aNil))))) (toD (d2 gIxA (vB 2) (toD (d2 gMod (toD (d2 gAdd (toD (vCall z6 (aCons (vL 0) (aCons (kD (.int 4)) (aCons (kD (.int 26)) aNil))))) (vB 1))) (kD (.int 26)))))))
    (sRet (d2 gAdd (toD (vMeth g_join (kD (.str "")) (aCons (vB 6) aNil))) (toD (d2 gMulS (kD (.str "q")) (toD (vCall gInt (aCons (vB 4) aNil)))))))))))))))
noncomputable def q43 : List Dt → Option T := runD 4 ((sSeq (sSet 3 (toT (toD (vCall z6 (aCons (vL 0) (aCons (vL 1) (aCons (kD (.int 5)) aNil)))))))
    (sSeq (sIf (tB2 (gEq false) (vB 3) (kD (.int 0))) (sRet (d2 gIxA (toD (vLst (aCons (kD (.int 0)) (aCons (kD (.int 1)) (aCons (kD (.int 9)) (aCons (kD (.int 10)) (aCons (toD (d2 gSubD (toD (d2 gPow (kD (.int 2)) (kD (.int 40)))) (kD (.int 1)))) (aCons (toD (d2 gPow (kD (.int 2)) (kD (.int 39)))) aNil)))))))) (toD (vCall z6 (aCons (vL 0) (aCons (toD (d2 gAdd (vB 1) (kD (.int 1)))) (aCons (kD (.int 6)) aNil))))))) sNil)
    (sSeq (sIf (tB2 (gEq false) (vB 3) (kD (.int 1))) (sRet (d2 gMod (toD (d2 gMul (vB 0) (kD (.int 94906267)))) (toD (d2 gPow (kD (.int 2)) (kD (.int 40)))))) sNil)
    (sRet (vCall z21 (aCons (vL 2) (aCons (toD (vCall z6 (aCons (vL 0) (aCons (toD (d2 gAdd (vB 1) (kD (.int 1)))) (aCons (kD (.int 12)) aNil))))) aNil))))))))
noncomputable def q59 : List Dt → Option T := runD 9 ((sSeq (sSet 3 (toT (toD (vCall z21 (aCons (vL 1) (aCons (toD (vCall z6 (aCons (vL 0) (aCons (kD (.int 2)) (aCons (kD (.int 12)) aNil))))) aNil))))))
    (sSeq (sSet 4 (toT (toD (vCall q43 (aCons (vL 0) (aCons (kD (.int 3)) (aCons (vL 1) aNil)))))))
    (sSeq (sSet 5 (toT (toD (vCall q43 (aCons (vL 0) (aCons (kD (.int 5)) (aCons (vL 1) aNil)))))))
    (sSeq (sSet 6 (toT (toD (vCall z21 (aCons (vL 1) (aCons (toD (d2 gAdd (kD (.int 4)) (toD (vCall z6 (aCons (vL 0) (aCons (kD (.int 7)) (aCons (kD (.int 20)) aNil))))))) aNil))))))
    (sSeq (sSet 7 (toT (toD (vCall z6 (aCons (vL 0) (aCons (kD (.int 0)) (aCons (kD (.int 12)) aNil)))))))
    (sSeq (sIf (tB2 (gCmp fun i j => decide (i < j)) (vB 7) (kD (.int 2))) (sRet (vTup (aCons (kD (.str "copy")) (aCons (vL 3) (aCons (vL 4) aNil))))) sNil)
    (sSeq (sIf (tB2 (gEq false) (vB 7) (kD (.int 2))) (sRet (vTup (aCons (kD (.str "op")) (aCons (vL 3) (aCons (toD (d2 gIxA (kD (.str "+-*<=&|^")) (toD (vCall z6 (aCons (vL 0) (aCons (kD (.int 1)) (aCons (kD (.int 8)) aNil))))))) (aCons (vL 4) (aCons (vL 5) aNil))))))) sNil)
    (sSeq (sIf (tB2 (gEq false) (vB 7) (kD (.int 3))) (sRet (vTup (aCons (kD (.str "load")) (aCons (vL 3) (aCons (vL 6) aNil))))) sNil)
    (sSeq (sIf (tB2 (gEq false) (vB 7) (kD (.int 4))) (sRet (vTup (aCons (kD (.str "store")) (aCons (vL 6) (aCons (vL 4) aNil))))) sNil)
    (sSeq (sIf (tB2 (gEq false) (vB 7) (kD (.int 5))) (sRet (vTup (aCons (kD (.str "take")) (aCons (vL 3) (aCons (vL 6) (aCons (vL 4) aNil)))))) sNil)
    (sSeq (sIf (tB2 (gEq false) (vB 7) (kD (.int 6))) (sRet (vTup (aCons (kD (.str "lay")) (aCons (vL 6) (aCons (vL 4) (aCons (vL 5) aNil)))))) sNil)
    (sSeq (sIf (tB2 (gEq false) (vB 7) (kD (.int 7))) (sRet (vTup (aCons (kD (.str "hear")) (aCons (vL 3) aNil)))) sNil)
    (sSeq (sIf (tB2 (gCmp fun i j => decide (i < j)) (vB 7) (kD (.int 10))) (sRet (vTup (aCons (toD (d2 gIxA (toD (vLst (aCons (kD (.str "say")) (aCons (kD (.str "end")) aNil)))) (toD (d2 gSubD (vB 7) (kD (.int 8)))))) (aCons (vL 4) aNil)))) sNil)
    (sSeq (sSet 8 (toT (toD (vCall z6 (aCons (vL 0) (aCons (kD (.int 1)) (aCons (toD (d2 gAdd (vB 2) (kD (.int 1)))) aNil)))))))
    (sRet (d2 gIxA (toD (vLst (aCons (toD (vTup (aCons (kD (.str "if")) (aCons (vL 4) (aCons (vL 8) aNil))))) (aCons (toD (vTup (aCons (kD (.str "go")) (aCons (vL 8) aNil)))) aNil)))) (toD (d2 gSubD (vB 7) (kD (.int 10)))))))))))))))))))))
noncomputable def y32 : De → Option Out := (sSeq (sSet 8 (toT (toD (vCall z26 (aCons (vL 0) (aCons (toD (d2 gAdd (toD (d2 gAdd (vB 1) (kD (.int 2)))) (vB 7))) aNil))))))
    (sSeq (sSet 9 (toT (toD (d2 gIxA (toD (vLst (aCons (toD (vCall z6 (aCons (vL 8) (aCons (kD (.int 1)) (aCons (kD (.int 12)) aNil))))) (aCons (toD (d2 gMod (toD (d2 gMul (vB 8) (kD (.int 94906267)))) (toD (d2 gPow (kD (.int 2)) (kD (.int 40)))))) aNil)))) (toD (vCall z6 (aCons (vL 8) (aCons (kD (.int 2)) (aCons (kD (.int 2)) aNil)))))))))
    (q25 6 (toD (vTup (aCons (toD (vCall z21 (aCons (vL 3) (aCons (toD (d2 gAdd (kD (.int 10)) (vB 7))) aNil)))) (aCons (vL 9) (aCons (toD (d2 (gEq false) (toD (vCall z6 (aCons (vL 8) (aCons (kD (.int 0)) (aCons (kD (.int 2)) aNil))))) (kD (.int 1)))) aNil))))))))
noncomputable def q31 : De → Option Out := (sSeq (sSet 8 (toT (toD (vCall z26 (aCons (vL 0) (aCons (toD (d2 gAdd (toD (d2 gAdd (vB 1) (kD (.int 10)))) (vB 7))) aNil))))))
    (q25 10 (toD (vTup (aCons (toD (vCall z21 (aCons (vL 3) (aCons (toD (d2 gAdd (kD (.int 18)) (vB 7))) aNil)))) (aCons (toD (d2 gAdd (kD (.int 1)) (toD (vCall z6 (aCons (vL 8) (aCons (kD (.int 1)) (aCons (kD (.int 8)) aNil))))))) (aCons (toD (d2 (gEq false) (toD (vCall z6 (aCons (vL 8) (aCons (kD (.int 2)) (aCons (kD (.int 2)) aNil))))) (kD (.int 1)))) aNil)))))))
noncomputable def y41 : De → Option Dt := (toD (vCall q59 (aCons (toD (vCall z26 (aCons (vL 1) (aCons (toD (d2 gAdd (toD (d2 gAdd (vB 2) (kD (.int 4)))) (vB 0))) aNil)))) (aCons (vL 3) (aCons (vL 4) aNil)))))
noncomputable def q30 : List Dt → Option T := runD 12 ((sSeq (sSet 2 (toT (toD (vCall z26 (aCons (vL 0) (aCons (vL 1) aNil))))))
    (sSeq (sSet 3 (toT (toD (vCall z26 (aCons (vL 0) (aCons (toD (d2 gAdd (vB 1) (kD (.int 1)))) aNil))))))
    (sSeq (sSet 4 (toT (toD (d2 gAdd (kD (.int 1)) (toD (vCall z6 (aCons (vL 2) (aCons (kD (.int 0)) (aCons (kD (.int 9)) aNil)))))))))
    (sSeq (sSet 5 (toT (toD (vLst (aCons (toD (vCall z6 (aCons (vL 2) (aCons (kD (.int 1)) (aCons (kD (.int 4)) aNil))))) (aCons (toD (vCall z6 (aCons (vL 2) (aCons (kD (.int 2)) (aCons (kD (.int 3)) aNil))))) aNil))))))
    (sSeq (sIf (tB2 (gEq false) (toD (vCall z6 (aCons (vL 2) (aCons (kD (.int 3)) (aCons (kD (.int 4)) aNil))))) (kD (.int 1))) (sSet 5 (toT (toD (vLst (aCons (kD (.int 8)) (aCons (kD (.int 4)) aNil)))))) sNil)
    (sSeq (sIf (tB2 (gEq false) (toD (vCall z6 (aCons (vL 2) (aCons (kD (.int 4)) (aCons (kD (.int 4)) aNil))))) (kD (.int 1))) (sSet 4 (toT (toD (d2 gAdd (kD (.int 1)) (toD (vCall z6 (aCons (vL 2) (aCons (kD (.int 5)) (aCons (kD (.int 60)) aNil))))))))) sNil)
    (sSeq (sSet 6 (vLst aNil))
    (sSeq (sFor (fRng rng1 (aCons (toD (d2 gIxA (vB 5) (kD (.int 0)))) aNil)) (bName 7) y32)
    (sSeq (sSet 10 (vLst aNil))
    (sSeq (sFor (fRng rng1 (aCons (toD (d2 gIxA (vB 5) (kD (.int 1)))) aNil)) (bName 7) q31)
    (sSeq (sSet 11 (toT (toD (vComp [none, some 0, some 1, some 3, some 4] (fRng rng1 (aCons (vL 4) aNil)) (bName 0) tYesD y41))))
    (sRet (vTup (aCons (toD (vCall gTuple (aCons (vB 6) aNil))) (aCons (toD (vCall gTuple (aCons (vB 10) aNil))) (aCons (toD (vCall gTuple (aCons (vB 11) aNil))) aNil)))))))))))))))))
noncomputable def y64 (F : List Dt → Option T) : De → Option Dt := (toD (vCall F (aCons (toD (d2 gIxA (vB 1) (vB 0))) (aCons (toD (d2 gIxA (vB 2) (vB 0))) aNil))))
noncomputable def y21 (F : List Dt → Option T) : List Dt → Option T := runD 2 ((sSeq (sIf (fTru (toD (vInst "tuple" (vB 1)))) (sSeq (sIf (fOr (fNot (fTru (toD (vInst "tuple" (vB 0))))) (tB2 (gEq true) (toD (vCall gLen (aCons (vB 0) aNil))) (toD (vCall gLen (aCons (vB 1) aNil))))) (sRet (toT (kD (.bl false)))) sNil)
    (sRet (vCall (gAll fun bs => bs.all id) (aCons (toD (vComp [none, some 0, some 1] (fRng rng1 (aCons (toD (vCall gLen (aCons (vB 1) aNil))) aNil)) (bName 0) tYesD (y64 F))) aNil)))) sNil)
    (sSeq (sIf (fTru (toD (vInst "bool" (vB 1)))) (sRet (vAnd (toD (vInst "bool" (vB 0))) (d2 (gEq false) (vB 0) (vB 1)))) sNil)
    (sSeq (sIf (fTru (toD (vInst "int" (vB 1)))) (sRet (vAnd (toD (vInst "int" (vB 0))) (vAnd (toD (vNot (toD (vInst "bool" (vB 0))))) (d2 (gEq false) (vB 0) (vB 1))))) sNil)
    (sRet (vAnd (toD (vInst "str" (vB 0))) (d2 (gEq false) (vB 0) (vB 1))))))))
noncomputable def y14 : Nat → List Dt → Option T
  | 0 => runD 2 fun _ => none
  | n + 1 => y21 (y14 n)
noncomputable def z95 : De → Option Dt := (toD (vCall gStrA (aCons (vB 0) aNil)))
noncomputable def q52 : List Dt → Option T := runD 2 ((sSeq (sSet 1 (vComp [none] (fIt (vB 0)) (bName 0) tYesD z95))
    (sSeq (sIf (tB2 (gEq false) (toD (d2 gIxA (vB 0) (kD (.int 0)))) (kD (.str "copy"))) (sSet 1 (vLst (aCons (toD (d2 gIxA (vB 0) (kD (.int 1)))) (aCons (kD (.str "=")) (aCons (toD (vCall gStrA (aCons (toD (d2 gIxA (vB 0) (kD (.int 2)))) aNil))) aNil))))) sNil)
    (sSeq (sIf (tB2 (gEq false) (toD (d2 gIxA (vB 0) (kD (.int 0)))) (kD (.str "op"))) (sSet 1 (vLst (aCons (toD (d2 gIxA (vB 0) (kD (.int 1)))) (aCons (kD (.str "=")) (aCons (toD (vCall gStrA (aCons (toD (d2 gIxA (vB 0) (kD (.int 3)))) aNil))) (aCons (toD (d2 gIxA (vB 0) (kD (.int 2)))) (aCons (toD (vCall gStrA (aCons (toD (d2 gIxA (vB 0) (kD (.int 4)))) aNil))) aNil))))))) sNil)
    (sSeq (sIf (fOr (tB2 (gEq false) (toD (d2 gIxA (vB 0) (kD (.int 0)))) (kD (.str "if"))) (tB2 (gEq false) (toD (d2 gIxA (vB 0) (kD (.int 0)))) (kD (.str "go")))) (sPut 1 (toD (vNeg (kD (.int 1)))) (toD (d2 gAdd (kD (.str "r")) (toD (d2 gIxA (vB 1) (toD (vNeg (kD (.int 1))))))))) sNil)
    (sRet (vMeth g_join (kD (.str " ")) (aCons (vB 1) aNil))))))))
noncomputable def z33 : De → Option Dt := (toD (d2 gAdd (toD (d2 gAdd (toD (d2 gAdd (toD (d2 gAdd (toD (d2 gIxA (toD (vLst (aCons (kD (.str "cell")) (aCons (kD (.str "twin")) aNil)))) (toD (vCall gInt (aCons (vB 2) aNil))))) (kD (.str " ")))) (vB 0))) (kD (.str " ")))) (toD (vCall gStrA (aCons (vB 1) aNil)))))
noncomputable def z54 : De → Option Out := (q25 1 (toD (d2 gAdd (toD (d2 gAdd (toD (d2 gAdd (toD (d2 gAdd (toD (d2 gIxA (toD (vLst (aCons (kD (.str "shelf")) (aCons (kD (.str "twins")) aNil)))) (toD (vCall gInt (aCons (vB 4) aNil))))) (kD (.str " ")))) (vB 2))) (kD (.str " ")))) (toD (vCall gStrA (aCons (vB 3) aNil))))))
noncomputable def z53 : De → Option Bool := (fOr (tB2 (gEq false) (toD (d2 gIxA (vB 0) (kD (.int 0)))) (kD (.str "if"))) (tB2 (gEq false) (toD (d2 gIxA (vB 0) (kD (.int 0)))) (kD (.str "go"))))
noncomputable def q54 : De → Option Dt := (toD (d2 gIxA (vB 0) (toD (vNeg (kD (.int 1))))))
noncomputable def y42 : De → Option Out := (sSeq (sIf (tB2 (gInA false) (vB 6) (vB 5)) (q25 1 (toD (d2 gAdd (kD (.str "at r")) (toD (vCall gStrA (aCons (vB 6) aNil)))))) sNil)
    (sIf (tB2 (gCmp fun i j => decide (i < j)) (vB 6) (toD (vCall gLen (aCons (toD (d2 gIxA (vB 0) (kD (.int 2)))) aNil)))) (q25 1 (toD (vCall q52 (aCons (toD (d2 gIxA (toD (d2 gIxA (vB 0) (kD (.int 2)))) (vB 6))) aNil)))) sNil))
noncomputable def z52 : List Dt → Option T := runD 7 ((sSeq (sSet 1 (vComp [none, none, none] (fIt (toD (d2 gIxA (vB 0) (kD (.int 0))))) (bTup 3 (bCons (bName 0) (bCons (bName 1) (bCons (bName 2) bNil)))) tYesD z33))
    (sSeq (sFor (fIt (toD (d2 gIxA (vB 0) (kD (.int 1))))) (bTup 3 (bCons (bName 2) (bCons (bName 3) (bCons (bName 4) bNil)))) z54)
    (sSeq (sSet 5 (toT (toD (vComp [none] (fIt (toD (d2 gIxA (vB 0) (kD (.int 2))))) (bName 0) z53 q54))))
    (sSeq (sFor (fRng rng1 (aCons (toD (d2 gAdd (toD (vCall gLen (aCons (toD (d2 gIxA (vB 0) (kD (.int 2)))) aNil))) (kD (.int 1)))) aNil)) (bName 6) y42)
    (sRet (vMeth g_join (kD (.str "\n")) (aCons (vB 1) aNil))))))))
noncomputable def z18 : De → Option Bool := (tB2 (gInA false) (toD (d2 gIxA (vB 0) (kD (.int 0)))) (vB 1))
noncomputable def y18 : De → Option Dt := (toD (vTup (aCons (toD (d2 gIxA (vB 0) (kD (.int 1)))) (aCons (toD (d2 gIxA (vB 0) (kD (.int 2)))) (aCons (toD (d2 (gEq false) (toD (d2 gIxA (vB 0) (kD (.int 0)))) (toD (d2 gIxA (vB 1) (kD (.int 1)))))) aNil)))))
noncomputable def y26 : List Dt → Option T := runD 2 ((sRet (vCall gTuple (aCons (toD (vComp [none, some 1] (fIt (vB 0)) (bName 0) z18 y18)) aNil))))
noncomputable def q13 : De → Option Out := (sIf (tB2 (gEq false) (toD (d2 gIxA (vB 3) (kD (.int 0)))) (kD (.str "at"))) (sPut 1 (toD (d2 gIxA (vB 3) (kD (.int 1)))) (vL 2)) (sIf (tB2 (gInA true) (toD (d2 gIxA (vB 3) (kD (.int 0)))) (kD c_HEADS)) (sAug (fun i j => i + j) 2 (kD (.int 1))) sNil))
noncomputable def q40 : List Dt → Option T := runD 4 ((sSeq (sSet 1 vDnew)
    (sSeq (sSet 2 (toT (kD (.int 0))))
    (sSeq (sFor (fIt (vL 0)) (bName 3) q13)
    (sRetV 1)))))
noncomputable def y65 : De → Option Dt := (toD (d2 (gInA false) (vB 0) (vB 1)))
noncomputable def z24 : List Dt → Option T := runD 3 ((sRet (vAnd (toD (vChain (gCmp fun i j => decide (i ≤ j)) (gCmp fun i j => decide (i ≤ j)) (kD (.int 1)) (toD (vCall gLen (aCons (vB 0) aNil))) (vB 2))) (vCall (gAll fun bs => bs.all id) (aCons (toD (vComp [none, some 1] (fIt (vB 0)) (bName 0) tYesD y65)) aNil)))))
noncomputable def q34 : List Dt → Option T := runD 1 ((sRet (vCall z24 (aCons (vL 0) (aCons (kD c_LETTERS) (aCons (kD c_MOST_OF_NAME) aNil))))))
noncomputable def y28 : List Dt → Option T := runD 2 ((sSeq (sIf (fNot (fTru (toD (vCall z24 (aCons (vL 0) (aCons (kD c_FIGURES) (aCons (kD c_MOST_OF_VALUE) aNil))))))) (sRet (toT (kD .non))) sNil)
    (sSeq (sIf (fAnd (fTru (toD (vMeth g_startswith (vB 0) (aCons (kD (.str "0")) aNil)))) (tB2 (gEq true) (vB 0) (kD (.str "0")))) (sRet (toT (kD .non))) sNil)
    (sSeq (sSet 1 (toT (toD (vCall gInt (aCons (vB 0) aNil)))))
    (sRet (vIf (tB2 (gCmp fun i j => decide (i < j)) (vB 1) (kD c_WIDE)) (toT (vL 1)) (toT (kD .non))))))))
noncomputable def y69 : List Dt → Option T := runD 1 ((sRet (vIf (fTru (toD (vCall q34 (aCons (vL 0) aNil)))) (toT (vL 0)) (vCall y28 (aCons (vL 0) aNil)))))
noncomputable def y60 : List Dt → Option T := runD 1 ((sRet (vCall z24 (aCons (vL 0) (aCons (toD (d2 gAdd (kD c_LETTERS) (kD c_FIGURES))) (aCons (kD c_MOST_OF_LABEL) aNil))))))
noncomputable def z70 : List Dt → Option T := runD 2 ((sSeq (sSet 1 (toT (toD (vCall y28 (aCons (vL 0) aNil)))))
    (sRet (vIf (fAnd (tB2 (gIs true) (vB 1) (kD .non)) (asBf (vChain (gCmp fun i j => decide (i ≤ j)) (gCmp fun i j => decide (i ≤ j)) (kD (.int 1)) (vB 1) (kD c_MOST_OF_SIZE)))) (toT (vL 1)) (toT (kD .non))))))
noncomputable def y68 : List Dt → Option T := runD 3 ((sSeq (sIf (tB2 (gEq false) (vB 0) (kD (.str "atom"))) (sRet (vCall y69 (aCons (vL 1) aNil))) sNil)
    (sSeq (sIf (tB2 (gEq false) (vB 0) (kD (.str "value"))) (sRet (vCall y28 (aCons (vL 1) aNil))) sNil)
    (sSeq (sIf (tB2 (gEq false) (vB 0) (kD (.str "size"))) (sRet (vCall z70 (aCons (vL 1) aNil))) sNil)
    (sSeq (sIf (tB2 (gEq false) (vB 0) (kD (.str "name"))) (sSet 2 (toT (toD (vCall q34 (aCons (vL 1) aNil))))) (sIf (tB2 (gEq false) (vB 0) (kD (.str "label"))) (sSet 2 (toT (toD (vCall y60 (aCons (vL 1) aNil))))) (sSet 2 (toT (toD (d2 (gInA false) (vB 1) (kD c_SIGNS)))))))
    (sRet (vIf (fTru (vB 2)) (toT (vL 1)) (toT (kD .non)))))))))
noncomputable def y46 : De → Option Dt := (toD (vCall y68 (aCons (vL 0) (aCons (vL 1) aNil))))
noncomputable def q46 : List Dt → Option T := runD 4 ((sSeq (sIf (tB2 (gEq true) (toD (vCall gLen (aCons (vB 2) aNil))) (toD (vCall gLen (aCons (vB 1) aNil)))) (sRet (toT (kD .non))) sNil)
    (sSeq (sSet 3 (toT (toD (vComp [none, none] (fRng zipD (aCons (vL 1) (aCons (vL 2) aNil))) (bTup 2 (bCons (bName 0) (bCons (bName 1) bNil))) tYesD y46))))
    (sRet (vIf (tB2 (gInA false) (kD .non) (vB 3)) (toT (kD .non)) (vCall gTuple (aCons (toD (d2 gAdd (toD (vLst (aCons (vL 0) aNil))) (vB 3))) aNil)))))))
noncomputable def y31 : List Dt → Option T := runD 1 ((sSeq (sIf (tB2 (gEq false) (toD (vCall gLen (aCons (vB 0) aNil))) (kD (.int 3))) (sRet (vCall q46 (aCons (kD (.str "copy")) (aCons (toD (vTup (aCons (kD (.str "name")) (aCons (kD (.str "atom")) aNil)))) (aCons (toD (vLst (aCons (toD (d2 gIxA (vB 0) (kD (.int 0)))) (aCons (toD (d2 gIxA (vB 0) (kD (.int 2)))) aNil)))) aNil))))) sNil)
    (sSeq (sIf (tB2 (gEq false) (toD (vCall gLen (aCons (vB 0) aNil))) (kD (.int 5))) (sRet (vCall q46 (aCons (kD (.str "op")) (aCons (toD (vTup (aCons (kD (.str "name")) (aCons (kD (.str "sign")) (aCons (kD (.str "atom")) (aCons (kD (.str "atom")) aNil)))))) (aCons (toD (vLst (aCons (toD (d2 gIxA (vB 0) (kD (.int 0)))) (aCons (toD (d2 gIxA (vB 0) (kD (.int 3)))) (aCons (toD (d2 gIxA (vB 0) (kD (.int 2)))) (aCons (toD (d2 gIxA (vB 0) (kD (.int 4)))) aNil)))))) aNil))))) sNil)
    (sRet (toT (kD .non))))))
noncomputable def q29 : List Dt → Option T := runD 2 ((sSeq (sSet 1 (toT (toD (vMeth g_split (vB 0) (aCons (kD (.str " ")) aNil)))))
    (sSeq (sIf (fAnd (tB2 (gCmp fun i j => decide (j < i)) (toD (vCall gLen (aCons (vB 1) aNil))) (kD (.int 1))) (tB2 (gEq false) (toD (d2 gIxA (vB 1) (kD (.int 1)))) (kD (.str "=")))) (sRet (vCall y31 (aCons (vL 1) aNil))) sNil)
    (sSeq (sIf (fSi true k_WANTED c_WANTED (toD (d2 gIxA (vB 1) (kD (.int 0))))) (sRet (toT (kD .non))) sNil)
    (sRet (vCall q46 (aCons (toD (d2 gIxA (vB 1) (kD (.int 0)))) (aCons (toD (vSg k_WANTED c_WANTED (toD (d2 gIxA (vB 1) (kD (.int 0)))))) (aCons (toD (vSl (vB 1) (oSome (kD (.int 1))) oNone)) aNil)))))))))
noncomputable def q60 : De → Option Out := (sSeq (sSet 5 (toT (toD (vCall q29 (aCons (vL 4) aNil)))))
    (sSeq (sIf (fOr (tB2 (gIs false) (vB 5) (kD .non)) (fAnd (tB2 (gInA false) (toD (d2 gIxA (vB 5) (kD (.int 0)))) (kD c_HEADS)) (fNot (fTru (vB 2))))) sNever sNil)
    (sSeq (sSet 2 (toT (toD (d2 (gInA false) (toD (d2 gIxA (vB 5) (kD (.int 0)))) (kD c_HEADS)))))
    (q25 1 (vL 5)))))
noncomputable def z57 : List Dt → Option T := runD 6 ((sSeq (sSet 1 (vLst aNil))
    (sSeq (sSet 2 (toT (kD (.bl true))))
    (sSeq (sFor (fRng enumD (aCons (toD (vMeth g_split (vB 0) (aCons (kD (.str "\n")) aNil))) aNil)) (bTup 2 (bCons (bName 3) (bCons (bName 4) bNil))) q60)
    (sRetV 1)))))
noncomputable def z55 : De → Option Out := (sSeq (sIf (tB2 (gInA false) (vB 2) (vB 1)) sNever sNil)
    (sPut 1 (vB 2) (kD (.bl true))))
noncomputable def y30 : List Dt → Option T := runD 3 ((sSeq (sSet 1 vDnew)
    (sFor (fIt (vL 0)) (bName 2) z55)))
noncomputable def q16 : List Dt → Option T := runD 3 ((sSeq (sIf (tB2 (gInA true) (toD (d2 gIxA (vB 0) (kD (.int 0)))) (kD c_LEADING)) (sRetV 0) sNil)
    (sSeq (sSet 2 (toT (toD (d2 gIxA (vB 0) (toD (vNeg (kD (.int 1))))))))
    (sSeq (sIf (tB2 (gInA true) (vB 2) (vB 1)) sNever sNil)
    (sRet (d2 gAddT (toD (vSl (vB 0) oNone (oSome (toD (vNeg (kD (.int 1))))))) (toD (vTup (aCons (toD (d2 gIxA (vB 1) (vB 2))) aNil)))))))))
noncomputable def q65 : De → Option Bool := (tB2 (gInA false) (toD (d2 gIxA (vB 0) (kD (.int 0)))) (kD c_HEADS))
noncomputable def z66 : De → Option Dt := (toD (d2 gIxA (vB 0) (kD (.int 1))))
noncomputable def q64 : De → Option Bool := (tB2 (gEq false) (toD (d2 gIxA (vB 0) (kD (.int 0)))) (kD (.str "at")))
noncomputable def z67 : De → Option Dt := (toD (d2 gIxA (vB 0) (kD (.int 1))))
noncomputable def y67 : De → Option Bool := (fAnd (tB2 (gInA true) (toD (d2 gIxA (vB 0) (kD (.int 0)))) (kD c_HEADS)) (tB2 (gEq true) (toD (d2 gIxA (vB 0) (kD (.int 0)))) (kD (.str "at"))))
noncomputable def y91 : De → Option Dt := (toD (vCall q16 (aCons (vL 0) (aCons (vL 1) aNil))))
noncomputable def F_read : List Dt → Option T := runD 4 ((sSeq (sSet 1 (toT (toD (vCall z57 (aCons (vL 0) aNil)))))
    (sSeq (sDrop (vCall y30 (aCons (toD (vComp [none] (fIt (vB 1)) (bName 0) q65 z66)) aNil)))
    (sSeq (sDrop (vCall y30 (aCons (toD (vComp [none] (fIt (vB 1)) (bName 0) q64 z67)) aNil)))
    (sSeq (sSet 2 (toT (toD (vCall q40 (aCons (vL 1) aNil)))))
    (sSeq (sSet 3 (toT (toD (vComp [none, some 2] (fIt (vB 1)) (bName 0) y67 y91))))
    (sRet (vTup (aCons (toD (vCall y26 (aCons (vL 1) (aCons (kD c_CELLS) aNil)))) (aCons (toD (vCall y26 (aCons (vL 1) (aCons (kD c_SHELVES) aNil)))) (aCons (toD (vCall gTuple (aCons (vB 3) aNil))) aNil)))))))))))
noncomputable def q19 : De → Option Dt := (toD (vMeth g_join (kD (.str " ")) (aCons (toD (vLst (aCons (toD (vIf (fTru (toD (d2 gIxA (vB 0) (kD (.int 2))))) (d2 gIxA (vB 1) (kD (.int 1))) (d2 gIxA (vB 1) (kD (.int 0))))) (aCons (toD (d2 gIxA (vB 0) (kD (.int 0)))) (aCons (toD (vCall gStrA (aCons (toD (d2 gIxA (vB 0) (kD (.int 1)))) aNil))) aNil))))) aNil)))
noncomputable def q20 : List Dt → Option T := runD 2 ((sRet (vComp [none, some 1] (fIt (vB 0)) (bName 0) tYesD q19)))
noncomputable def z34 : List Dt → Option T := runD 1 ((sRet (vFstr [pfC "r", pfV (vB 0)])))
noncomputable def y40 : De → Option Dt := (toD (vCall gStrA (aCons (vB 0) aNil)))
noncomputable def y57 : List Dt → Option T := runD 2 ((sSeq (sSet 1 (toT (toD (vComp [none] (fIt (toD (vSl (vB 0) (oSome (kD (.int 1))) oNone))) (bName 0) tYesD y40))))
    (sSeq (sIf (tB2 (gEq false) (toD (d2 gIxA (vB 0) (kD (.int 0)))) (kD (.str "copy"))) (sRet (vLst (aCons (toD (d2 gIxA (vB 1) (kD (.int 0)))) (aCons (kD (.str "=")) (aCons (toD (d2 gIxA (vB 1) (kD (.int 1)))) aNil))))) sNil)
    (sSeq (sIf (tB2 (gEq false) (toD (d2 gIxA (vB 0) (kD (.int 0)))) (kD (.str "op"))) (sRet (vLst (aCons (toD (d2 gIxA (vB 1) (kD (.int 0)))) (aCons (kD (.str "=")) (aCons (toD (d2 gIxA (vB 1) (kD (.int 2)))) (aCons (toD (d2 gIxA (vB 1) (kD (.int 1)))) (aCons (toD (d2 gIxA (vB 1) (kD (.int 3)))) aNil))))))) sNil)
    (sSeq (sIf (tB2 (gInA false) (toD (d2 gIxA (vB 0) (kD (.int 0)))) (kD c_LEADING)) (sRet (d2 gAdd (toD (d2 gAdd (toD (vLst (aCons (toD (d2 gIxA (vB 0) (kD (.int 0)))) aNil))) (toD (vSl (vB 1) oNone (oSome (toD (vNeg (kD (.int 1))))))))) (toD (vLst (aCons (toD (vCall z34 (aCons (toD (d2 gIxA (vB 0) (toD (vNeg (kD (.int 1)))))) aNil))) aNil))))) sNil)
    (sRet (d2 gAdd (toD (vLst (aCons (toD (d2 gIxA (vB 0) (kD (.int 0)))) aNil))) (vB 1))))))))
noncomputable def y82 : De → Option Bool := (tB2 (gInA false) (toD (d2 gIxA (vB 0) (kD (.int 0)))) (kD c_LEADING))
noncomputable def q83 : De → Option Dt := (toD (d2 gIxA (vB 0) (toD (vNeg (kD (.int 1))))))
noncomputable def q69 : De → Option Out := (sSeq (sIf (tB2 (gInA false) (vB 4) (vB 2)) (q25 3 (toD (vMeth g_join (kD (.str " ")) (aCons (toD (vLst (aCons (kD (.str "at")) (aCons (toD (vCall z34 (aCons (vL 4) aNil))) aNil)))) aNil)))) sNil)
    (sIf (tB2 (gCmp fun i j => decide (i < j)) (vB 4) (toD (vCall gLen (aCons (vB 1) aNil)))) (q25 3 (toD (vMeth g_join (kD (.str " ")) (aCons (toD (vCall y57 (aCons (toD (d2 gIxA (vB 1) (vB 4))) aNil))) aNil)))) sNil))
noncomputable def q86 : List Dt → Option T := runD 5 ((sSeq (sSet 1 (toT (toD (d2 gIxA (vB 0) (kD (.int 2))))))
    (sSeq (sSet 2 (toT (toD (vComp [none] (fIt (vB 1)) (bName 0) y82 q83))))
    (sSeq (sSet 3 (d2 gAdd (toD (vCall q20 (aCons (toD (d2 gIxA (vB 0) (kD (.int 0)))) (aCons (kD c_CELLS) aNil)))) (toD (vCall q20 (aCons (toD (d2 gIxA (vB 0) (kD (.int 1)))) (aCons (kD c_SHELVES) aNil))))))
    (sSeq (sFor (fRng rng1 (aCons (toD (d2 gAdd (toD (vCall gLen (aCons (vB 1) aNil))) (kD (.int 1)))) aNil)) (bName 4) q69)
    (sRet (vMeth g_join (kD (.str "\n")) (aCons (vB 3) aNil))))))))
noncomputable def z31 : List Dt → Option T := runD 3 ((sSeq (sSet 1 (toT (toD (vCall z52 (aCons (vL 0) aNil)))))
    (sSeq (sSet 2 (toT (toD (vCall q86 (aCons (vL 0) aNil)))))
    (sRet (vAnd (toD (vInst "str" (vB 2))) (vAnd (toD (d2 (gEq false) (vB 2) (vB 1))) (vCall (y14 6) (aCons (toD (vCall F_read (aCons (vL 1) aNil))) (aCons (vL 0) aNil)))))))))
noncomputable def F_law : List Dt → Option T := runD 3 ((sSeq (sSet 1 (toT (toD (vCall q30 (aCons (vL 0) (aCons (kD (.int 0)) aNil))))))
    (sSeq (sSet 2 (toT (toD (vCall q30 (aCons (vL 0) (aCons (kD (.int 29)) aNil))))))
    (sRet (vAnd (toD (vCall z31 (aCons (vL 1) aNil))) (vAnd (toD (vCall z31 (aCons (vL 2) aNil))) (vCall z31 (aCons (vL 1) aNil))))))))
structure Txt (P : Program) (w : World) (K : PySem.W.Frag) (mg : Str → Option Value) : Prop where
  n_all : mg "all" = none
  n_bool : mg "bool" = none
  n_enumerate : mg "enumerate" = none
  n_int : mg "int" = none
  n_isinstance : mg "isinstance" = none
  n_len : mg "len" = none
  n_range : mg "range" = none
  n_str : mg "str" = none
  n_tuple : mg "tuple" = none
  n_zip : mg "zip" = none
  g_CELLS : GlobD K mg "CELLS" c_CELLS
  g_FIGURES : GlobD K mg "FIGURES" c_FIGURES
  g_HEADS : GlobD K mg "HEADS" c_HEADS
  g_LEADING : GlobD K mg "LEADING" c_LEADING
  g_LETTERS : GlobD K mg "LETTERS" c_LETTERS
  g_MOST_OF_LABEL : GlobD K mg "MOST_OF_LABEL" c_MOST_OF_LABEL
  g_MOST_OF_NAME : GlobD K mg "MOST_OF_NAME" c_MOST_OF_NAME
  g_MOST_OF_SIZE : GlobD K mg "MOST_OF_SIZE" c_MOST_OF_SIZE
  g_MOST_OF_VALUE : GlobD K mg "MOST_OF_VALUE" c_MOST_OF_VALUE
  g_SHELVES : GlobD K mg "SHELVES" c_SHELVES
  g_SIGNS : GlobD K mg "SIGNS" c_SIGNS
  g_WANTED : SDic P w K mg "WANTED" k_WANTED c_WANTED
  g_WIDE : GlobD K mg "WIDE" c_WIDE
  k_tuple : KindsD K "tuple"
  k_bool : KindsD K "bool"
  k_int : KindsD K "int"
  k_str : KindsD K "str"
section
variable {P : Program} {w : World} {K : PySem.W.Frag} {mg : Str → Option Value} {base : Heap}
noncomputable abbrev q21 : Stmt := top 41
theorem q79 : FnScope ["_law_script", "_law_k", "_law_seed"] ["_law_script", "_law_k"] (defScope q21) := ⟨rfl, rfl, rfl, by decide +kernel, rfl, by decide +kernel, by decide +kernel⟩
theorem z38 : nmOk (defScope q21) ["_law_script", "_law_k", "_law_seed"] 0 "_law_script" = true := by decide +kernel
theorem z40 : nmOk (defScope q21) ["_law_script", "_law_k", "_law_seed"] 1 "_law_k" = true := by decide +kernel
theorem y47 : nmOk (defScope q21) ["_law_script", "_law_k", "_law_seed"] 2 "_law_seed" = true := by decide +kernel
theorem z86 : lcOk (defScope q21) "_law_seed" = true := by decide +kernel
theorem y54 : glOk (defScope q21) "len" = true := by decide +kernel
theorem z139 (T : Txt P w K mg) (D : DefF K mg "_law_cell" q21 ["_law_script", "_law_k"]) : OkF P w K mg base "_law_cell" 1 ["_law_script", "_law_k"] (spD K 2 z26) :=
  mk_ok D q79 rfl fun f cdv A outer s H E hr => (ds_cons (ds_if (dt_cmp op_lt r_cmp (db_var (pvD 1 z40)) (DO.toB (do_callB y54 call_len c_len T.n_len bt_len (dab_cons (db_var (pvD 0 z38)) dab_nil))) (nomark _)) (ds_one (ds_ret (do_ixA hr (db_var (pvD 0 z38)) (db_var (pvD 1 z40))))) ds_nil)
      (ds_cons (ds_set y47 z86 q79.nd (DL.toO dl_int))
      (ds_cons (ds_if (dt_cmp op_gt r_cmp (DO.toB (do_callB y54 call_len c_len T.n_len bt_len (dab_cons (db_var (pvD 0 z38)) dab_nil))) (DL.toB dl_int) (nomark _)) (ds_one (ds_set y47 z86 q79.nd (DL.toO (DO.toL (do_bin op_mod r_mod (DO.toB (do_ixA hr (db_var (pvD 0 z38)) (DO.toB (do_bin op_mod r_mod (db_var (pvD 1 z40)) (DO.toB (do_callB y54 call_len c_len T.n_len bt_len (dab_cons (db_var (pvD 0 z38)) dab_nil))))))) (DL.toB dl_int)))))) ds_nil)
      (ds_one (ds_ret (do_bin op_mod r_mod (DO.toB (do_bin op_mul r_mul (DO.toB (do_bin op_addD r_add (DO.toB (do_bin op_addD r_add (db_var (pvD 2 y47)) (DO.toB (do_bin op_mul r_mul (DL.toB dl_int) (db_var (pvD 1 z40)))))) (DL.toB dl_int))) (DO.toB (do_bin op_addD r_add (DO.toB (do_bin op_addD r_add (db_var (pvD 2 y47)) (DO.toB (do_bin op_mul r_mul (DL.toB dl_int) (db_var (pvD 1 z40)))))) (DL.toB dl_int))))) (DL.toB dl_int)))))))
noncomputable abbrev z22 : Stmt := top 42
theorem q101 : FnScope ["_law_cell_here", "_law_j", "_law_many", "_law_primes"] ["_law_cell_here", "_law_j", "_law_many"] (defScope z22) := ⟨rfl, rfl, rfl, by decide +kernel, rfl, by decide +kernel, by decide +kernel⟩
theorem q124 : nmOk (defScope z22) ["_law_cell_here", "_law_j", "_law_many", "_law_primes"] 0 "_law_cell_here" = true := by decide +kernel
theorem z87 : nmOk (defScope z22) ["_law_cell_here", "_law_j", "_law_many", "_law_primes"] 1 "_law_j" = true := by decide +kernel
theorem z123 : nmOk (defScope z22) ["_law_cell_here", "_law_j", "_law_many", "_law_primes"] 2 "_law_many" = true := by decide +kernel
theorem q89 : nmOk (defScope z22) ["_law_cell_here", "_law_j", "_law_many", "_law_primes"] 3 "_law_primes" = true := by decide +kernel
theorem z126 : lcOk (defScope z22) "_law_primes" = true := by decide +kernel
theorem y137 (T : Txt P w K mg) (D : DefF K mg "_law_part" z22 ["_law_cell_here", "_law_j", "_law_many"]) : OkF P w K mg base "_law_part" 1 ["_law_cell_here", "_law_j", "_law_many"] (spD K 3 z6) :=
  mk_ok D q101 rfl fun f cdv A outer s H E hr => (ds_cons (ds_set q89 z126 q101.nd (DL.toO (DO.toL (do_tup (da_cons dl_int (da_cons dl_int (da_cons dl_int (da_cons dl_int (da_cons dl_int (da_cons dl_int (da_cons dl_int (da_cons dl_int da_nil))))))))))))
      (ds_one (ds_ret (do_bin op_mod r_mod (DO.toB (do_bin op_mod r_mod (DO.toB (do_bin op_addD r_add (DO.toB (do_bin op_mul r_mul (db_var (pvD 0 q124)) (DL.toB dl_int))) (DO.toB (do_bin op_mul r_mul (DL.toB dl_int) (db_var (pvD 1 z87)))))) (DO.toB (do_ixA hr (db_var (pvD 3 q89)) (DO.toB (do_bin op_mod r_mod (db_var (pvD 1 z87)) (DL.toB dl_int))))))) (db_var (pvD 2 z123))))))
noncomputable abbrev z7 : Stmt := top 43
theorem q38 : FnScope ["_law_base", "_law_k", "_law_letters", "_law_words", "_law_like", "_law_size", "_law_some"] ["_law_base", "_law_k"] (defScope z7) := ⟨rfl, rfl, rfl, by decide +kernel, rfl, by decide +kernel, by decide +kernel⟩
theorem z39 : nmOk (defScope z7) ["_law_base", "_law_k", "_law_letters", "_law_words", "_law_like", "_law_size", "_law_some"] 0 "_law_base" = true := by decide +kernel
theorem y63 : nmOk (defScope z7) ["_law_base", "_law_k", "_law_letters", "_law_words", "_law_like", "_law_size", "_law_some"] 1 "_law_k" = true := by decide +kernel
theorem q88 : nmOk (defScope z7) ["_law_base", "_law_k", "_law_letters", "_law_words", "_law_like", "_law_size", "_law_some"] 2 "_law_letters" = true := by decide +kernel
theorem y120 : lcOk (defScope z7) "_law_letters" = true := by decide +kernel
theorem y87 : nmOk (defScope z7) ["_law_base", "_law_k", "_law_letters", "_law_words", "_law_like", "_law_size", "_law_some"] 3 "_law_words" = true := by decide +kernel
theorem y127 : lcOk (defScope z7) "_law_words" = true := by decide +kernel
theorem z48 : nmOk (defScope z7) ["_law_base", "_law_k", "_law_letters", "_law_words", "_law_like", "_law_size", "_law_some"] 4 "_law_like" = true := by decide +kernel
theorem z127 : lcOk (defScope z7) "_law_like" = true := by decide +kernel
theorem q66 : nmOk (defScope z7) ["_law_base", "_law_k", "_law_letters", "_law_words", "_law_like", "_law_size", "_law_some"] 5 "_law_size" = true := by decide +kernel
theorem q123 : lcOk (defScope z7) "_law_size" = true := by decide +kernel
theorem z65 : nmOk (defScope z7) ["_law_base", "_law_k", "_law_letters", "_law_words", "_law_like", "_law_size", "_law_some"] 6 "_law_some" = true := by decide +kernel
theorem y122 : lcOk (defScope z7) "_law_some" = true := by decide +kernel
theorem y20 : glOk (defScope z7) "_law_part" = true := by decide +kernel
theorem y78 : glOk (defScope z7) "int" = true := by decide +kernel
theorem y99 : glOk (defScope z7) "range" = true := by decide +kernel
theorem z141 (T : Txt P w K mg) (D : DefF K mg "_law_name" z7 ["_law_base", "_law_k"]) (y6 : OkF P w K mg base "_law_part" 1 ["_law_cell_here", "_law_j", "_law_many"] (spD K 3 (z6))) : OkF P w K mg base "_law_name" 2 ["_law_base", "_law_k"] (spD K 2 z21) :=
  mk_ok D q38 rfl fun f cdv A outer s H E hr => (ds_cons (ds_set q88 y120 q38.nd (DL.toO dl_str))
      (ds_cons (ds_set y87 y127 q38.nd (DL.toO (DO.toL (do_lst (da_cons dl_str (da_cons dl_str (da_cons dl_str (da_cons dl_str (da_cons dl_str (da_cons dl_str (da_cons dl_str (da_cons dl_str (da_cons dl_str (da_cons dl_str (da_cons dl_str (da_cons dl_str (da_cons dl_str (da_cons dl_str da_nil))))))))))))))))))
      (ds_cons (ds_set z48 z127 q38.nd (DL.toO (DO.toL (do_cmp (op_eqA hr) r_eq (DO.toB (do_callF y20 y6 (hr.mono (by decide)) (da_cons (dl_var (pvD 0 z39)) (da_cons dl_int (da_cons dl_int da_nil))))) (DL.toB dl_int) (nomark _)))))
      (ds_cons (ds_if (DW.t (dw_and (dt_truth (db_var (pvD 4 z48)) (fun _ => rfl)) (dw_and1 (dt_cmp op_lt r_cmp (db_var (pvD 1 y63)) (DL.toB dl_int) (nomark _))))) (ds_one (ds_ret (do_ixA hr (db_var (pvD 3 y87)) (DO.toB (do_bin op_mod r_mod (DO.toB (do_bin op_addD r_add (db_var (pvD 1 y63)) (DO.toB (do_callF y20 y6 (hr.mono (by decide)) (da_cons (dl_var (pvD 0 z39)) (da_cons dl_int (da_cons dl_int da_nil))))))) (DL.toB dl_int)))))) ds_nil)
      (ds_cons (ds_set q66 q123 q38.nd (DL.toO (DO.toL (do_bin op_addD r_add (DL.toB dl_int) (DO.toB (do_callF y20 y6 (hr.mono (by decide)) (da_cons (dl_var (pvD 0 z39)) (da_cons dl_int (da_cons (DO.toL (do_bin op_sub r_sub (DL.toB dl_int) (DO.toB (do_callT y78 call_intA c_int T.n_int bt_int (dab_cons (db_var (pvD 4 z48)) dab_nil))))) da_nil)))))))))
      (ds_cons (ds_setC z65 y122 q38.nd (M := ["_law_j", "_law_base", "_law_letters"]) (src := [none, some 0, some 2]) (ts := [0]) (CmpScope.of (N := ["_law_base", "_law_k", "_law_letters", "_law_words", "_law_like", "_law_size", "_law_some"]) (outer := defScope z7) (by decide +kernel)) rfl (DIF.toB (di_range1 y99 T.n_range (da_cons (dl_var (pvD 5 q66)) da_nil))) (fun nd _ _ _ _ => (dg_name (pg_nameC (N := ["_law_j", "_law_base", "_law_letters"]) (i := 0) (by decide +kernel) (by decide +kernel) nd (scC (outer := defScope z7) (by exact rfl))))) (fun _ _ _ _ => dts_nil) (fun _ _ _ _ => (DO.toL (do_ixA hr (db_var (pvD (N := ["_law_j", "_law_base", "_law_letters"]) 2 (by decide +kernel) (scC (outer := defScope z7) rfl))) (DO.toB (do_callF (by decide +kernel) y6 (hr.mono (by decide)) (da_cons (dl_var (pvD (N := ["_law_j", "_law_base", "_law_letters"]) 1 (by decide +kernel) (scC (outer := defScope z7) rfl))) (da_cons (dl_var (pvD (N := ["_law_j", "_law_base", "_law_letters"]) 0 (by decide +kernel) (scC (outer := defScope z7) rfl))) (da_cons dl_int da_nil))) (e1 := (scC (outer := defScope z7) rfl))))))) (by decide +kernel))
      (ds_cons (ds_put hr (pvD 6 z65) (DO.toB (do_callF y20 y6 (hr.mono (by decide)) (da_cons (dl_var (pvD 0 z39)) (da_cons dl_int (da_cons (dl_var (pvD 5 q66)) da_nil))))) (DO.toL (do_ixA hr (db_var (pvD 2 q88)) (DO.toB (do_bin op_mod r_mod (DO.toB (do_bin op_addD r_add (DO.toB (do_callF y20 y6 (hr.mono (by decide)) (da_cons (dl_var (pvD 0 z39)) (da_cons dl_int (da_cons dl_int da_nil))))) (db_var (pvD 1 y63)))) (DL.toB dl_int))))))
      (ds_one (ds_ret (do_bin op_addD r_add (DO.toB (do_join (DL.toB dl_str) (dab_cons (db_var (pvD 6 z65)) dab_nil))) (DO.toB (do_bin op_mulS r_mulS (DL.toB dl_str) (DO.toB (do_callT y78 call_intA c_int T.n_int bt_int (dab_cons (db_var (pvD 4 z48)) dab_nil)))))))))))))))
noncomputable abbrev y16 : Stmt := top 44
theorem z100 : FnScope ["_law_cell_here", "_law_j", "_law_base", "_law_way"] ["_law_cell_here", "_law_j", "_law_base"] (defScope y16) := ⟨rfl, rfl, rfl, by decide +kernel, rfl, by decide +kernel, by decide +kernel⟩
theorem z47 : nmOk (defScope y16) ["_law_cell_here", "_law_j", "_law_base", "_law_way"] 0 "_law_cell_here" = true := by decide +kernel
theorem q67 : nmOk (defScope y16) ["_law_cell_here", "_law_j", "_law_base", "_law_way"] 1 "_law_j" = true := by decide +kernel
theorem y123 : nmOk (defScope y16) ["_law_cell_here", "_law_j", "_law_base", "_law_way"] 2 "_law_base" = true := by decide +kernel
theorem q68 : nmOk (defScope y16) ["_law_cell_here", "_law_j", "_law_base", "_law_way"] 3 "_law_way" = true := by decide +kernel
theorem q125 : lcOk (defScope y16) "_law_way" = true := by decide +kernel
theorem q35 : glOk (defScope y16) "_law_part" = true := by decide +kernel
theorem y85 : glOk (defScope y16) "_law_name" = true := by decide +kernel
theorem q139 (T : Txt P w K mg) (D : DefF K mg "_law_atom" y16 ["_law_cell_here", "_law_j", "_law_base"]) (q22 : OkF P w K mg base "_law_name" 2 ["_law_base", "_law_k"] (spD K 2 (z21))) (y6 : OkF P w K mg base "_law_part" 1 ["_law_cell_here", "_law_j", "_law_many"] (spD K 3 (z6))) : OkF P w K mg base "_law_atom" 3 ["_law_cell_here", "_law_j", "_law_base"] (spD K 3 q43) :=
  mk_ok D z100 rfl fun f cdv A outer s H E hr => (ds_cons (ds_set q68 q125 z100.nd (DL.toO (DO.toL (do_callF q35 y6 (hr.mono (by decide)) (da_cons (dl_var (pvD 0 z47)) (da_cons (dl_var (pvD 1 q67)) (da_cons dl_int da_nil)))))))
      (ds_cons (ds_if (dt_cmp (op_eqA hr) r_eq (db_var (pvD 3 q68)) (DL.toB dl_int) (nomark _)) (ds_one (ds_ret (do_ixA hr (DO.toB (do_lst (da_cons dl_int (da_cons dl_int (da_cons dl_int (da_cons dl_int (da_cons (DO.toL (do_bin op_sub r_sub (DO.toB (do_bin op_pow r_pow (DL.toB dl_int) (DL.toB dl_int))) (DL.toB dl_int))) (da_cons (DO.toL (do_bin op_pow r_pow (DL.toB dl_int) (DL.toB dl_int))) da_nil)))))))) (DO.toB (do_callF q35 y6 (hr.mono (by decide)) (da_cons (dl_var (pvD 0 z47)) (da_cons (DO.toL (do_bin op_addD r_add (db_var (pvD 1 q67)) (DL.toB dl_int))) (da_cons dl_int da_nil)))))))) ds_nil)
      (ds_cons (ds_if (dt_cmp (op_eqA hr) r_eq (db_var (pvD 3 q68)) (DL.toB dl_int) (nomark _)) (ds_one (ds_ret (do_bin op_mod r_mod (DO.toB (do_bin op_mul r_mul (db_var (pvD 0 z47)) (DL.toB dl_int))) (DO.toB (do_bin op_pow r_pow (DL.toB dl_int) (DL.toB dl_int)))))) ds_nil)
      (ds_one (ds_ret (do_callF y85 q22 (hr.mono (by decide)) (da_cons (dl_var (pvD 2 y123)) (da_cons (DO.toL (do_callF q35 y6 (hr.mono (by decide)) (da_cons (dl_var (pvD 0 z47)) (da_cons (DO.toL (do_bin op_addD r_add (db_var (pvD 1 q67)) (DL.toB dl_int))) (da_cons dl_int da_nil))))) da_nil))))))))
noncomputable abbrev z9 : Stmt := top 45
theorem z35 : FnScope ["_law_cell_here", "_law_base", "_law_many", "_law_x", "_law_a", "_law_b", "_law_c", "_law_kind", "_law_goal"] ["_law_cell_here", "_law_base", "_law_many"] (defScope z9) := ⟨rfl, rfl, rfl, by decide +kernel, rfl, by decide +kernel, by decide +kernel⟩
theorem q28 : nmOk (defScope z9) ["_law_cell_here", "_law_base", "_law_many", "_law_x", "_law_a", "_law_b", "_law_c", "_law_kind", "_law_goal"] 0 "_law_cell_here" = true := by decide +kernel
theorem y52 : nmOk (defScope z9) ["_law_cell_here", "_law_base", "_law_many", "_law_x", "_law_a", "_law_b", "_law_c", "_law_kind", "_law_goal"] 1 "_law_base" = true := by decide +kernel
theorem z129 : nmOk (defScope z9) ["_law_cell_here", "_law_base", "_law_many", "_law_x", "_law_a", "_law_b", "_law_c", "_law_kind", "_law_goal"] 2 "_law_many" = true := by decide +kernel
theorem q33 : nmOk (defScope z9) ["_law_cell_here", "_law_base", "_law_many", "_law_x", "_law_a", "_law_b", "_law_c", "_law_kind", "_law_goal"] 3 "_law_x" = true := by decide +kernel
theorem z132 : lcOk (defScope z9) "_law_x" = true := by decide +kernel
theorem q26 : nmOk (defScope z9) ["_law_cell_here", "_law_base", "_law_many", "_law_x", "_law_a", "_law_b", "_law_c", "_law_kind", "_law_goal"] 4 "_law_a" = true := by decide +kernel
theorem q130 : lcOk (defScope z9) "_law_a" = true := by decide +kernel
theorem q72 : nmOk (defScope z9) ["_law_cell_here", "_law_base", "_law_many", "_law_x", "_law_a", "_law_b", "_law_c", "_law_kind", "_law_goal"] 5 "_law_b" = true := by decide +kernel
theorem q134 : lcOk (defScope z9) "_law_b" = true := by decide +kernel
theorem z42 : nmOk (defScope z9) ["_law_cell_here", "_law_base", "_law_many", "_law_x", "_law_a", "_law_b", "_law_c", "_law_kind", "_law_goal"] 6 "_law_c" = true := by decide +kernel
theorem y132 : lcOk (defScope z9) "_law_c" = true := by decide +kernel
theorem z16 : nmOk (defScope z9) ["_law_cell_here", "_law_base", "_law_many", "_law_x", "_law_a", "_law_b", "_law_c", "_law_kind", "_law_goal"] 7 "_law_kind" = true := by decide +kernel
theorem q129 : lcOk (defScope z9) "_law_kind" = true := by decide +kernel
theorem z72 : nmOk (defScope z9) ["_law_cell_here", "_law_base", "_law_many", "_law_x", "_law_a", "_law_b", "_law_c", "_law_kind", "_law_goal"] 8 "_law_goal" = true := by decide +kernel
theorem y131 : lcOk (defScope z9) "_law_goal" = true := by decide +kernel
theorem q23 : glOk (defScope z9) "_law_part" = true := by decide +kernel
theorem z56 : glOk (defScope z9) "_law_name" = true := by decide +kernel
theorem y56 : glOk (defScope z9) "_law_atom" = true := by decide +kernel
theorem z143 (T : Txt P w K mg) (D : DefF K mg "_law_row" z9 ["_law_cell_here", "_law_base", "_law_many"]) (z68 : OkF P w K mg base "_law_atom" 3 ["_law_cell_here", "_law_j", "_law_base"] (spD K 3 (q43))) (q22 : OkF P w K mg base "_law_name" 2 ["_law_base", "_law_k"] (spD K 2 (z21))) (y6 : OkF P w K mg base "_law_part" 1 ["_law_cell_here", "_law_j", "_law_many"] (spD K 3 (z6))) : OkF P w K mg base "_law_row" 4 ["_law_cell_here", "_law_base", "_law_many"] (spD K 3 q59) :=
  mk_ok D z35 rfl fun f cdv A outer s H E hr => (ds_cons (ds_set q33 z132 z35.nd (DL.toO (DO.toL (do_callF z56 q22 (hr.mono (by decide)) (da_cons (dl_var (pvD 1 y52)) (da_cons (DO.toL (do_callF q23 y6 (hr.mono (by decide)) (da_cons (dl_var (pvD 0 q28)) (da_cons dl_int (da_cons dl_int da_nil))))) da_nil))))))
      (ds_cons (ds_set q26 q130 z35.nd (DL.toO (DO.toL (do_callF y56 z68 (hr.mono (by decide)) (da_cons (dl_var (pvD 0 q28)) (da_cons dl_int (da_cons (dl_var (pvD 1 y52)) da_nil)))))))
      (ds_cons (ds_set q72 q134 z35.nd (DL.toO (DO.toL (do_callF y56 z68 (hr.mono (by decide)) (da_cons (dl_var (pvD 0 q28)) (da_cons dl_int (da_cons (dl_var (pvD 1 y52)) da_nil)))))))
      (ds_cons (ds_set z42 y132 z35.nd (DL.toO (DO.toL (do_callF z56 q22 (hr.mono (by decide)) (da_cons (dl_var (pvD 1 y52)) (da_cons (DO.toL (do_bin op_addD r_add (DL.toB dl_int) (DO.toB (do_callF q23 y6 (hr.mono (by decide)) (da_cons (dl_var (pvD 0 q28)) (da_cons dl_int (da_cons dl_int da_nil))))))) da_nil))))))
      (ds_cons (ds_set z16 q129 z35.nd (DL.toO (DO.toL (do_callF q23 y6 (hr.mono (by decide)) (da_cons (dl_var (pvD 0 q28)) (da_cons dl_int (da_cons dl_int da_nil)))))))
      (ds_cons (ds_if (dt_cmp op_lt r_cmp (db_var (pvD 7 z16)) (DL.toB dl_int) (nomark _)) (ds_one (ds_ret (do_tup (da_cons dl_str (da_cons (dl_var (pvD 3 q33)) (da_cons (dl_var (pvD 4 q26)) da_nil)))))) ds_nil)
      (ds_cons (ds_if (dt_cmp (op_eqA hr) r_eq (db_var (pvD 7 z16)) (DL.toB dl_int) (nomark _)) (ds_one (ds_ret (do_tup (da_cons dl_str (da_cons (dl_var (pvD 3 q33)) (da_cons (DO.toL (do_ixA hr (DL.toB dl_str) (DO.toB (do_callF q23 y6 (hr.mono (by decide)) (da_cons (dl_var (pvD 0 q28)) (da_cons dl_int (da_cons dl_int da_nil))))))) (da_cons (dl_var (pvD 4 q26)) (da_cons (dl_var (pvD 5 q72)) da_nil)))))))) ds_nil)
      (ds_cons (ds_if (dt_cmp (op_eqA hr) r_eq (db_var (pvD 7 z16)) (DL.toB dl_int) (nomark _)) (ds_one (ds_ret (do_tup (da_cons dl_str (da_cons (dl_var (pvD 3 q33)) (da_cons (dl_var (pvD 6 z42)) da_nil)))))) ds_nil)
      (ds_cons (ds_if (dt_cmp (op_eqA hr) r_eq (db_var (pvD 7 z16)) (DL.toB dl_int) (nomark _)) (ds_one (ds_ret (do_tup (da_cons dl_str (da_cons (dl_var (pvD 6 z42)) (da_cons (dl_var (pvD 4 q26)) da_nil)))))) ds_nil)
      (ds_cons (ds_if (dt_cmp (op_eqA hr) r_eq (db_var (pvD 7 z16)) (DL.toB dl_int) (nomark _)) (ds_one (ds_ret (do_tup (da_cons dl_str (da_cons (dl_var (pvD 3 q33)) (da_cons (dl_var (pvD 6 z42)) (da_cons (dl_var (pvD 4 q26)) da_nil))))))) ds_nil)
      (ds_cons (ds_if (dt_cmp (op_eqA hr) r_eq (db_var (pvD 7 z16)) (DL.toB dl_int) (nomark _)) (ds_one (ds_ret (do_tup (da_cons dl_str (da_cons (dl_var (pvD 6 z42)) (da_cons (dl_var (pvD 4 q26)) (da_cons (dl_var (pvD 5 q72)) da_nil))))))) ds_nil)
      (ds_cons (ds_if (dt_cmp (op_eqA hr) r_eq (db_var (pvD 7 z16)) (DL.toB dl_int) (nomark _)) (ds_one (ds_ret (do_tup (da_cons dl_str (da_cons (dl_var (pvD 3 q33)) da_nil))))) ds_nil)
      (ds_cons (ds_if (dt_cmp op_lt r_cmp (db_var (pvD 7 z16)) (DL.toB dl_int) (nomark _)) (ds_one (ds_ret (do_tup (da_cons (DO.toL (do_ixA hr (DO.toB (do_lst (da_cons dl_str (da_cons dl_str da_nil)))) (DO.toB (do_bin op_sub r_sub (db_var (pvD 7 z16)) (DL.toB dl_int))))) (da_cons (dl_var (pvD 4 q26)) da_nil))))) ds_nil)
      (ds_cons (ds_set z72 y131 z35.nd (DL.toO (DO.toL (do_callF q23 y6 (hr.mono (by decide)) (da_cons (dl_var (pvD 0 q28)) (da_cons dl_int (da_cons (DO.toL (do_bin op_addD r_add (db_var (pvD 2 z129)) (DL.toB dl_int))) da_nil)))))))
      (ds_one (ds_ret (do_ixA hr (DO.toB (do_lst (da_cons (DO.toL (do_tup (da_cons dl_str (da_cons (dl_var (pvD 4 q26)) (da_cons (dl_var (pvD 8 z72)) da_nil))))) (da_cons (DO.toL (do_tup (da_cons dl_str (da_cons (dl_var (pvD 8 z72)) da_nil)))) da_nil)))) (DO.toB (do_bin op_sub r_sub (db_var (pvD 7 z16)) (DL.toB dl_int))))))))))))))))))))
noncomputable abbrev y3 : Stmt := top 47
theorem z10 : FnScope ["_law_script", "_law_at", "_law_cell_here", "_law_base", "_law_many", "_law_sizes", "_law_cells", "_law_k", "_law_other", "_law_start", "_law_shelves", "_law_rows"] ["_law_script", "_law_at"] (defScope y3) := ⟨rfl, rfl, rfl, by decide +kernel, rfl, by decide +kernel, by decide +kernel⟩
theorem z36 : nmOk (defScope y3) ["_law_script", "_law_at", "_law_cell_here", "_law_base", "_law_many", "_law_sizes", "_law_cells", "_law_k", "_law_other", "_law_start", "_law_shelves", "_law_rows"] 0 "_law_script" = true := by decide +kernel
theorem y36 : nmOk (defScope y3) ["_law_script", "_law_at", "_law_cell_here", "_law_base", "_law_many", "_law_sizes", "_law_cells", "_law_k", "_law_other", "_law_start", "_law_shelves", "_law_rows"] 1 "_law_at" = true := by decide +kernel
theorem z19 : nmOk (defScope y3) ["_law_script", "_law_at", "_law_cell_here", "_law_base", "_law_many", "_law_sizes", "_law_cells", "_law_k", "_law_other", "_law_start", "_law_shelves", "_law_rows"] 2 "_law_cell_here" = true := by decide +kernel
theorem y108 : lcOk (defScope y3) "_law_cell_here" = true := by decide +kernel
theorem z50 : nmOk (defScope y3) ["_law_script", "_law_at", "_law_cell_here", "_law_base", "_law_many", "_law_sizes", "_law_cells", "_law_k", "_law_other", "_law_start", "_law_shelves", "_law_rows"] 3 "_law_base" = true := by decide +kernel
theorem q111 : lcOk (defScope y3) "_law_base" = true := by decide +kernel
theorem y48 : nmOk (defScope y3) ["_law_script", "_law_at", "_law_cell_here", "_law_base", "_law_many", "_law_sizes", "_law_cells", "_law_k", "_law_other", "_law_start", "_law_shelves", "_law_rows"] 4 "_law_many" = true := by decide +kernel
theorem z74 : lcOk (defScope y3) "_law_many" = true := by decide +kernel
theorem z37 : nmOk (defScope y3) ["_law_script", "_law_at", "_law_cell_here", "_law_base", "_law_many", "_law_sizes", "_law_cells", "_law_k", "_law_other", "_law_start", "_law_shelves", "_law_rows"] 5 "_law_sizes" = true := by decide +kernel
theorem q75 : lcOk (defScope y3) "_law_sizes" = true := by decide +kernel
theorem z49 : nmOk (defScope y3) ["_law_script", "_law_at", "_law_cell_here", "_law_base", "_law_many", "_law_sizes", "_law_cells", "_law_k", "_law_other", "_law_start", "_law_shelves", "_law_rows"] 6 "_law_cells" = true := by decide +kernel
theorem y109 : lcOk (defScope y3) "_law_cells" = true := by decide +kernel
theorem y25 : nmOk (defScope y3) ["_law_script", "_law_at", "_law_cell_here", "_law_base", "_law_many", "_law_sizes", "_law_cells", "_law_k", "_law_other", "_law_start", "_law_shelves", "_law_rows"] 7 "_law_k" = true := by decide +kernel
theorem y73 : lcOk (defScope y3) "_law_k" = true := by decide +kernel
theorem z17 : nmOk (defScope y3) ["_law_script", "_law_at", "_law_cell_here", "_law_base", "_law_many", "_law_sizes", "_law_cells", "_law_k", "_law_other", "_law_start", "_law_shelves", "_law_rows"] 8 "_law_other" = true := by decide +kernel
theorem q74 : lcOk (defScope y3) "_law_other" = true := by decide +kernel
theorem z73 : nmOk (defScope y3) ["_law_script", "_law_at", "_law_cell_here", "_law_base", "_law_many", "_law_sizes", "_law_cells", "_law_k", "_law_other", "_law_start", "_law_shelves", "_law_rows"] 9 "_law_start" = true := by decide +kernel
theorem q108 : lcOk (defScope y3) "_law_start" = true := by decide +kernel
theorem q44 : nmOk (defScope y3) ["_law_script", "_law_at", "_law_cell_here", "_law_base", "_law_many", "_law_sizes", "_law_cells", "_law_k", "_law_other", "_law_start", "_law_shelves", "_law_rows"] 10 "_law_shelves" = true := by decide +kernel
theorem q103 : lcOk (defScope y3) "_law_shelves" = true := by decide +kernel
theorem z69 : nmOk (defScope y3) ["_law_script", "_law_at", "_law_cell_here", "_law_base", "_law_many", "_law_sizes", "_law_cells", "_law_k", "_law_other", "_law_start", "_law_shelves", "_law_rows"] 11 "_law_rows" = true := by decide +kernel
theorem y100 : lcOk (defScope y3) "_law_rows" = true := by decide +kernel
theorem y23 : glOk (defScope y3) "_law_cell" = true := by decide +kernel
theorem z8 : glOk (defScope y3) "_law_part" = true := by decide +kernel
theorem y38 : glOk (defScope y3) "range" = true := by decide +kernel
theorem z43 : glOk (defScope y3) "_law_name" = true := by decide +kernel
theorem y39 : glOk (defScope y3) "tuple" = true := by decide +kernel
theorem q118 (T : Txt P w K mg) (D : DefF K mg "_law_program" y3 ["_law_script", "_law_at"]) (y35 : OkF P w K mg base "_law_cell" 1 ["_law_script", "_law_k"] (spD K 2 (z26))) (q22 : OkF P w K mg base "_law_name" 2 ["_law_base", "_law_k"] (spD K 2 (z21))) (y6 : OkF P w K mg base "_law_part" 1 ["_law_cell_here", "_law_j", "_law_many"] (spD K 3 (z6))) (y92 : OkF P w K mg base "_law_row" 4 ["_law_cell_here", "_law_base", "_law_many"] (spD K 3 (q59))) : OkF P w K mg base "_law_program" 5 ["_law_script", "_law_at"] (spD K 2 q30) :=
  mk_ok D z10 rfl fun f cdv A outer s H E hr => (ds_cons (ds_set z19 y108 z10.nd (DL.toO (DO.toL (do_callF y23 y35 (hr.mono (by decide)) (da_cons (dl_var (pvD 0 z36)) (da_cons (dl_var (pvD 1 y36)) da_nil))))))
      (ds_cons (ds_set z50 q111 z10.nd (DL.toO (DO.toL (do_callF y23 y35 (hr.mono (by decide)) (da_cons (dl_var (pvD 0 z36)) (da_cons (DO.toL (do_bin op_addD r_add (db_var (pvD 1 y36)) (DL.toB dl_int))) da_nil))))))
      (ds_cons (ds_set y48 z74 z10.nd (DL.toO (DO.toL (do_bin op_addD r_add (DL.toB dl_int) (DO.toB (do_callF z8 y6 (hr.mono (by decide)) (da_cons (dl_var (pvD 2 z19)) (da_cons dl_int (da_cons dl_int da_nil)))))))))
      (ds_cons (ds_set z37 q75 z10.nd (DL.toO (DO.toL (do_lst (da_cons (DO.toL (do_callF z8 y6 (hr.mono (by decide)) (da_cons (dl_var (pvD 2 z19)) (da_cons dl_int (da_cons dl_int da_nil))))) (da_cons (DO.toL (do_callF z8 y6 (hr.mono (by decide)) (da_cons (dl_var (pvD 2 z19)) (da_cons dl_int (da_cons dl_int da_nil))))) da_nil))))))
      (ds_cons (ds_if (dt_cmp (op_eqA hr) r_eq (DO.toB (do_callF z8 y6 (hr.mono (by decide)) (da_cons (dl_var (pvD 2 z19)) (da_cons dl_int (da_cons dl_int da_nil))))) (DL.toB dl_int) (nomark _)) (ds_one (ds_set z37 q75 z10.nd (DL.toO (DO.toL (do_lst (da_cons dl_int (da_cons dl_int da_nil))))))) ds_nil)
      (ds_cons (ds_if (dt_cmp (op_eqA hr) r_eq (DO.toB (do_callF z8 y6 (hr.mono (by decide)) (da_cons (dl_var (pvD 2 z19)) (da_cons dl_int (da_cons dl_int da_nil))))) (DL.toB dl_int) (nomark _)) (ds_one (ds_set y48 z74 z10.nd (DL.toO (DO.toL (do_bin op_addD r_add (DL.toB dl_int) (DO.toB (do_callF z8 y6 (hr.mono (by decide)) (da_cons (dl_var (pvD 2 z19)) (da_cons dl_int (da_cons dl_int da_nil)))))))))) ds_nil)
      (ds_cons (ds_set z49 y109 z10.nd (do_lst da_nil))
      (ds_cons (ds_for PassesOwn.never rfl (di_range1 y38 T.n_range (da_cons (DO.toL (do_ixA hr (db_var (pvD 5 z37)) (DL.toB dl_int))) da_nil)) (dg_name (pg_nameD y25 y73 z10.nd)) (ds_cons (ds_set z17 q74 z10.nd (DL.toO (DO.toL (do_callF y23 y35 (hr.mono (by decide)) (da_cons (dl_var (pvD 0 z36)) (da_cons (DO.toL (do_bin op_addD r_add (DO.toB (do_bin op_addD r_add (db_var (pvD 1 y36)) (DL.toB dl_int))) (db_var (pvD 7 y25)))) da_nil))))))
      (ds_cons (ds_set z73 q108 z10.nd (DL.toO (DO.toL (do_ixA hr (DO.toB (do_lst (da_cons (DO.toL (do_callF z8 y6 (hr.mono (by decide)) (da_cons (dl_var (pvD 8 z17)) (da_cons dl_int (da_cons dl_int da_nil))))) (da_cons (DO.toL (do_bin op_mod r_mod (DO.toB (do_bin op_mul r_mul (db_var (pvD 8 z17)) (DL.toB dl_int))) (DO.toB (do_bin op_pow r_pow (DL.toB dl_int) (DL.toB dl_int))))) da_nil)))) (DO.toB (do_callF z8 y6 (hr.mono (by decide)) (da_cons (dl_var (pvD 8 z17)) (da_cons dl_int (da_cons dl_int da_nil)))))))))
      (ds_one (ds_append (pvD 6 z49) (DO.toL (do_tup (da_cons (DO.toL (do_callF z43 q22 (hr.mono (by decide)) (da_cons (dl_var (pvD 3 z50)) (da_cons (DO.toL (do_bin op_addD r_add (DL.toB dl_int) (db_var (pvD 7 y25)))) da_nil)))) (da_cons (dl_var (pvD 9 z73)) (da_cons (DO.toL (do_cmp (op_eqA hr) r_eq (DO.toB (do_callF z8 y6 (hr.mono (by decide)) (da_cons (dl_var (pvD 8 z17)) (da_cons dl_int (da_cons dl_int da_nil))))) (DL.toB dl_int) (nomark _))) da_nil))))))))))
      (ds_cons (ds_set q44 q103 z10.nd (do_lst da_nil))
      (ds_cons (ds_for PassesOwn.never rfl (di_range1 y38 T.n_range (da_cons (DO.toL (do_ixA hr (db_var (pvD 5 z37)) (DL.toB dl_int))) da_nil)) (dg_name (pg_nameD y25 y73 z10.nd)) (ds_cons (ds_set z17 q74 z10.nd (DL.toO (DO.toL (do_callF y23 y35 (hr.mono (by decide)) (da_cons (dl_var (pvD 0 z36)) (da_cons (DO.toL (do_bin op_addD r_add (DO.toB (do_bin op_addD r_add (db_var (pvD 1 y36)) (DL.toB dl_int))) (db_var (pvD 7 y25)))) da_nil))))))
      (ds_one (ds_append (pvD 10 q44) (DO.toL (do_tup (da_cons (DO.toL (do_callF z43 q22 (hr.mono (by decide)) (da_cons (dl_var (pvD 3 z50)) (da_cons (DO.toL (do_bin op_addD r_add (DL.toB dl_int) (db_var (pvD 7 y25)))) da_nil)))) (da_cons (DO.toL (do_bin op_addD r_add (DL.toB dl_int) (DO.toB (do_callF z8 y6 (hr.mono (by decide)) (da_cons (dl_var (pvD 8 z17)) (da_cons dl_int (da_cons dl_int da_nil))))))) (da_cons (DO.toL (do_cmp (op_eqA hr) r_eq (DO.toB (do_callF z8 y6 (hr.mono (by decide)) (da_cons (dl_var (pvD 8 z17)) (da_cons dl_int (da_cons dl_int da_nil))))) (DL.toB dl_int) (nomark _))) da_nil)))))))))
      (ds_cons (ds_setCf z69 y100 z10.nd (M := ["_law_k", "_law_script", "_law_at", "_law_base", "_law_many"]) (src := [none, some 0, some 1, some 3, some 4]) (ts := [0]) (CmpScope.of (N := ["_law_script", "_law_at", "_law_cell_here", "_law_base", "_law_many", "_law_sizes", "_law_cells", "_law_k", "_law_other", "_law_start", "_law_shelves", "_law_rows"]) (outer := defScope y3) (by decide +kernel)) rfl (DIF.toB (di_range1 y38 T.n_range (da_cons (dl_var (pvD 4 y48)) da_nil))) (fun nd _ _ _ _ => (dg_name (pg_nameC (N := ["_law_k", "_law_script", "_law_at", "_law_base", "_law_many"]) (i := 0) (by decide +kernel) (by decide +kernel) nd (scC (outer := defScope y3) (by exact rfl))))) (fun _ _ _ _ => dts_nil) (fun _ _ _ _ => (DO.toL (do_callF (by decide +kernel) y92 (hr.mono (by decide)) (da_cons (DO.toL (do_callF (by decide +kernel) y35 (hr.mono (by decide)) (da_cons (dl_var (pvD (N := ["_law_k", "_law_script", "_law_at", "_law_base", "_law_many"]) 1 (by decide +kernel) (scC (outer := defScope y3) rfl))) (da_cons (DO.toL (do_bin op_addD r_add (DO.toB (do_bin op_addD r_add (db_var (pvD (N := ["_law_k", "_law_script", "_law_at", "_law_base", "_law_many"]) 2 (by decide +kernel) (scC (outer := defScope y3) rfl))) (DL.toB dl_int))) (db_var (pvD (N := ["_law_k", "_law_script", "_law_at", "_law_base", "_law_many"]) 0 (by decide +kernel) (scC (outer := defScope y3) rfl))))) da_nil)) (e1 := (scC (outer := defScope y3) rfl)))) (da_cons (dl_var (pvD (N := ["_law_k", "_law_script", "_law_at", "_law_base", "_law_many"]) 3 (by decide +kernel) (scC (outer := defScope y3) rfl))) (da_cons (dl_var (pvD (N := ["_law_k", "_law_script", "_law_at", "_law_base", "_law_many"]) 4 (by decide +kernel) (scC (outer := defScope y3) rfl))) da_nil))) (e1 := (scC (outer := defScope y3) rfl))))) (by decide +kernel))
      (ds_one (ds_ret (do_tup (da_cons (DO.toL (do_callT y39 call_tuple_of c_tuple T.n_tuple bt_tuple (dab_cons (db_var (pvD 6 z49)) dab_nil))) (da_cons (DO.toL (do_callT y39 call_tuple_of c_tuple T.n_tuple bt_tuple (dab_cons (db_var (pvD 10 q44)) dab_nil))) (da_cons (DO.toL (do_callT y39 call_tuple_of c_tuple T.n_tuple bt_tuple (dab_cons (db_var (pvD 11 z69)) dab_nil))) da_nil)))))))))))))))))
noncomputable abbrev y8 : Stmt := top 49
theorem y94 : FnScope ["_law_found", "_law_due"] ["_law_found", "_law_due"] (defScope y8) := ⟨rfl, rfl, rfl, by decide +kernel, rfl, by decide +kernel, by decide +kernel⟩
theorem y17 : nmOk (defScope y8) ["_law_found", "_law_due"] 0 "_law_found" = true := by decide +kernel
theorem y19 : nmOk (defScope y8) ["_law_found", "_law_due"] 1 "_law_due" = true := by decide +kernel
theorem y10 : glOk (defScope y8) "isinstance" = true := by decide +kernel
theorem z63 : glOk (defScope y8) "tuple" = true := by decide +kernel
theorem y50 : glOk (defScope y8) "len" = true := by decide +kernel
theorem z98 : glOk (defScope y8) "range" = true := by decide +kernel
theorem z106 : glOk (defScope y8) "all" = true := by decide +kernel
theorem z44 : glOk (defScope y8) "bool" = true := by decide +kernel
theorem q73 : glOk (defScope y8) "int" = true := by decide +kernel
theorem q110 : glOk (defScope y8) "str" = true := by decide +kernel
theorem y93 (T : Txt P w K mg) (D : DefF K mg "_law_alike" y8 ["_law_found", "_law_due"]) : ∀ n : Nat, OkF P w K mg base "_law_alike" (1 + n) ["_law_found", "_law_due"] (spD K 2 (y14 n))
  | 0 => mk_ok (k := 0) D y94 rfl fun f cdv A outer s H E hr => ds_no
  | n + 1 => by
    have q45 := y93 T D  n
    exact (show OkF P w K mg base "_law_alike" (1 + n + 1) ["_law_found", "_law_due"] (spD K 2 (y21 (y14 n))) from mk_ok D y94 rfl fun f cdv A outer s H E hr => (ds_cons (ds_if (dt_truth (DO.toB (do_isinst y10 z63 T.n_isinstance T.n_tuple bt_tuple T.k_tuple (db_var (pvD 1 y19)))) (fun _ => rfl)) (ds_cons (ds_if (DW.t (dw_or (dt_not (dt_truth (DO.toB (do_isinst y10 z63 T.n_isinstance T.n_tuple bt_tuple T.k_tuple (db_var (pvD 0 y17)))) (fun _ => rfl))) (dw_or1 (dt_cmp (op_neA hr) r_ne (DO.toB (do_callB y50 call_len c_len T.n_len bt_len (dab_cons (db_var (pvD 0 y17)) dab_nil))) (DO.toB (do_callB y50 call_len c_len T.n_len bt_len (dab_cons (db_var (pvD 1 y19)) dab_nil))) (nomark _))))) (ds_one (ds_ret (DL.toO dl_bl))) ds_nil)
      (ds_one (ds_ret (do_callB z106 (call_all rfl) (c_all (f := fun bs => bs.all id)) T.n_all bt_all (dab_cons (DO.toB (do_comp (M := ["_law_k", "_law_found", "_law_due"]) (src := [none, some 0, some 1]) (ts := [0]) (CmpScope.of (N := ["_law_found", "_law_due"]) (outer := defScope y8) (by decide +kernel)) rfl (DIF.toB (di_range1 z98 T.n_range (da_cons (DO.toL (do_callB y50 call_len c_len T.n_len bt_len (dab_cons (db_var (pvD 1 y19)) dab_nil))) da_nil))) (fun nd _ _ _ _ => (dg_name (pg_nameC (N := ["_law_k", "_law_found", "_law_due"]) (i := 0) (by decide +kernel) (by decide +kernel) nd (scC (outer := defScope y8) (by exact rfl))))) (fun _ _ _ _ => dts_nil) (fun _ _ _ _ => (DO.toL (do_callF (by decide +kernel) q45 (hr.mono (by omega)) (da_cons (DO.toL (do_ixA hr (db_var (pvD (N := ["_law_k", "_law_found", "_law_due"]) 1 (by decide +kernel) (scC (outer := defScope y8) rfl))) (db_var (pvD (N := ["_law_k", "_law_found", "_law_due"]) 0 (by decide +kernel) (scC (outer := defScope y8) rfl))))) (da_cons (DO.toL (do_ixA hr (db_var (pvD (N := ["_law_k", "_law_found", "_law_due"]) 2 (by decide +kernel) (scC (outer := defScope y8) rfl))) (db_var (pvD (N := ["_law_k", "_law_found", "_law_due"]) 0 (by decide +kernel) (scC (outer := defScope y8) rfl))))) da_nil)) (e1 := (scC (outer := defScope y8) rfl))))) (by decide +kernel))) dab_nil))))) ds_nil)
      (ds_cons (ds_if (dt_truth (DO.toB (do_isinst y10 z44 T.n_isinstance T.n_bool bt_bool T.k_bool (db_var (pvD 1 y19)))) (fun _ => rfl)) (ds_one (ds_ret (do_and (DO.toB (do_isinst y10 z44 T.n_isinstance T.n_bool bt_bool T.k_bool (db_var (pvD 0 y17)))) (do_one (do_cmp (op_eqA hr) r_eq (db_var (pvD 0 y17)) (db_var (pvD 1 y19)) (nomark _)))))) ds_nil)
      (ds_cons (ds_if (dt_truth (DO.toB (do_isinst y10 q73 T.n_isinstance T.n_int bt_int T.k_int (db_var (pvD 1 y19)))) (fun _ => rfl)) (ds_one (ds_ret (do_and (DO.toB (do_isinst y10 q73 T.n_isinstance T.n_int bt_int T.k_int (db_var (pvD 0 y17)))) (do_and (DO.toB (do_not (DO.toB (do_isinst y10 z44 T.n_isinstance T.n_bool bt_bool T.k_bool (db_var (pvD 0 y17)))))) (do_one (do_cmp (op_eqA hr) r_eq (db_var (pvD 0 y17)) (db_var (pvD 1 y19)) (nomark _))))))) ds_nil)
      (ds_one (ds_ret (do_and (DO.toB (do_isinst y10 q110 T.n_isinstance T.n_str bt_str T.k_str (db_var (pvD 0 y17)))) (do_one (do_cmp (op_eqA hr) r_eq (db_var (pvD 0 y17)) (db_var (pvD 1 y19)) (nomark _))))))))))
noncomputable abbrev q15 : Stmt := top 46
theorem z62 : FnScope ["_law_row_here", "_law_words"] ["_law_row_here"] (defScope q15) := ⟨rfl, rfl, rfl, by decide +kernel, rfl, by decide +kernel, by decide +kernel⟩
theorem y13 : nmOk (defScope q15) ["_law_row_here", "_law_words"] 0 "_law_row_here" = true := by decide +kernel
theorem y29 : nmOk (defScope q15) ["_law_row_here", "_law_words"] 1 "_law_words" = true := by decide +kernel
theorem y66 : lcOk (defScope q15) "_law_words" = true := by decide +kernel
theorem y55 : glOk (defScope q15) "str" = true := by decide +kernel
theorem q140 (T : Txt P w K mg) (D : DefF K mg "_law_line" q15 ["_law_row_here"]) : OkF P w K mg base "_law_line" 1 ["_law_row_here"] (spD K 1 q52) :=
  mk_ok D z62 rfl fun f cdv A outer s H E hr => (ds_cons (ds_setC y29 y66 z62.nd (M := ["_law_part_here"]) (src := [none]) (ts := [0]) (CmpScope.of (N := ["_law_row_here", "_law_words"]) (outer := defScope q15) (by decide +kernel)) rfl (dib_seq (db_var (pvD 0 y13))) (fun nd _ _ _ _ => (dg_name (pg_nameC (N := ["_law_part_here"]) (i := 0) (by decide +kernel) (by decide +kernel) nd (scC (outer := defScope q15) (by exact rfl))))) (fun _ _ _ _ => dts_nil) (fun _ _ _ _ => (DO.toL (do_callT (by decide +kernel) call_strA c_strA T.n_str bt_str (dab_cons (db_var (pvD (N := ["_law_part_here"]) 0 (by decide +kernel) (scC (outer := defScope q15) rfl))) dab_nil) (e1 := (scC (outer := defScope q15) rfl))))) (by decide +kernel))
      (ds_cons (ds_if (dt_cmp (op_eqA hr) r_eq (DO.toB (do_ixA hr (db_var (pvD 0 y13)) (DL.toB dl_int))) (DL.toB dl_str) (nomark _)) (ds_one (ds_set y29 y66 z62.nd (do_lst (da_cons (DO.toL (do_ixA hr (db_var (pvD 0 y13)) (DL.toB dl_int))) (da_cons dl_str (da_cons (DO.toL (do_callT y55 call_strA c_strA T.n_str bt_str (dab_cons (DO.toB (do_ixA hr (db_var (pvD 0 y13)) (DL.toB dl_int))) dab_nil))) da_nil)))))) ds_nil)
      (ds_cons (ds_if (dt_cmp (op_eqA hr) r_eq (DO.toB (do_ixA hr (db_var (pvD 0 y13)) (DL.toB dl_int))) (DL.toB dl_str) (nomark _)) (ds_one (ds_set y29 y66 z62.nd (do_lst (da_cons (DO.toL (do_ixA hr (db_var (pvD 0 y13)) (DL.toB dl_int))) (da_cons dl_str (da_cons (DO.toL (do_callT y55 call_strA c_strA T.n_str bt_str (dab_cons (DO.toB (do_ixA hr (db_var (pvD 0 y13)) (DL.toB dl_int))) dab_nil))) (da_cons (DO.toL (do_ixA hr (db_var (pvD 0 y13)) (DL.toB dl_int))) (da_cons (DO.toL (do_callT y55 call_strA c_strA T.n_str bt_str (dab_cons (DO.toB (do_ixA hr (db_var (pvD 0 y13)) (DL.toB dl_int))) dab_nil))) da_nil)))))))) ds_nil)
      (ds_cons (ds_if (DW.t (dw_or (dt_cmp (op_eqA hr) r_eq (DO.toB (do_ixA hr (db_var (pvD 0 y13)) (DL.toB dl_int))) (DL.toB dl_str) (nomark _)) (dw_or1 (dt_cmp (op_eqA hr) r_eq (DO.toB (do_ixA hr (db_var (pvD 0 y13)) (DL.toB dl_int))) (DL.toB dl_str) (nomark _))))) (ds_one (ds_put hr (pvD 1 y29) (DO.toB (do_neg (DL.toB dl_int))) (DO.toL (do_bin op_addD r_add (DL.toB dl_str) (DO.toB (do_ixA hr (db_var (pvD 1 y29)) (DO.toB (do_neg (DL.toB dl_int))))))))) ds_nil)
      (ds_one (ds_ret (do_join (DL.toB dl_str) (dab_cons (db_var (pvD 1 y29)) dab_nil))))))))
noncomputable abbrev y4 : Stmt := top 48
theorem q32 : FnScope ["_law_program_here", "_law_lines", "_law_name_here", "_law_size", "_law_twin", "_law_goals", "_law_k"] ["_law_program_here"] (defScope y4) := ⟨rfl, rfl, rfl, by decide +kernel, rfl, by decide +kernel, by decide +kernel⟩
theorem z30 : nmOk (defScope y4) ["_law_program_here", "_law_lines", "_law_name_here", "_law_size", "_law_twin", "_law_goals", "_law_k"] 0 "_law_program_here" = true := by decide +kernel
theorem q39 : nmOk (defScope y4) ["_law_program_here", "_law_lines", "_law_name_here", "_law_size", "_law_twin", "_law_goals", "_law_k"] 1 "_law_lines" = true := by decide +kernel
theorem z121 : lcOk (defScope y4) "_law_lines" = true := by decide +kernel
theorem q90 : nmOk (defScope y4) ["_law_program_here", "_law_lines", "_law_name_here", "_law_size", "_law_twin", "_law_goals", "_law_k"] 2 "_law_name_here" = true := by decide +kernel
theorem q121 : lcOk (defScope y4) "_law_name_here" = true := by decide +kernel
theorem z88 : nmOk (defScope y4) ["_law_program_here", "_law_lines", "_law_name_here", "_law_size", "_law_twin", "_law_goals", "_law_k"] 3 "_law_size" = true := by decide +kernel
theorem y126 : lcOk (defScope y4) "_law_size" = true := by decide +kernel
theorem q87 : nmOk (defScope y4) ["_law_program_here", "_law_lines", "_law_name_here", "_law_size", "_law_twin", "_law_goals", "_law_k"] 4 "_law_twin" = true := by decide +kernel
theorem q126 : lcOk (defScope y4) "_law_twin" = true := by decide +kernel
theorem y88 : nmOk (defScope y4) ["_law_program_here", "_law_lines", "_law_name_here", "_law_size", "_law_twin", "_law_goals", "_law_k"] 5 "_law_goals" = true := by decide +kernel
theorem y121 : lcOk (defScope y4) "_law_goals" = true := by decide +kernel
theorem y37 : nmOk (defScope y4) ["_law_program_here", "_law_lines", "_law_name_here", "_law_size", "_law_twin", "_law_goals", "_law_k"] 6 "_law_k" = true := by decide +kernel
theorem q127 : lcOk (defScope y4) "_law_k" = true := by decide +kernel
theorem y114 : glOk (defScope y4) "int" = true := by decide +kernel
theorem y77 : glOk (defScope y4) "str" = true := by decide +kernel
theorem z78 : glOk (defScope y4) "len" = true := by decide +kernel
theorem y104 : glOk (defScope y4) "range" = true := by decide +kernel
theorem z84 : glOk (defScope y4) "_law_line" = true := by decide +kernel
theorem z138 (T : Txt P w K mg) (D : DefF K mg "_law_text" y4 ["_law_program_here"]) (y84 : OkF P w K mg base "_law_line" 1 ["_law_row_here"] (spD K 1 (q52))) : OkF P w K mg base "_law_text" 2 ["_law_program_here"] (spD K 1 z52) :=
  mk_ok D q32 rfl fun f cdv A outer s H E hr => (ds_cons (ds_setC q39 z121 q32.nd (M := ["_law_name_here", "_law_start", "_law_twin"]) (src := [none, none, none]) (ts := [0, 1, 2]) (CmpScope.of (N := ["_law_program_here", "_law_lines", "_law_name_here", "_law_size", "_law_twin", "_law_goals", "_law_k"]) (outer := defScope y4) (by decide +kernel)) rfl (dib_seq (DO.toB (do_ixA hr (db_var (pvD 0 z30)) (DL.toB dl_int)))) (fun nd _ _ _ _ => (dg_tup rfl (dgs_cons (dg_name (pg_nameC (N := ["_law_name_here", "_law_start", "_law_twin"]) (i := 0) (by decide +kernel) (by decide +kernel) nd (scC (outer := defScope y4) (by exact rfl)))) (dgs_cons (dg_name (pg_nameC (N := ["_law_name_here", "_law_start", "_law_twin"]) (i := 1) (by decide +kernel) (by decide +kernel) nd (scC (outer := defScope y4) (by exact rfl)))) (dgs_cons (dg_name (pg_nameC (N := ["_law_name_here", "_law_start", "_law_twin"]) (i := 2) (by decide +kernel) (by decide +kernel) nd (scC (outer := defScope y4) (by exact rfl)))) dgs_nil))))) (fun _ _ _ _ => dts_nil) (fun _ _ _ _ => (DO.toL (do_bin op_addD r_add (DO.toB (do_bin op_addD r_add (DO.toB (do_bin op_addD r_add (DO.toB (do_bin op_addD r_add (DO.toB (do_ixA hr (DO.toB (do_lst (da_cons dl_str (da_cons dl_str da_nil)))) (DO.toB (do_callT (by decide +kernel) call_intA c_int T.n_int bt_int (dab_cons (db_var (pvD (N := ["_law_name_here", "_law_start", "_law_twin"]) 2 (by decide +kernel) (scC (outer := defScope y4) rfl))) dab_nil) (e1 := (scC (outer := defScope y4) rfl)))))) (DL.toB dl_str))) (db_var (pvD (N := ["_law_name_here", "_law_start", "_law_twin"]) 0 (by decide +kernel) (scC (outer := defScope y4) rfl))))) (DL.toB dl_str))) (DO.toB (do_callT (by decide +kernel) call_strA c_strA T.n_str bt_str (dab_cons (db_var (pvD (N := ["_law_name_here", "_law_start", "_law_twin"]) 1 (by decide +kernel) (scC (outer := defScope y4) rfl))) dab_nil) (e1 := (scC (outer := defScope y4) rfl))))))) (by decide +kernel))
      (ds_cons (ds_for PassesOwn.never rfl (di_seq (DO.toL (do_ixA hr (db_var (pvD 0 z30)) (DL.toB dl_int)))) (dg_tup rfl (dgs_cons (dg_name (pg_nameD q90 q121 q32.nd)) (dgs_cons (dg_name (pg_nameD z88 y126 q32.nd)) (dgs_cons (dg_name (pg_nameD q87 q126 q32.nd)) dgs_nil)))) (ds_one (ds_append (pvD 1 q39) (DO.toL (do_bin op_addD r_add (DO.toB (do_bin op_addD r_add (DO.toB (do_bin op_addD r_add (DO.toB (do_bin op_addD r_add (DO.toB (do_ixA hr (DO.toB (do_lst (da_cons dl_str (da_cons dl_str da_nil)))) (DO.toB (do_callT y114 call_intA c_int T.n_int bt_int (dab_cons (db_var (pvD 4 q87)) dab_nil))))) (DL.toB dl_str))) (db_var (pvD 2 q90)))) (DL.toB dl_str))) (DO.toB (do_callT y77 call_strA c_strA T.n_str bt_str (dab_cons (db_var (pvD 3 z88)) dab_nil))))))))
      (ds_cons (ds_setCf y88 y121 q32.nd (M := ["_law_row_here"]) (src := [none]) (ts := [0]) (CmpScope.of (N := ["_law_program_here", "_law_lines", "_law_name_here", "_law_size", "_law_twin", "_law_goals", "_law_k"]) (outer := defScope y4) (by decide +kernel)) rfl (dib_seq (DO.toB (do_ixA hr (db_var (pvD 0 z30)) (DL.toB dl_int)))) (fun nd _ _ _ _ => (dg_name (pg_nameC (N := ["_law_row_here"]) (i := 0) (by decide +kernel) (by decide +kernel) nd (scC (outer := defScope y4) (by exact rfl))))) (fun _ _ _ _ => dts_one (DW.t (dw_or (dt_cmp (op_eqA hr) r_eq (DO.toB (do_ixA hr (db_var (pvD (N := ["_law_row_here"]) 0 (by decide +kernel) (scC (outer := defScope y4) rfl))) (DL.toB dl_int))) (DL.toB dl_str) (nomark _)) (dw_or1 (dt_cmp (op_eqA hr) r_eq (DO.toB (do_ixA hr (db_var (pvD (N := ["_law_row_here"]) 0 (by decide +kernel) (scC (outer := defScope y4) rfl))) (DL.toB dl_int))) (DL.toB dl_str) (nomark _)))))) (fun _ _ _ _ => (DO.toL (do_ixA hr (db_var (pvD (N := ["_law_row_here"]) 0 (by decide +kernel) (scC (outer := defScope y4) rfl))) (DO.toB (do_neg (DL.toB dl_int)))))) (by decide +kernel))
      (ds_cons (ds_for PassesOwn.never rfl (di_range1 y104 T.n_range (da_cons (DO.toL (do_bin op_addD r_add (DO.toB (do_callB z78 call_len c_len T.n_len bt_len (dab_cons (DO.toB (do_ixA hr (db_var (pvD 0 z30)) (DL.toB dl_int))) dab_nil))) (DL.toB dl_int))) da_nil)) (dg_name (pg_nameD y37 q127 q32.nd)) (ds_cons (ds_if (dt_in hr (db_var (pvD 6 y37)) (db_var (pvD 5 y88))) (ds_one (ds_append (pvD 1 q39) (DO.toL (do_bin op_addD r_add (DL.toB dl_str) (DO.toB (do_callT y77 call_strA c_strA T.n_str bt_str (dab_cons (db_var (pvD 6 y37)) dab_nil))))))) ds_nil)
      (ds_one (ds_if (dt_cmp op_lt r_cmp (db_var (pvD 6 y37)) (DO.toB (do_callB z78 call_len c_len T.n_len bt_len (dab_cons (DO.toB (do_ixA hr (db_var (pvD 0 z30)) (DL.toB dl_int))) dab_nil))) (nomark _)) (ds_one (ds_append (pvD 1 q39) (DO.toL (do_callF z84 y84 (hr.mono (by decide)) (da_cons (DO.toL (do_ixA hr (DO.toB (do_ixA hr (db_var (pvD 0 z30)) (DL.toB dl_int))) (db_var (pvD 6 y37)))) da_nil))))) ds_nil))))
      (ds_one (ds_ret (do_join (DL.toB dl_str) (dab_cons (db_var (pvD 1 q39)) dab_nil))))))))
noncomputable abbrev z12 : Stmt := top 34
theorem z134 : FnScope ["lines", "words"] ["lines", "words"] (defScope z12) := ⟨rfl, rfl, rfl, by decide +kernel, rfl, by decide +kernel, by decide +kernel⟩
theorem y118 : nmOk (defScope z12) ["lines", "words"] 0 "lines" = true := by decide +kernel
theorem q96 : glOk (defScope z12) "tuple" = true := by decide +kernel
theorem q135 (T : Txt P w K mg) (D : DefF K mg "heads_read" z12 ["lines", "words"]) : OkF P w K mg base "heads_read" 1 ["lines", "words"] (spD K 2 y26) :=
  mk_ok D z134 rfl fun f cdv A outer s H E hr => (ds_one (ds_ret (do_callT q96 call_tuple_of c_tuple T.n_tuple bt_tuple (dab_cons (DO.toB (do_comp (M := ["line", "words"]) (src := [none, some 1]) (ts := [0]) (CmpScope.of (N := ["lines", "words"]) (outer := defScope z12) (by decide +kernel)) rfl (dib_seq (db_var (pvD 0 y118))) (fun nd _ _ _ _ => (dg_name (pg_nameC (N := ["line", "words"]) (i := 0) (by decide +kernel) (by decide +kernel) nd (scC (outer := defScope z12) (by exact rfl))))) (fun _ _ _ _ => dts_one (dt_in hr (DO.toB (do_ixA hr (db_var (pvD (N := ["line", "words"]) 0 (by decide +kernel) (scC (outer := defScope z12) rfl))) (DL.toB dl_int))) (db_var (pvD (N := ["line", "words"]) 1 (by decide +kernel) (scC (outer := defScope z12) rfl))))) (fun _ _ _ _ => (DO.toL (do_tup (da_cons (DO.toL (do_ixA hr (db_var (pvD (N := ["line", "words"]) 0 (by decide +kernel) (scC (outer := defScope z12) rfl))) (DL.toB dl_int))) (da_cons (DO.toL (do_ixA hr (db_var (pvD (N := ["line", "words"]) 0 (by decide +kernel) (scC (outer := defScope z12) rfl))) (DL.toB dl_int))) (da_cons (DO.toL (do_cmp (op_eqA hr) r_eq (DO.toB (do_ixA hr (db_var (pvD (N := ["line", "words"]) 0 (by decide +kernel) (scC (outer := defScope z12) rfl))) (DL.toB dl_int))) (DO.toB (do_ixA hr (db_var (pvD (N := ["line", "words"]) 1 (by decide +kernel) (scC (outer := defScope z12) rfl))) (DL.toB dl_int))) (nomark _))) da_nil)))))) (by decide +kernel))) dab_nil))))
noncomputable abbrev y11 : Stmt := top 32
theorem y33 : FnScope ["lines", "places", "count", "line"] ["lines"] (defScope y11) := ⟨rfl, rfl, rfl, by decide +kernel, rfl, by decide +kernel, by decide +kernel⟩
theorem z109 : nmOk (defScope y11) ["lines", "places", "count", "line"] 0 "lines" = true := by decide +kernel
theorem q50 : nmOk (defScope y11) ["lines", "places", "count", "line"] 1 "places" = true := by decide +kernel
theorem q107 : lcOk (defScope y11) "places" = true := by decide +kernel
theorem q51 : nmOk (defScope y11) ["lines", "places", "count", "line"] 2 "count" = true := by decide +kernel
theorem y75 : lcOk (defScope y11) "count" = true := by decide +kernel
theorem q37 : nmOk (defScope y11) ["lines", "places", "count", "line"] 3 "line" = true := by decide +kernel
theorem z108 : lcOk (defScope y11) "line" = true := by decide +kernel
theorem z89 : glOk (defScope y11) "HEADS" = true := by decide +kernel
theorem z118 (T : Txt P w K mg) (D : DefF K mg "label_places" y11 ["lines"]) : OkF P w K mg base "label_places" 1 ["lines"] (spD K 1 q40) :=
  mk_ok D y33 rfl fun f cdv A outer s H E hr => (ds_cons (ds_set q50 q107 y33.nd do_dnew)
      (ds_cons (ds_set q51 y75 y33.nd (DL.toO dl_int))
      (ds_cons (ds_for PassesOwn.never rfl (di_seq (dl_var (pvD 0 z109))) (dg_name (pg_nameD q37 z108 y33.nd)) (ds_one (ds_if (dt_cmp (op_eqA hr) r_eq (DO.toB (do_ixA hr (db_var (pvD 3 q37)) (DL.toB dl_int))) (DL.toB dl_str) (nomark _)) (ds_one (ds_put hr (pvD 1 q50) (DO.toB (do_ixA hr (db_var (pvD 3 q37)) (DL.toB dl_int))) (dl_var (pvD 2 q51)))) (ds_one (ds_if (dt_notin hr (DO.toB (do_ixA hr (db_var (pvD 3 q37)) (DL.toB dl_int))) (DL.toB (dl_glob z89 T.g_HEADS))) (ds_one (ds_aug_add q51 y75 y33.nd (DL.toB dl_int))) ds_nil)))))
      (ds_one (ds_retV (pvD 1 q50))))))
noncomputable abbrev z13 : Stmt := top 12
theorem y130 : FnScope ["text", "signs", "most"] ["text", "signs", "most"] (defScope z13) := ⟨rfl, rfl, rfl, by decide +kernel, rfl, by decide +kernel, by decide +kernel⟩
theorem z82 : nmOk (defScope z13) ["text", "signs", "most"] 0 "text" = true := by decide +kernel
theorem y117 : nmOk (defScope z13) ["text", "signs", "most"] 2 "most" = true := by decide +kernel
theorem y111 : glOk (defScope z13) "all" = true := by decide +kernel
theorem z110 : glOk (defScope z13) "len" = true := by decide +kernel
theorem y134 (T : Txt P w K mg) (D : DefF K mg "is_made_of" z13 ["text", "signs", "most"]) : OkF P w K mg base "is_made_of" 1 ["text", "signs", "most"] (spD K 3 z24) :=
  mk_ok D y130 rfl fun f cdv A outer s H E hr => (ds_one (ds_ret (do_and (DO.toB (do_chain op_le r_cmp op_le r_cmp (DL.toB dl_int) (DO.toB (do_callB z110 call_len c_len T.n_len bt_len (dab_cons (db_var (pvD 0 z82)) dab_nil))) (db_var (pvD 2 y117)))) (do_one (do_callB y111 (call_all rfl) (c_all (f := fun bs => bs.all id)) T.n_all bt_all (dab_cons (DO.toB (do_comp (M := ["sign", "signs"]) (src := [none, some 1]) (ts := [0]) (CmpScope.of (N := ["text", "signs", "most"]) (outer := defScope z13) (by decide +kernel)) rfl (dib_seq (db_var (pvD 0 z82))) (fun nd _ _ _ _ => (dg_name (pg_nameC (N := ["sign", "signs"]) (i := 0) (by decide +kernel) (by decide +kernel) nd (scC (outer := defScope z13) (by exact rfl))))) (fun _ _ _ _ => dts_nil) (fun _ _ _ _ => (DO.toL (do_in hr (db_var (pvD (N := ["sign", "signs"]) 0 (by decide +kernel) (scC (outer := defScope z13) rfl))) (db_var (pvD (N := ["sign", "signs"]) 1 (by decide +kernel) (scC (outer := defScope z13) rfl)))))) (by decide +kernel))) dab_nil))))))
noncomputable abbrev z29 : Stmt := top 13
theorem y146 : FnScope ["text"] ["text"] (defScope z29) := ⟨rfl, rfl, rfl, by decide +kernel, rfl, by decide +kernel, by decide +kernel⟩
theorem y141 : nmOk (defScope z29) ["text"] 0 "text" = true := by decide +kernel
theorem z81 : glOk (defScope z29) "MOST_OF_NAME" = true := by decide +kernel
theorem q102 : glOk (defScope z29) "LETTERS" = true := by decide +kernel
theorem y90 : glOk (defScope z29) "is_made_of" = true := by decide +kernel
theorem y145 (T : Txt P w K mg) (D : DefF K mg "is_name" z29 ["text"]) (y24 : OkF P w K mg base "is_made_of" 1 ["text", "signs", "most"] (spD K 3 (z24))) : OkF P w K mg base "is_name" 2 ["text"] (spD K 1 q34) :=
  mk_ok D y146 rfl fun f cdv A outer s H E hr => (ds_one (ds_ret (do_callF y90 y24 (hr.mono (by decide)) (da_cons (dl_var (pvD 0 y141)) (da_cons (dl_glob q102 T.g_LETTERS) (da_cons (dl_glob z81 T.g_MOST_OF_NAME) da_nil))))))
noncomputable abbrev q18 : Stmt := top 15
theorem q113 : FnScope ["word", "number"] ["word"] (defScope q18) := ⟨rfl, rfl, rfl, by decide +kernel, rfl, by decide +kernel, by decide +kernel⟩
theorem q53 : nmOk (defScope q18) ["word", "number"] 0 "word" = true := by decide +kernel
theorem y70 : nmOk (defScope q18) ["word", "number"] 1 "number" = true := by decide +kernel
theorem q136 : lcOk (defScope q18) "number" = true := by decide +kernel
theorem y76 : glOk (defScope q18) "MOST_OF_VALUE" = true := by decide +kernel
theorem y96 : glOk (defScope q18) "FIGURES" = true := by decide +kernel
theorem q85 : glOk (defScope q18) "is_made_of" = true := by decide +kernel
theorem y116 : glOk (defScope q18) "int" = true := by decide +kernel
theorem q116 : glOk (defScope q18) "WIDE" = true := by decide +kernel
theorem y143 (T : Txt P w K mg) (D : DefF K mg "value_of" q18 ["word"]) (y24 : OkF P w K mg base "is_made_of" 1 ["text", "signs", "most"] (spD K 3 (z24))) : OkF P w K mg base "value_of" 2 ["word"] (spD K 1 y28) :=
  mk_ok D q113 rfl fun f cdv A outer s H E hr => (ds_cons (ds_if (dt_not (dt_truth (DO.toB (do_callF q85 y24 (hr.mono (by decide)) (da_cons (dl_var (pvD 0 q53)) (da_cons (dl_glob y96 T.g_FIGURES) (da_cons (dl_glob y76 T.g_MOST_OF_VALUE) da_nil))))) (fun _ => rfl))) (ds_one (ds_ret (DL.toO dl_non))) ds_nil)
      (ds_cons (ds_if (DW.t (dw_and (dt_truth (DO.toB (do_startswith (db_var (pvD 0 q53)) (dab_cons (DL.toB dl_str) dab_nil))) (fun _ => rfl)) (dw_and1 (dt_cmp (op_neA hr) r_ne (db_var (pvD 0 q53)) (DL.toB dl_str) (nomark _))))) (ds_one (ds_ret (DL.toO dl_non))) ds_nil)
      (ds_cons (ds_set y70 q136 q113.nd (DL.toO (DO.toL (do_callT y116 call_intA c_int T.n_int bt_int (dab_cons (db_var (pvD 0 q53)) dab_nil)))))
      (ds_one (ds_ret (do_if (dt_cmp op_lt r_cmp (db_var (pvD 1 y70)) (DL.toB (dl_glob q116 T.g_WIDE)) (nomark _)) (DL.toO (dl_var (pvD 1 y70))) (DL.toO dl_non)))))))
noncomputable abbrev y34 : Stmt := top 16
theorem z146 : FnScope ["word"] ["word"] (defScope y34) := ⟨rfl, rfl, rfl, by decide +kernel, rfl, by decide +kernel, by decide +kernel⟩
theorem q80 : nmOk (defScope y34) ["word"] 0 "word" = true := by decide +kernel
theorem z105 : glOk (defScope y34) "is_name" = true := by decide +kernel
theorem q99 : glOk (defScope y34) "value_of" = true := by decide +kernel
theorem y147 (T : Txt P w K mg) (D : DefF K mg "atom_of" y34 ["word"]) (q57 : OkF P w K mg base "is_name" 2 ["text"] (spD K 1 (q34))) (z28 : OkF P w K mg base "value_of" 2 ["word"] (spD K 1 (y28))) : OkF P w K mg base "atom_of" 3 ["word"] (spD K 1 y69) :=
  mk_ok D z146 rfl fun f cdv A outer s H E hr => (ds_one (ds_ret (do_if (dt_truth (DO.toB (do_callF z105 q57 (hr.mono (by decide)) (da_cons (dl_var (pvD 0 q80)) da_nil))) (fun _ => rfl)) (DL.toO (dl_var (pvD 0 q80))) (do_callF q99 z28 (hr.mono (by decide)) (da_cons (dl_var (pvD 0 q80)) da_nil)))))
noncomputable abbrev q24 : Stmt := top 14
theorem q142 : FnScope ["text"] ["text"] (defScope q24) := ⟨rfl, rfl, rfl, by decide +kernel, rfl, by decide +kernel, by decide +kernel⟩
theorem q137 : nmOk (defScope q24) ["text"] 0 "text" = true := by decide +kernel
theorem z76 : glOk (defScope q24) "MOST_OF_LABEL" = true := by decide +kernel
theorem q98 : glOk (defScope q24) "LETTERS" = true := by decide +kernel
theorem z99 : glOk (defScope q24) "FIGURES" = true := by decide +kernel
theorem q84 : glOk (defScope q24) "is_made_of" = true := by decide +kernel
theorem q143 (T : Txt P w K mg) (D : DefF K mg "is_label" q24 ["text"]) (y24 : OkF P w K mg base "is_made_of" 1 ["text", "signs", "most"] (spD K 3 (z24))) : OkF P w K mg base "is_label" 2 ["text"] (spD K 1 y60) :=
  mk_ok D q142 rfl fun f cdv A outer s H E hr => (ds_one (ds_ret (do_callF q84 y24 (hr.mono (by decide)) (da_cons (dl_var (pvD 0 q137)) (da_cons (DO.toL (do_bin op_addD r_add (DL.toB (dl_glob q98 T.g_LETTERS)) (DL.toB (dl_glob z99 T.g_FIGURES)))) (da_cons (dl_glob z76 T.g_MOST_OF_LABEL) da_nil))))))
noncomputable abbrev q27 : Stmt := top 25
theorem z119 : FnScope ["word", "size"] ["word"] (defScope q27) := ⟨rfl, rfl, rfl, by decide +kernel, rfl, by decide +kernel, by decide +kernel⟩
theorem q141 : nmOk (defScope q27) ["word", "size"] 0 "word" = true := by decide +kernel
theorem q62 : nmOk (defScope q27) ["word", "size"] 1 "size" = true := by decide +kernel
theorem y139 : lcOk (defScope q27) "size" = true := by decide +kernel
theorem z96 : glOk (defScope q27) "value_of" = true := by decide +kernel
theorem y81 : glOk (defScope q27) "MOST_OF_SIZE" = true := by decide +kernel
theorem y148 (T : Txt P w K mg) (D : DefF K mg "size_of" q27 ["word"]) (z28 : OkF P w K mg base "value_of" 2 ["word"] (spD K 1 (y28))) : OkF P w K mg base "size_of" 3 ["word"] (spD K 1 z70) :=
  mk_ok D z119 rfl fun f cdv A outer s H E hr => (ds_cons (ds_set q62 y139 z119.nd (DL.toO (DO.toL (do_callF z96 z28 (hr.mono (by decide)) (da_cons (dl_var (pvD 0 q141)) da_nil)))))
      (ds_one (ds_ret (do_if (DW.t (dw_and (dt_cmp op_notN r_isnot (db_var (pvD 1 q62)) (DL.toB dl_non) (nomark _)) (dw_and1 (dt_chain op_le r_cmp op_le r_cmp (DL.toB dl_int) (db_var (pvD 1 q62)) (DL.toB (dl_glob y81 T.g_MOST_OF_SIZE)))))) (DL.toO (dl_var (pvD 1 q62))) (DL.toO dl_non)))))
noncomputable abbrev q17 : Stmt := top 26
theorem q77 : FnScope ["want", "word", "fits"] ["want", "word"] (defScope q17) := ⟨rfl, rfl, rfl, by decide +kernel, rfl, by decide +kernel, by decide +kernel⟩
theorem y45 : nmOk (defScope q17) ["want", "word", "fits"] 0 "want" = true := by decide +kernel
theorem z32 : nmOk (defScope q17) ["want", "word", "fits"] 1 "word" = true := by decide +kernel
theorem y58 : nmOk (defScope q17) ["want", "word", "fits"] 2 "fits" = true := by decide +kernel
theorem z80 : lcOk (defScope q17) "fits" = true := by decide +kernel
theorem q104 : glOk (defScope q17) "atom_of" = true := by decide +kernel
theorem q97 : glOk (defScope q17) "value_of" = true := by decide +kernel
theorem q100 : glOk (defScope q17) "size_of" = true := by decide +kernel
theorem z104 : glOk (defScope q17) "is_name" = true := by decide +kernel
theorem y97 : glOk (defScope q17) "is_label" = true := by decide +kernel
theorem z114 : glOk (defScope q17) "SIGNS" = true := by decide +kernel
theorem q147 (T : Txt P w K mg) (D : DefF K mg "part_of" q17 ["want", "word"]) (z101 : OkF P w K mg base "atom_of" 3 ["word"] (spD K 1 (y69))) (z92 : OkF P w K mg base "is_label" 2 ["text"] (spD K 1 (y60))) (q57 : OkF P w K mg base "is_name" 2 ["text"] (spD K 1 (q34))) (z102 : OkF P w K mg base "size_of" 3 ["word"] (spD K 1 (z70))) (z28 : OkF P w K mg base "value_of" 2 ["word"] (spD K 1 (y28))) : OkF P w K mg base "part_of" 4 ["want", "word"] (spD K 2 y68) :=
  mk_ok D q77 rfl fun f cdv A outer s H E hr => (ds_cons (ds_if (dt_cmp (op_eqA hr) r_eq (db_var (pvD 0 y45)) (DL.toB dl_str) (nomark _)) (ds_one (ds_ret (do_callF q104 z101 (hr.mono (by decide)) (da_cons (dl_var (pvD 1 z32)) da_nil)))) ds_nil)
      (ds_cons (ds_if (dt_cmp (op_eqA hr) r_eq (db_var (pvD 0 y45)) (DL.toB dl_str) (nomark _)) (ds_one (ds_ret (do_callF q97 z28 (hr.mono (by decide)) (da_cons (dl_var (pvD 1 z32)) da_nil)))) ds_nil)
      (ds_cons (ds_if (dt_cmp (op_eqA hr) r_eq (db_var (pvD 0 y45)) (DL.toB dl_str) (nomark _)) (ds_one (ds_ret (do_callF q100 z102 (hr.mono (by decide)) (da_cons (dl_var (pvD 1 z32)) da_nil)))) ds_nil)
      (ds_cons (ds_if (dt_cmp (op_eqA hr) r_eq (db_var (pvD 0 y45)) (DL.toB dl_str) (nomark _)) (ds_one (ds_set y58 z80 q77.nd (DL.toO (DO.toL (do_callF z104 q57 (hr.mono (by decide)) (da_cons (dl_var (pvD 1 z32)) da_nil)))))) (ds_one (ds_if (dt_cmp (op_eqA hr) r_eq (db_var (pvD 0 y45)) (DL.toB dl_str) (nomark _)) (ds_one (ds_set y58 z80 q77.nd (DL.toO (DO.toL (do_callF y97 z92 (hr.mono (by decide)) (da_cons (dl_var (pvD 1 z32)) da_nil)))))) (ds_one (ds_set y58 z80 q77.nd (DL.toO (DO.toL (do_in hr (db_var (pvD 1 z32)) (DL.toB (dl_glob z114 T.g_SIGNS))))))))))
      (ds_one (ds_ret (do_if (dt_truth (db_var (pvD 2 y58)) (fun _ => rfl)) (DL.toO (dl_var (pvD 1 z32))) (DL.toO dl_non))))))))
noncomputable abbrev q14 : Stmt := top 27
theorem q128 : FnScope ["kind", "wants", "words", "parts"] ["kind", "wants", "words"] (defScope q14) := ⟨rfl, rfl, rfl, by decide +kernel, rfl, by decide +kernel, by decide +kernel⟩
theorem z142 : nmOk (defScope q14) ["kind", "wants", "words", "parts"] 0 "kind" = true := by decide +kernel
theorem y112 : nmOk (defScope q14) ["kind", "wants", "words", "parts"] 1 "wants" = true := by decide +kernel
theorem q112 : nmOk (defScope q14) ["kind", "wants", "words", "parts"] 2 "words" = true := by decide +kernel
theorem z85 : nmOk (defScope q14) ["kind", "wants", "words", "parts"] 3 "parts" = true := by decide +kernel
theorem y144 : lcOk (defScope q14) "parts" = true := by decide +kernel
theorem q94 : glOk (defScope q14) "len" = true := by decide +kernel
theorem q133 : glOk (defScope q14) "zip" = true := by decide +kernel
theorem q119 : glOk (defScope q14) "tuple" = true := by decide +kernel
theorem q150 (T : Txt P w K mg) (D : DefF K mg "filled" q14 ["kind", "wants", "words"]) (y102 : OkF P w K mg base "part_of" 4 ["want", "word"] (spD K 2 (y68))) : OkF P w K mg base "filled" 5 ["kind", "wants", "words"] (spD K 3 q46) :=
  mk_ok D q128 rfl fun f cdv A outer s H E hr => (ds_cons (ds_if (dt_cmp (op_neA hr) r_ne (DO.toB (do_callB q94 call_len c_len T.n_len bt_len (dab_cons (db_var (pvD 2 q112)) dab_nil))) (DO.toB (do_callB q94 call_len c_len T.n_len bt_len (dab_cons (db_var (pvD 1 y112)) dab_nil))) (nomark _)) (ds_one (ds_ret (DL.toO dl_non))) ds_nil)
      (ds_cons (ds_setCf z85 y144 q128.nd (M := ["want", "word"]) (src := [none, none]) (ts := [0, 1]) (CmpScope.of (N := ["kind", "wants", "words", "parts"]) (outer := defScope q14) (by decide +kernel)) rfl (DIF.toB (di_zip q133 T.n_zip (da_cons (dl_var (pvD 1 y112)) (da_cons (dl_var (pvD 2 q112)) da_nil)))) (fun nd _ _ _ _ => (dg_tup rfl (dgs_cons (dg_name (pg_nameC (N := ["want", "word"]) (i := 0) (by decide +kernel) (by decide +kernel) nd (scC (outer := defScope q14) (by exact rfl)))) (dgs_cons (dg_name (pg_nameC (N := ["want", "word"]) (i := 1) (by decide +kernel) (by decide +kernel) nd (scC (outer := defScope q14) (by exact rfl)))) dgs_nil)))) (fun _ _ _ _ => dts_nil) (fun _ _ _ _ => (DO.toL (do_callF (by decide +kernel) y102 (hr.mono (by decide)) (da_cons (dl_var (pvD (N := ["want", "word"]) 0 (by decide +kernel) (scC (outer := defScope q14) rfl))) (da_cons (dl_var (pvD (N := ["want", "word"]) 1 (by decide +kernel) (scC (outer := defScope q14) rfl))) da_nil)) (e1 := (scC (outer := defScope q14) rfl))))) (by decide +kernel))
      (ds_one (ds_ret (do_if (dt_in hr (DL.toB dl_non) (db_var (pvD 3 z85))) (DL.toO dl_non) (do_callT q119 call_tuple_of c_tuple T.n_tuple bt_tuple (dab_cons (DO.toB (do_bin op_addD r_add (DO.toB (do_lst (da_cons (dl_var (pvD 0 z142)) da_nil))) (db_var (pvD 3 z85)))) dab_nil)))))))
noncomputable abbrev z25 : Stmt := top 28
theorem z136 : FnScope ["words"] ["words"] (defScope z25) := ⟨rfl, rfl, rfl, by decide +kernel, rfl, by decide +kernel, by decide +kernel⟩
theorem z20 : nmOk (defScope z25) ["words"] 0 "words" = true := by decide +kernel
theorem z75 : glOk (defScope z25) "len" = true := by decide +kernel
theorem z59 : glOk (defScope z25) "filled" = true := by decide +kernel
theorem z131 (T : Txt P w K mg) (D : DefF K mg "setting_of" z25 ["words"]) (q55 : OkF P w K mg base "filled" 5 ["kind", "wants", "words"] (spD K 3 (q46))) : OkF P w K mg base "setting_of" 6 ["words"] (spD K 1 y31) :=
  mk_ok D z136 rfl fun f cdv A outer s H E hr => (ds_cons (ds_if (dt_cmp (op_eqA hr) r_eq (DO.toB (do_callB z75 call_len c_len T.n_len bt_len (dab_cons (db_var (pvD 0 z20)) dab_nil))) (DL.toB dl_int) (nomark _)) (ds_one (ds_ret (do_callF z59 q55 (hr.mono (by decide)) (da_cons dl_str (da_cons (DO.toL (do_tup (da_cons dl_str (da_cons dl_str da_nil)))) (da_cons (DO.toL (do_lst (da_cons (DO.toL (do_ixA hr (db_var (pvD 0 z20)) (DL.toB dl_int))) (da_cons (DO.toL (do_ixA hr (db_var (pvD 0 z20)) (DL.toB dl_int))) da_nil)))) da_nil)))))) ds_nil)
      (ds_cons (ds_if (dt_cmp (op_eqA hr) r_eq (DO.toB (do_callB z75 call_len c_len T.n_len bt_len (dab_cons (db_var (pvD 0 z20)) dab_nil))) (DL.toB dl_int) (nomark _)) (ds_one (ds_ret (do_callF z59 q55 (hr.mono (by decide)) (da_cons dl_str (da_cons (DO.toL (do_tup (da_cons dl_str (da_cons dl_str (da_cons dl_str (da_cons dl_str da_nil)))))) (da_cons (DO.toL (do_lst (da_cons (DO.toL (do_ixA hr (db_var (pvD 0 z20)) (DL.toB dl_int))) (da_cons (DO.toL (do_ixA hr (db_var (pvD 0 z20)) (DL.toB dl_int))) (da_cons (DO.toL (do_ixA hr (db_var (pvD 0 z20)) (DL.toB dl_int))) (da_cons (DO.toL (do_ixA hr (db_var (pvD 0 z20)) (DL.toB dl_int))) da_nil)))))) da_nil)))))) ds_nil)
      (ds_one (ds_ret (DL.toO dl_non)))))
noncomputable abbrev z23 : Stmt := top 29
theorem q117 : FnScope ["line", "words"] ["line"] (defScope z23) := ⟨rfl, rfl, rfl, by decide +kernel, rfl, by decide +kernel, by decide +kernel⟩
theorem y138 : nmOk (defScope z23) ["line", "words"] 0 "line" = true := by decide +kernel
theorem z27 : nmOk (defScope z23) ["line", "words"] 1 "words" = true := by decide +kernel
theorem z140 : lcOk (defScope z23) "words" = true := by decide +kernel
theorem z122 : glOk (defScope z23) "len" = true := by decide +kernel
theorem y89 : glOk (defScope z23) "setting_of" = true := by decide +kernel
theorem y74 : glOk (defScope z23) "WANTED" = true := by decide +kernel
theorem q106 : glOk (defScope z23) "filled" = true := by decide +kernel
theorem q146 (T : Txt P w K mg) (D : DefF K mg "line_of" z23 ["line"]) (q55 : OkF P w K mg base "filled" 5 ["kind", "wants", "words"] (spD K 3 (q46))) (y79 : OkF P w K mg base "setting_of" 6 ["words"] (spD K 1 (y31))) : OkF P w K mg base "line_of" 7 ["line"] (spD K 1 q29) :=
  mk_ok D q117 rfl fun f cdv A outer s H E hr => (ds_cons (ds_set z27 z140 q117.nd (DL.toO (DO.toL (do_split (db_var (pvD 0 y138)) (dab_cons (DL.toB dl_str) dab_nil)))))
      (ds_cons (ds_if (DW.t (dw_and (dt_cmp op_gt r_cmp (DO.toB (do_callB z122 call_len c_len T.n_len bt_len (dab_cons (db_var (pvD 1 z27)) dab_nil))) (DL.toB dl_int) (nomark _)) (dw_and1 (dt_cmp (op_eqA hr) r_eq (DO.toB (do_ixA hr (db_var (pvD 1 z27)) (DL.toB dl_int))) (DL.toB dl_str) (nomark _))))) (ds_one (ds_ret (do_callF y89 y79 (hr.mono (by decide)) (da_cons (dl_var (pvD 1 z27)) da_nil)))) ds_nil)
      (ds_cons (ds_if (dt_sni y74 T.g_WANTED (DO.toB (do_ixA hr (db_var (pvD 1 z27)) (DL.toB dl_int)))) (ds_one (ds_ret (DL.toO dl_non))) ds_nil)
      (ds_one (ds_ret (do_callF q106 q55 (hr.mono (by decide)) (da_cons (DO.toL (do_ixA hr (db_var (pvD 1 z27)) (DL.toB dl_int))) (da_cons (DO.toL (do_sg y74 T.g_WANTED (DO.toB (do_ixA hr (db_var (pvD 1 z27)) (DL.toB dl_int))))) (da_cons (DO.toL (do_slice (db_var (pvD 1 z27)) (dp_some (DL.toB dl_int)) dp_none)) da_nil)))))))))
noncomputable abbrev q12 : Stmt := top 30
theorem q36 : FnScope ["text", "lines", "only_heads", "number", "row", "line"] ["text"] (defScope q12) := ⟨rfl, rfl, rfl, by decide +kernel, rfl, by decide +kernel, by decide +kernel⟩
theorem y133 : nmOk (defScope q12) ["text", "lines", "only_heads", "number", "row", "line"] 0 "text" = true := by decide +kernel
theorem y71 : nmOk (defScope q12) ["text", "lines", "only_heads", "number", "row", "line"] 1 "lines" = true := by decide +kernel
theorem q132 : lcOk (defScope q12) "lines" = true := by decide +kernel
theorem y72 : nmOk (defScope q12) ["text", "lines", "only_heads", "number", "row", "line"] 2 "only_heads" = true := by decide +kernel
theorem q95 : lcOk (defScope q12) "only_heads" = true := by decide +kernel
theorem y136 : nmOk (defScope q12) ["text", "lines", "only_heads", "number", "row", "line"] 3 "number" = true := by decide +kernel
theorem y129 : lcOk (defScope q12) "number" = true := by decide +kernel
theorem z94 : nmOk (defScope q12) ["text", "lines", "only_heads", "number", "row", "line"] 4 "row" = true := by decide +kernel
theorem z130 : lcOk (defScope q12) "row" = true := by decide +kernel
theorem q42 : nmOk (defScope q12) ["text", "lines", "only_heads", "number", "row", "line"] 5 "line" = true := by decide +kernel
theorem z137 : lcOk (defScope q12) "line" = true := by decide +kernel
theorem y86 : glOk (defScope q12) "enumerate" = true := by decide +kernel
theorem z97 : glOk (defScope q12) "line_of" = true := by decide +kernel
theorem q76 : glOk (defScope q12) "HEADS" = true := by decide +kernel
theorem q144 (T : Txt P w K mg) (D : DefF K mg "lines_of" q12 ["text"]) (y101 : OkF P w K mg base "line_of" 7 ["line"] (spD K 1 (q29))) : OkF P w K mg base "lines_of" 8 ["text"] (spD K 1 z57) :=
  mk_ok D q36 rfl fun f cdv A outer s H E hr => (ds_cons (ds_set y71 q132 q36.nd (do_lst da_nil))
      (ds_cons (ds_set y72 q95 q36.nd (DL.toO dl_bl))
      (ds_cons (ds_for PassesOwn.never rfl (di_enumerate y86 T.n_enumerate (da_cons (DO.toL (do_split (db_var (pvD 0 y133)) (dab_cons (DL.toB dl_str) dab_nil))) da_nil)) (dg_tup rfl (dgs_cons (dg_name (pg_nameD y136 y129 q36.nd)) (dgs_cons (dg_name (pg_nameD z94 z130 q36.nd)) dgs_nil))) (ds_cons (ds_set q42 z137 q36.nd (DL.toO (DO.toL (do_callF z97 y101 (hr.mono (by decide)) (da_cons (dl_var (pvD 4 z94)) da_nil)))))
      (ds_cons (ds_if (DW.t (dw_or (dt_cmp op_isN r_is (db_var (pvD 5 q42)) (DL.toB dl_non) (nomark _)) (dw_or1 (DW.t (dw_and (dt_in hr (DO.toB (do_ixA hr (db_var (pvD 5 q42)) (DL.toB dl_int))) (DL.toB (dl_glob q76 T.g_HEADS))) (dw_and1 (dt_not (dt_truth (db_var (pvD 2 y72)) (fun _ => rfl))))))))) (ds_one ds_never) ds_nil)
      (ds_cons (ds_set y72 q95 q36.nd (DL.toO (DO.toL (do_in hr (DO.toB (do_ixA hr (db_var (pvD 5 q42)) (DL.toB dl_int))) (DL.toB (dl_glob q76 T.g_HEADS))))))
      (ds_one (ds_append (pvD 1 y71) (dl_var (pvD 5 q42))))))))
      (ds_one (ds_retV (pvD 1 y71))))))
noncomputable abbrev z14 : Stmt := top 31
theorem z61 : FnScope ["words", "seen", "word"] ["words"] (defScope z14) := ⟨rfl, rfl, rfl, by decide +kernel, rfl, by decide +kernel, by decide +kernel⟩
theorem y110 : nmOk (defScope z14) ["words", "seen", "word"] 0 "words" = true := by decide +kernel
theorem q49 : nmOk (defScope z14) ["words", "seen", "word"] 1 "seen" = true := by decide +kernel
theorem y107 : lcOk (defScope z14) "seen" = true := by decide +kernel
theorem z51 : nmOk (defScope z14) ["words", "seen", "word"] 2 "word" = true := by decide +kernel
theorem q109 : lcOk (defScope z14) "word" = true := by decide +kernel
theorem z117 (T : Txt P w K mg) (D : DefF K mg "refuse_twice" z14 ["words"]) : OkF P w K mg base "refuse_twice" 1 ["words"] (spD K 1 y30) :=
  mk_ok D z61 rfl fun f cdv A outer s H E hr => (ds_cons (ds_set q49 y107 z61.nd do_dnew)
      (ds_one (ds_for PassesOwn.never rfl (di_seq (dl_var (pvD 0 y110))) (dg_name (pg_nameD z51 q109 z61.nd)) (ds_cons (ds_if (dt_in hr (db_var (pvD 2 z51)) (db_var (pvD 1 q49))) (ds_one ds_never) ds_nil)
      (ds_one (ds_put hr (pvD 1 q49) (db_var (pvD 2 z51)) dl_bl))))))
noncomputable abbrev y15 : Stmt := top 33
theorem z90 : FnScope ["row", "places", "label"] ["row", "places"] (defScope y15) := ⟨rfl, rfl, rfl, by decide +kernel, rfl, by decide +kernel, by decide +kernel⟩
theorem z41 : nmOk (defScope y15) ["row", "places", "label"] 0 "row" = true := by decide +kernel
theorem y80 : nmOk (defScope y15) ["row", "places", "label"] 1 "places" = true := by decide +kernel
theorem q56 : nmOk (defScope y15) ["row", "places", "label"] 2 "label" = true := by decide +kernel
theorem z115 : lcOk (defScope y15) "label" = true := by decide +kernel
theorem y83 : glOk (defScope y15) "LEADING" = true := by decide +kernel
theorem y124 (T : Txt P w K mg) (D : DefF K mg "with_number" y15 ["row", "places"]) : OkF P w K mg base "with_number" 1 ["row", "places"] (spD K 2 q16) :=
  mk_ok D z90 rfl fun f cdv A outer s H E hr => (ds_cons (ds_if (dt_notin hr (DO.toB (do_ixA hr (db_var (pvD 0 z41)) (DL.toB dl_int))) (DL.toB (dl_glob y83 T.g_LEADING))) (ds_one (ds_retV (pvD 0 z41))) ds_nil)
      (ds_cons (ds_set q56 z115 z90.nd (DL.toO (DO.toL (do_ixA hr (db_var (pvD 0 z41)) (DO.toB (do_neg (DL.toB dl_int)))))))
      (ds_cons (ds_if (dt_notin hr (db_var (pvD 2 q56)) (db_var (pvD 1 y80))) (ds_one ds_never) ds_nil)
      (ds_one (ds_ret (do_bin op_addT r_addT (DO.toB (do_slice (db_var (pvD 0 z41)) dp_none (dp_some (DO.toB (do_neg (DL.toB dl_int)))))) (DO.toB (do_tup (da_cons (DO.toL (do_ixA hr (db_var (pvD 1 y80)) (db_var (pvD 2 q56)))) da_nil)))))))))
noncomputable abbrev s_read : Stmt := top 35
theorem y105 : FnScope ["text", "lines", "places", "rows"] ["text"] (defScope s_read) := ⟨rfl, rfl, rfl, by decide +kernel, rfl, by decide +kernel, by decide +kernel⟩
theorem y149 : nmOk (defScope s_read) ["text", "lines", "places", "rows"] 0 "text" = true := by decide +kernel
theorem y44 : nmOk (defScope s_read) ["text", "lines", "places", "rows"] 1 "lines" = true := by decide +kernel
theorem z150 : lcOk (defScope s_read) "lines" = true := by decide +kernel
theorem y150 : nmOk (defScope s_read) ["text", "lines", "places", "rows"] 2 "places" = true := by decide +kernel
theorem q149 : lcOk (defScope s_read) "places" = true := by decide +kernel
theorem z128 : nmOk (defScope s_read) ["text", "lines", "places", "rows"] 3 "rows" = true := by decide +kernel
theorem z149 : lcOk (defScope s_read) "rows" = true := by decide +kernel
theorem z113 : glOk (defScope s_read) "lines_of" = true := by decide +kernel
theorem q61 : glOk (defScope s_read) "refuse_twice" = true := by decide +kernel
theorem q92 : glOk (defScope s_read) "label_places" = true := by decide +kernel
theorem y128 : glOk (defScope s_read) "tuple" = true := by decide +kernel
theorem y119 : glOk (defScope s_read) "SHELVES" = true := by decide +kernel
theorem q70 : glOk (defScope s_read) "heads_read" = true := by decide +kernel
theorem z133 : glOk (defScope s_read) "CELLS" = true := by decide +kernel
theorem q152 (T : Txt P w K mg) (D : DefF K mg "read" s_read ["text"]) (y59 : OkF P w K mg base "heads_read" 1 ["lines", "words"] (spD K 2 (y26))) (z64 : OkF P w K mg base "label_places" 1 ["lines"] (spD K 1 (q40))) (q93 : OkF P w K mg base "lines_of" 8 ["text"] (spD K 1 (z57))) (z46 : OkF P w K mg base "refuse_twice" 1 ["words"] (spD K 1 (y30))) (q71 : OkF P w K mg base "with_number" 1 ["row", "places"] (spD K 2 (q16))) : OkF P w K mg base "read" 9 ["text"] (spD K 1 F_read) :=
  mk_ok D y105 rfl fun f cdv A outer s H E hr => (ds_cons (ds_set y44 z150 y105.nd (DL.toO (DO.toL (do_callF z113 q93 (hr.mono (by decide)) (da_cons (dl_var (pvD 0 y149)) da_nil)))))
      (ds_cons (ds_expr (do_callF q61 z46 (hr.mono (by decide)) (da_cons (DO.toL (do_comp (M := ["line"]) (src := [none]) (ts := [0]) (CmpScope.of (N := ["text", "lines", "places", "rows"]) (outer := defScope s_read) (by decide +kernel)) rfl (dib_seq (db_var (pvD 1 y44))) (fun nd _ _ _ _ => (dg_name (pg_nameC (N := ["line"]) (i := 0) (by decide +kernel) (by decide +kernel) nd (scC (outer := defScope s_read) (by exact rfl))))) (fun _ _ _ _ => dts_one (dt_in hr (DO.toB (do_ixA hr (db_var (pvD (N := ["line"]) 0 (by decide +kernel) (scC (outer := defScope s_read) rfl))) (DL.toB dl_int))) (DL.toB (dl_glob (by decide +kernel) T.g_HEADS (e1 := (scC (outer := defScope s_read) rfl)))))) (fun _ _ _ _ => (DO.toL (do_ixA hr (db_var (pvD (N := ["line"]) 0 (by decide +kernel) (scC (outer := defScope s_read) rfl))) (DL.toB dl_int)))) (by decide +kernel))) da_nil)))
      (ds_cons (ds_expr (do_callF q61 z46 (hr.mono (by decide)) (da_cons (DO.toL (do_comp (M := ["line"]) (src := [none]) (ts := [0]) (CmpScope.of (N := ["text", "lines", "places", "rows"]) (outer := defScope s_read) (by decide +kernel)) rfl (dib_seq (db_var (pvD 1 y44))) (fun nd _ _ _ _ => (dg_name (pg_nameC (N := ["line"]) (i := 0) (by decide +kernel) (by decide +kernel) nd (scC (outer := defScope s_read) (by exact rfl))))) (fun _ _ _ _ => dts_one (dt_cmp (op_eqA hr) r_eq (DO.toB (do_ixA hr (db_var (pvD (N := ["line"]) 0 (by decide +kernel) (scC (outer := defScope s_read) rfl))) (DL.toB dl_int))) (DL.toB dl_str) (nomark _))) (fun _ _ _ _ => (DO.toL (do_ixA hr (db_var (pvD (N := ["line"]) 0 (by decide +kernel) (scC (outer := defScope s_read) rfl))) (DL.toB dl_int)))) (by decide +kernel))) da_nil)))
      (ds_cons (ds_set y150 q149 y105.nd (DL.toO (DO.toL (do_callF q92 z64 (hr.mono (by decide)) (da_cons (dl_var (pvD 1 y44)) da_nil)))))
      (ds_cons (ds_setCf z128 z149 y105.nd (M := ["line", "places"]) (src := [none, some 2]) (ts := [0]) (CmpScope.of (N := ["text", "lines", "places", "rows"]) (outer := defScope s_read) (by decide +kernel)) rfl (dib_seq (db_var (pvD 1 y44))) (fun nd _ _ _ _ => (dg_name (pg_nameC (N := ["line", "places"]) (i := 0) (by decide +kernel) (by decide +kernel) nd (scC (outer := defScope s_read) (by exact rfl))))) (fun _ _ _ _ => dts_one (DW.t (dw_and (dt_notin hr (DO.toB (do_ixA hr (db_var (pvD (N := ["line", "places"]) 0 (by decide +kernel) (scC (outer := defScope s_read) rfl))) (DL.toB dl_int))) (DL.toB (dl_glob (by decide +kernel) T.g_HEADS (e1 := (scC (outer := defScope s_read) rfl))))) (dw_and1 (dt_cmp (op_neA hr) r_ne (DO.toB (do_ixA hr (db_var (pvD (N := ["line", "places"]) 0 (by decide +kernel) (scC (outer := defScope s_read) rfl))) (DL.toB dl_int))) (DL.toB dl_str) (nomark _)))))) (fun _ _ _ _ => (DO.toL (do_callF (by decide +kernel) q71 (hr.mono (by decide)) (da_cons (dl_var (pvD (N := ["line", "places"]) 0 (by decide +kernel) (scC (outer := defScope s_read) rfl))) (da_cons (dl_var (pvD (N := ["line", "places"]) 1 (by decide +kernel) (scC (outer := defScope s_read) rfl))) da_nil)) (e1 := (scC (outer := defScope s_read) rfl))))) (by decide +kernel))
      (ds_one (ds_ret (do_tup (da_cons (DO.toL (do_callF q70 y59 (hr.mono (by decide)) (da_cons (dl_var (pvD 1 y44)) (da_cons (dl_glob z133 T.g_CELLS) da_nil)))) (da_cons (DO.toL (do_callF q70 y59 (hr.mono (by decide)) (da_cons (dl_var (pvD 1 y44)) (da_cons (dl_glob y119 T.g_SHELVES) da_nil)))) (da_cons (DO.toL (do_callT y128 call_tuple_of c_tuple T.n_tuple bt_tuple (dab_cons (db_var (pvD 3 z128)) dab_nil))) da_nil)))))))))))
noncomputable abbrev y9 : Stmt := top 38
theorem y113 : FnScope ["heads", "words"] ["heads", "words"] (defScope y9) := ⟨rfl, rfl, rfl, by decide +kernel, rfl, by decide +kernel, by decide +kernel⟩
theorem q105 : nmOk (defScope y9) ["heads", "words"] 0 "heads" = true := by decide +kernel
theorem y115 (T : Txt P w K mg) (D : DefF K mg "heads_written" y9 ["heads", "words"]) : OkF P w K mg base "heads_written" 1 ["heads", "words"] (spD K 2 q20) :=
  mk_ok D y113 rfl fun f cdv A outer s H E hr => (ds_one (ds_ret (do_comp (M := ["head", "words"]) (src := [none, some 1]) (ts := [0]) (CmpScope.of (N := ["heads", "words"]) (outer := defScope y9) (by decide +kernel)) rfl (dib_seq (db_var (pvD 0 q105))) (fun nd _ _ _ _ => (dg_name (pg_nameC (N := ["head", "words"]) (i := 0) (by decide +kernel) (by decide +kernel) nd (scC (outer := defScope y9) (by exact rfl))))) (fun _ _ _ _ => dts_nil) (fun _ _ _ _ => (DO.toL (do_join (DL.toB dl_str) (dab_cons (DO.toB (do_lst (da_cons (DO.toL (do_if (dt_truth (DO.toB (do_ixA hr (db_var (pvD (N := ["head", "words"]) 0 (by decide +kernel) (scC (outer := defScope y9) rfl))) (DL.toB dl_int))) (fun _ => rfl)) (do_ixA hr (db_var (pvD (N := ["head", "words"]) 1 (by decide +kernel) (scC (outer := defScope y9) rfl))) (DL.toB dl_int)) (do_ixA hr (db_var (pvD (N := ["head", "words"]) 1 (by decide +kernel) (scC (outer := defScope y9) rfl))) (DL.toB dl_int)))) (da_cons (DO.toL (do_ixA hr (db_var (pvD (N := ["head", "words"]) 0 (by decide +kernel) (scC (outer := defScope y9) rfl))) (DL.toB dl_int))) (da_cons (DO.toL (do_callT (by decide +kernel) call_strA c_strA T.n_str bt_str (dab_cons (DO.toB (do_ixA hr (db_var (pvD (N := ["head", "words"]) 0 (by decide +kernel) (scC (outer := defScope y9) rfl))) (DL.toB dl_int))) dab_nil) (e1 := (scC (outer := defScope y9) rfl)))) da_nil))))) dab_nil)))) (by decide +kernel))))
noncomputable abbrev q41 : Stmt := top 36
theorem y142 : FnScope ["number"] ["number"] (defScope q41) := ⟨rfl, rfl, rfl, by decide +kernel, rfl, by decide +kernel, by decide +kernel⟩
theorem z135 : nmOk (defScope q41) ["number"] 0 "number" = true := by decide +kernel
theorem z144 (T : Txt P w K mg) (D : DefF K mg "label_of" q41 ["number"]) : OkF P w K mg base "label_of" 1 ["number"] (spD K 1 z34) :=
  mk_ok D y142 rfl fun f cdv A outer s H E hr => (ds_one (ds_ret (do_fstr (.cons pf_const (.cons (pf_val (db_var (pvD 0 z135))) .nil)))))
noncomputable abbrev z15 : Stmt := top 37
theorem z112 : FnScope ["row", "parts"] ["row"] (defScope z15) := ⟨rfl, rfl, rfl, by decide +kernel, rfl, by decide +kernel, by decide +kernel⟩
theorem y27 : nmOk (defScope z15) ["row", "parts"] 0 "row" = true := by decide +kernel
theorem y22 : nmOk (defScope z15) ["row", "parts"] 1 "parts" = true := by decide +kernel
theorem q131 : lcOk (defScope z15) "parts" = true := by decide +kernel
theorem y98 : glOk (defScope z15) "LEADING" = true := by decide +kernel
theorem z93 : glOk (defScope z15) "label_of" = true := by decide +kernel
theorem q145 (T : Txt P w K mg) (D : DefF K mg "words_of" z15 ["row"]) (q47 : OkF P w K mg base "label_of" 1 ["number"] (spD K 1 (z34))) : OkF P w K mg base "words_of" 2 ["row"] (spD K 1 y57) :=
  mk_ok D z112 rfl fun f cdv A outer s H E hr => (ds_cons (ds_setCf y22 q131 z112.nd (M := ["part"]) (src := [none]) (ts := [0]) (CmpScope.of (N := ["row", "parts"]) (outer := defScope z15) (by decide +kernel)) rfl (dib_seq (DO.toB (do_slice (db_var (pvD 0 y27)) (dp_some (DL.toB dl_int)) dp_none))) (fun nd _ _ _ _ => (dg_name (pg_nameC (N := ["part"]) (i := 0) (by decide +kernel) (by decide +kernel) nd (scC (outer := defScope z15) (by exact rfl))))) (fun _ _ _ _ => dts_nil) (fun _ _ _ _ => (DO.toL (do_callT (by decide +kernel) call_strA c_strA T.n_str bt_str (dab_cons (db_var (pvD (N := ["part"]) 0 (by decide +kernel) (scC (outer := defScope z15) rfl))) dab_nil) (e1 := (scC (outer := defScope z15) rfl))))) (by decide +kernel))
      (ds_cons (ds_if (dt_cmp (op_eqA hr) r_eq (DO.toB (do_ixA hr (db_var (pvD 0 y27)) (DL.toB dl_int))) (DL.toB dl_str) (nomark _)) (ds_one (ds_ret (do_lst (da_cons (DO.toL (do_ixA hr (db_var (pvD 1 y22)) (DL.toB dl_int))) (da_cons dl_str (da_cons (DO.toL (do_ixA hr (db_var (pvD 1 y22)) (DL.toB dl_int))) da_nil)))))) ds_nil)
      (ds_cons (ds_if (dt_cmp (op_eqA hr) r_eq (DO.toB (do_ixA hr (db_var (pvD 0 y27)) (DL.toB dl_int))) (DL.toB dl_str) (nomark _)) (ds_one (ds_ret (do_lst (da_cons (DO.toL (do_ixA hr (db_var (pvD 1 y22)) (DL.toB dl_int))) (da_cons dl_str (da_cons (DO.toL (do_ixA hr (db_var (pvD 1 y22)) (DL.toB dl_int))) (da_cons (DO.toL (do_ixA hr (db_var (pvD 1 y22)) (DL.toB dl_int))) (da_cons (DO.toL (do_ixA hr (db_var (pvD 1 y22)) (DL.toB dl_int))) da_nil)))))))) ds_nil)
      (ds_cons (ds_if (dt_in hr (DO.toB (do_ixA hr (db_var (pvD 0 y27)) (DL.toB dl_int))) (DL.toB (dl_glob y98 T.g_LEADING))) (ds_one (ds_ret (do_bin op_addD r_add (DO.toB (do_bin op_addD r_add (DO.toB (do_lst (da_cons (DO.toL (do_ixA hr (db_var (pvD 0 y27)) (DL.toB dl_int))) da_nil))) (DO.toB (do_slice (db_var (pvD 1 y22)) dp_none (dp_some (DO.toB (do_neg (DL.toB dl_int)))))))) (DO.toB (do_lst (da_cons (DO.toL (do_callF z93 q47 (hr.mono (by decide)) (da_cons (DO.toL (do_ixA hr (db_var (pvD 0 y27)) (DO.toB (do_neg (DL.toB dl_int))))) da_nil))) da_nil)))))) ds_nil)
      (ds_one (ds_ret (do_bin op_addD r_add (DO.toB (do_lst (da_cons (DO.toL (do_ixA hr (db_var (pvD 0 y27)) (DL.toB dl_int))) da_nil))) (db_var (pvD 1 y22)))))))))
noncomputable abbrev y12 : Stmt := top 39
theorem z79 : FnScope ["program", "rows", "led_to", "lines", "number"] ["program"] (defScope y12) := ⟨rfl, rfl, rfl, by decide +kernel, rfl, by decide +kernel, by decide +kernel⟩
theorem q91 : nmOk (defScope y12) ["program", "rows", "led_to", "lines", "number"] 0 "program" = true := by decide +kernel
theorem y61 : nmOk (defScope y12) ["program", "rows", "led_to", "lines", "number"] 1 "rows" = true := by decide +kernel
theorem z147 : lcOk (defScope y12) "rows" = true := by decide +kernel
theorem z116 : nmOk (defScope y12) ["program", "rows", "led_to", "lines", "number"] 2 "led_to" = true := by decide +kernel
theorem q148 : lcOk (defScope y12) "led_to" = true := by decide +kernel
theorem z77 : nmOk (defScope y12) ["program", "rows", "led_to", "lines", "number"] 3 "lines" = true := by decide +kernel
theorem z145 : lcOk (defScope y12) "lines" = true := by decide +kernel
theorem z58 : nmOk (defScope y12) ["program", "rows", "led_to", "lines", "number"] 4 "number" = true := by decide +kernel
theorem z148 : lcOk (defScope y12) "number" = true := by decide +kernel
theorem q122 : glOk (defScope y12) "CELLS" = true := by decide +kernel
theorem y51 : glOk (defScope y12) "heads_written" = true := by decide +kernel
theorem q115 : glOk (defScope y12) "SHELVES" = true := by decide +kernel
theorem z103 : glOk (defScope y12) "len" = true := by decide +kernel
theorem z124 : glOk (defScope y12) "range" = true := by decide +kernel
theorem z107 : glOk (defScope y12) "label_of" = true := by decide +kernel
theorem y106 : glOk (defScope y12) "words_of" = true := by decide +kernel
theorem q151 (T : Txt P w K mg) (D : DefF K mg "write" y12 ["program"]) (y43 : OkF P w K mg base "heads_written" 1 ["heads", "words"] (spD K 2 (q20))) (q47 : OkF P w K mg base "label_of" 1 ["number"] (spD K 1 (z34))) (z91 : OkF P w K mg base "words_of" 2 ["row"] (spD K 1 (y57))) : OkF P w K mg base "write" 3 ["program"] (spD K 1 q86) :=
  mk_ok D z79 rfl fun f cdv A outer s H E hr => (ds_cons (ds_set y61 z147 z79.nd (DL.toO (DO.toL (do_ixA hr (db_var (pvD 0 q91)) (DL.toB dl_int)))))
      (ds_cons (ds_setCf z116 q148 z79.nd (M := ["row"]) (src := [none]) (ts := [0]) (CmpScope.of (N := ["program", "rows", "led_to", "lines", "number"]) (outer := defScope y12) (by decide +kernel)) rfl (dib_seq (db_var (pvD 1 y61))) (fun nd _ _ _ _ => (dg_name (pg_nameC (N := ["row"]) (i := 0) (by decide +kernel) (by decide +kernel) nd (scC (outer := defScope y12) (by exact rfl))))) (fun _ _ _ _ => dts_one (dt_in hr (DO.toB (do_ixA hr (db_var (pvD (N := ["row"]) 0 (by decide +kernel) (scC (outer := defScope y12) rfl))) (DL.toB dl_int))) (DL.toB (dl_glob (by decide +kernel) T.g_LEADING (e1 := (scC (outer := defScope y12) rfl)))))) (fun _ _ _ _ => (DO.toL (do_ixA hr (db_var (pvD (N := ["row"]) 0 (by decide +kernel) (scC (outer := defScope y12) rfl))) (DO.toB (do_neg (DL.toB dl_int)))))) (by decide +kernel))
      (ds_cons (ds_set z77 z145 z79.nd (do_bin op_addD r_add (DO.toB (do_callF y51 y43 (hr.mono (by decide)) (da_cons (DO.toL (do_ixA hr (db_var (pvD 0 q91)) (DL.toB dl_int))) (da_cons (dl_glob q122 T.g_CELLS) da_nil)))) (DO.toB (do_callF y51 y43 (hr.mono (by decide)) (da_cons (DO.toL (do_ixA hr (db_var (pvD 0 q91)) (DL.toB dl_int))) (da_cons (dl_glob q115 T.g_SHELVES) da_nil))))))
      (ds_cons (ds_for PassesOwn.never rfl (di_range1 z124 T.n_range (da_cons (DO.toL (do_bin op_addD r_add (DO.toB (do_callB z103 call_len c_len T.n_len bt_len (dab_cons (db_var (pvD 1 y61)) dab_nil))) (DL.toB dl_int))) da_nil)) (dg_name (pg_nameD z58 z148 z79.nd)) (ds_cons (ds_if (dt_in hr (db_var (pvD 4 z58)) (db_var (pvD 2 z116))) (ds_one (ds_append (pvD 3 z77) (DO.toL (do_join (DL.toB dl_str) (dab_cons (DO.toB (do_lst (da_cons dl_str (da_cons (DO.toL (do_callF z107 q47 (hr.mono (by decide)) (da_cons (dl_var (pvD 4 z58)) da_nil))) da_nil)))) dab_nil))))) ds_nil)
      (ds_one (ds_if (dt_cmp op_lt r_cmp (db_var (pvD 4 z58)) (DO.toB (do_callB z103 call_len c_len T.n_len bt_len (dab_cons (db_var (pvD 1 y61)) dab_nil))) (nomark _)) (ds_one (ds_append (pvD 3 z77) (DO.toL (do_join (DL.toB dl_str) (dab_cons (DO.toB (do_callF y106 z91 (hr.mono (by decide)) (da_cons (DO.toL (do_ixA hr (db_var (pvD 1 y61)) (db_var (pvD 4 z58)))) da_nil))) dab_nil))))) ds_nil))))
      (ds_one (ds_ret (do_join (DL.toB dl_str) (dab_cons (db_var (pvD 3 z77)) dab_nil))))))))
noncomputable abbrev z11 : Stmt := top 50
theorem z71 : FnScope ["_law_program_here", "_law_due", "_law_told"] ["_law_program_here"] (defScope z11) := ⟨rfl, rfl, rfl, by decide +kernel, rfl, by decide +kernel, by decide +kernel⟩
theorem y62 : nmOk (defScope z11) ["_law_program_here", "_law_due", "_law_told"] 0 "_law_program_here" = true := by decide +kernel
theorem q58 : nmOk (defScope z11) ["_law_program_here", "_law_due", "_law_told"] 1 "_law_due" = true := by decide +kernel
theorem z120 : lcOk (defScope z11) "_law_due" = true := by decide +kernel
theorem z60 : nmOk (defScope z11) ["_law_program_here", "_law_due", "_law_told"] 2 "_law_told" = true := by decide +kernel
theorem q120 : lcOk (defScope z11) "_law_told" = true := by decide +kernel
theorem q82 : glOk (defScope z11) "_law_text" = true := by decide +kernel
theorem y95 : glOk (defScope z11) "write" = true := by decide +kernel
theorem y103 : glOk (defScope z11) "read" = true := by decide +kernel
theorem q78 : glOk (defScope z11) "_law_alike" = true := by decide +kernel
theorem q81 : glOk (defScope z11) "isinstance" = true := by decide +kernel
theorem z111 : glOk (defScope z11) "str" = true := by decide +kernel
theorem y135 (T : Txt P w K mg) (D : DefF K mg "_law_right" z11 ["_law_program_here"]) (q45 : OkF P w K mg base "_law_alike" 7 ["_law_found", "_law_due"] (spD K 2 (y14 6))) (z83 : OkF P w K mg base "_law_text" 2 ["_law_program_here"] (spD K 1 (z52))) (h_read : OkF P w K mg base "read" 9 ["text"] (spD K 1 (F_read))) (y125 : OkF P w K mg base "write" 3 ["program"] (spD K 1 (q86))) : OkF P w K mg base "_law_right" 10 ["_law_program_here"] (spD K 1 z31) :=
  mk_ok D z71 rfl fun f cdv A outer s H E hr => (ds_cons (ds_set q58 z120 z71.nd (DL.toO (DO.toL (do_callF q82 z83 (hr.mono (by decide)) (da_cons (dl_var (pvD 0 y62)) da_nil)))))
      (ds_cons (ds_set z60 q120 z71.nd (DL.toO (DO.toL (do_callF y95 y125 (hr.mono (by decide)) (da_cons (dl_var (pvD 0 y62)) da_nil)))))
      (ds_one (ds_ret (do_and (DO.toB (do_isinst q81 z111 T.n_isinstance T.n_str bt_str T.k_str (db_var (pvD 2 z60)))) (do_and (DO.toB (do_cmp (op_eqA hr) r_eq (db_var (pvD 2 z60)) (db_var (pvD 1 q58)) (nomark _))) (do_one (do_callF q78 q45 (hr.mono (by decide)) (da_cons (DO.toL (do_callF y103 h_read (hr.mono (by decide)) (da_cons (dl_var (pvD 1 q58)) da_nil))) (da_cons (dl_var (pvD 0 y62)) da_nil))))))))))
noncomputable abbrev s_law : Stmt := top 51
theorem sc_law : FnScope ["_law_script", "_law_program_here", "_law_other"] ["_law_script"] (defScope s_law) := ⟨rfl, rfl, rfl, by decide +kernel, rfl, by decide +kernel, by decide +kernel⟩
theorem y140 : nmOk (defScope s_law) ["_law_script", "_law_program_here", "_law_other"] 0 "_law_script" = true := by decide +kernel
theorem q114 : nmOk (defScope s_law) ["_law_script", "_law_program_here", "_law_other"] 1 "_law_program_here" = true := by decide +kernel
theorem y151 : lcOk (defScope s_law) "_law_program_here" = true := by decide +kernel
theorem q138 : nmOk (defScope s_law) ["_law_script", "_law_program_here", "_law_other"] 2 "_law_other" = true := by decide +kernel
theorem z151 : lcOk (defScope s_law) "_law_other" = true := by decide +kernel
theorem q63 : glOk (defScope s_law) "_law_program" = true := by decide +kernel
theorem y49 : glOk (defScope s_law) "_law_right" = true := by decide +kernel
theorem ok_law {f : Addr} {fd : FuncData} (T : Txt P w K mg) (D : Fun K "law" "law" s_law f fd) (q48 : OkF P w K mg base "_law_program" 5 ["_law_script", "_law_at"] (spD K 2 (q30))) (z45 : OkF P w K mg base "_law_right" 10 ["_law_program_here"] (spD K 1 (z31))) : FnOk P w K mg base CX0 11 f fd ["_law_script"] (spD K 1 F_law) :=
  fn_ok D sc_law rfl fun cdv A outer s H E hr => (ds_cons (ds_set q114 y151 sc_law.nd (DL.toO (DO.toL (do_callF q63 q48 (hr.mono (by decide)) (da_cons (dl_var (pvD 0 y140)) (da_cons dl_int da_nil))))))
      (ds_cons (ds_set q138 z151 sc_law.nd (DL.toO (DO.toL (do_callF q63 q48 (hr.mono (by decide)) (da_cons (dl_var (pvD 0 y140)) (da_cons dl_int da_nil))))))
      (ds_one (ds_ret (do_and (DO.toB (do_callF y49 z45 (hr.mono (by decide)) (da_cons (dl_var (pvD 1 q114)) da_nil))) (do_and (DO.toB (do_callF y49 z45 (hr.mono (by decide)) (da_cons (dl_var (pvD 2 q138)) da_nil))) (do_one (do_callF y49 z45 (hr.mono (by decide)) (da_cons (dl_var (pvD 1 q114)) da_nil)))))))))
end
end P12
local macro_rules | `(tactic| walk_at "d") => `(tactic| simp -implicitDefEqProofs only [L2.runD_d, L2.finO_rt, L2.finO_nx, L2.sSeq_d, L2.thenO_nx, L2.thenO_rt, L2.sNil, L2.sSet, L2.sRet, L2.sRetV, L2.sIf_d, L2.condO_t, L2.condO_f, L2.kB_d, L2.kT_d, L2.sFor_d, L2.sDrop, L2.sAug, L2.sPut, L2.toT, L2.toD, L2.T.d, L2.kD, L2.vL, L2.vB, L2.d2, L2.tB2, L2.fTru, L2.fNot, L2.fAnd_d, L2.fOr_d, L2.vNot, L2.vAnd_d, L2.vIf_d, L2.aNil, L2.aCons, L2.vTup_d, L2.vLst_d, L2.mkL_of, L2.mkTp_of, L2.appL_of, L2.vCall, L2.vMeth, L2.vComp_d, L2.vSl, L2.oNone, L2.oSome, L2.vInst, L2.instD, L2.isIns, L2.vChain, L2.asBf, L2.vNeg, L2.fIt, L2.fRng, L2.bName, L2.dC, L2.tYesD, L2.gAdd_i, L2.atI_0, L2.atI_1, L2.atI_2, L2.atI_3, L2.atI_4, L2.atI_m1, L2.gAdd_ls, L2.gIn_l, L2.gIn_t, L2.flatD_s, L2.eqF_s, L2.eqF_i, List.all_cons, List.all_nil, List.any_cons, List.any_nil, L2.gSub_i, L2.gMul_l, L2.gMul_r, L2.gMod_i, L2.gPow_40, L2.gMod_w, L2.gCmp_i, L2.gEq_ii, L2.gEq_ss, L2.gEq_bb, L2.gNe_ii, L2.gNe_ss, L2.gIs_n, L2.isNon, L2.gIx_l, L2.gIx_t, L2.gIx_d, L2.gIn_d, L2.gLen_l, L2.gLen_t, L2.gInt_b, L2.gTuple_l, L2.itD_l, L2.itD_t, L2.itD_s, L2.truD_b, L2.asB_b, L2.asBl_b, L2.asI_i, L2.forD_nil, List.map_cons, List.map_nil, List.length_cons, List.length_nil, List.cons_append, List.nil_append, List.replicate, List.getElem?_cons_zero, List.getElem?_cons_succ, List.set_cons_zero, List.set_cons_succ, Option.bind_some, Option.bind_none, Option.map_some, Option.map_none, Option.join_some, Option.join_none, Nat.reduceAdd, Nat.reduceSub, Nat.reduceLeDiff, Int.reduceLT, Int.reduceEq, eq_self, Int.reduceNeg, Int.reduceLE, if_true, if_false, ite_true, ite_false, Bool.false_eq_true, decide_true, decide_false, Bool.not_true, Bool.not_false, Bool.and_true, Bool.true_and, Bool.or_true, Bool.true_or, Bool.or_false, Bool.false_or, Bool.and_false, Bool.false_and, String.reduceBEq, reduceCtorEq])
namespace P12
open PySem L2 PyProof.Rows
noncomputable abbrev cL : Str := "abcdefghijklmnopqrstuvwxyz"
noncomputable abbrev cF : Str := "0123456789"
theorem inS_one (c : Nat) (y : Str) : inS y ⟨#[c]⟩ = decide (c ∈ y.cps.toList) := StrLaws.found_one y c
noncomputable def allIn (x y : Str) : Bool := x.cps.toList.all fun c => decide (c ∈ y.cps.toList)
noncomputable def Low (c : Nat) : Prop := 97 ≤ c ∧ c ≤ 122
noncomputable def Fig (c : Nat) : Prop := 48 ≤ c ∧ c ≤ 57
theorem codes_L : cL.cps.toList = [97, 98, 99, 100, 101, 102, 103, 104, 105, 106, 107, 108, 109, 110, 111, 112, 113, 114, 115, 116, 117, 118, 119, 120, 121, 122] := by decide +kernel
theorem codes_F : cF.cps.toList = [48, 49, 50, 51, 52, 53, 54, 55, 56, 57] := by decide +kernel
theorem in_L (c : Nat) : c ∈ cL.cps.toList ↔ Low c := by
  rw [codes_L]
  unfold Low
  constructor
  · intro h; simp at h; omega
  · intro ⟨h1, h2⟩; simp; omega
theorem in_F (c : Nat) : c ∈ cF.cps.toList ↔ Fig c := by
  rw [codes_F]
  unfold Fig
  constructor
  · intro h; simp at h; omega
  · intro ⟨h1, h2⟩; simp; omega
theorem asBls_map {α : Type} (f : α → Bool) : ∀ l : List α, asBls (l.map fun x => Dt.bl (f x)) = some (l.map f)
  | [] => rfl
  | x :: l => by
    show (asBls (l.map fun x => Dt.bl (f x))).map (f x :: ·) = _
    rw [asBls_map f l]
    rfl
theorem made_comp (x y : Str) (hx : x.length ≤ 1000) : vComp [none, some 1] (fIt (vB 0)) (bName 0) tYesD y65 [some (.leaf (.str x)), some (.leaf (.str y)), s2] = some (.lst (x.cps.toList.map fun c => .bl (decide (c ∈ y.cps.toList)))) := by
  have e := compL_map (bb := bName 0) (ft := tYesD) (fe := y65) (δ := [none, some (.leaf (.str y))]) (ds := signD x) (f := fun d => match d with | .str i => .bl (inS y i) | d => d) fun d hd => by
    unfold signD at hd
    obtain ⟨c, _, rfl⟩ := List.mem_map.mp hd
    exact ⟨_, rfl, rfl, rfl⟩
  walk_at "d"
  rw [e, Option.bind_some, mkL_of (by unfold signD; rw [List.length_map, List.length_map, ← len_cps]; omega)]
  unfold signD
  rw [List.map_map]
  congr 2
  exact List.map_congr_left fun c _ => by show Dt.bl (inS y ⟨#[c]⟩) = _; rw [inS_one]
theorem made_ok (x y : Str) (m : Int) (hx : x.length ≤ 1000) : z24 [.str x, .str y, .int m] = some (.leaf (.bl (decide (1 ≤ (x.length : Int)) && (decide ((x.length : Int) ≤ m) && allIn x y)))) := by
  unfold z24
  have e := made_comp (s2 := some (.leaf (.int m))) x y hx
  have hg : gLen [Dt.str x] = some (.leaf (.int x.length)) := if_pos (small (by omega))
  walk_at "d"
  rw [hg]
  walk_at "d"
  by_cases h1 : 1 ≤ (x.length : Int)
  · rw [decide_eq_true h1]
    walk_at "d"
    by_cases h2 : (x.length : Int) ≤ m
    · rw [decide_eq_true h2]
      simp only [condO_t, vCall, aCons, toD, e, Option.map_some, T.d, Option.bind_some, aNil, gAll, asBls_map, if_true]
      walk_at "d"
      congr 3
      unfold allIn
      rw [List.all_map]
      rfl
    · rw [decide_eq_false h2]
      walk_at "d"
  · rw [decide_eq_false h1]
    walk_at "d"
noncomputable def Nm (x : Str) : Prop := 1 ≤ x.length ∧ x.length ≤ 6 ∧ ∀ c ∈ x.cps.toList, Low c
theorem name_t {x : Str} (h : Nm x) : q34 [.str x] = some (.leaf (.bl true)) := by
  unfold q34
  have e := made_ok x cL 6 (by have := h.2.1; omega)
  have e1 : allIn x cL = true := by
    unfold allIn
    rw [List.all_eq_true]
    exact fun c hc => decide_eq_true ((in_L c).mpr (h.2.2 c hc))
  rw [e1, decide_eq_true (show 1 ≤ (x.length : Int) by have := h.1; omega), decide_eq_true (show (x.length : Int) ≤ 6 by have := h.2.1; omega)] at e
  unfold c_LETTERS c_MOST_OF_NAME
  walk_at "d"
  rw [show Str.ofString "abcdefghijklmnopqrstuvwxyz" = cL from rfl, e]
  walk_at "d"
noncomputable def num (n : Int) : Str := Str.ofString (toString n)
noncomputable def InR (n : Int) : Prop := 0 ≤ n ∧ n < 1099511627776
theorem num_l {n : Int} (h : InR n) : 1 ≤ (num n).length ∧ (num n).length ≤ 13 := by
  refine ⟨?_, num_len h.1 h.2⟩
  rw [len_cps]
  exact Nat.pos_of_ne_zero fun z => num_ne h.1 (List.eq_nil_of_length_eq_zero z)
theorem num_fig {n : Int} (h : InR n) : allIn (num n) cF = true := by
  unfold allIn
  rw [List.all_eq_true]
  exact fun c hc => decide_eq_true ((in_F c).mpr (num_digit h.1 c hc))
theorem name_f {n : Int} (h : InR n) : q34 [.str (num n)] = some (.leaf (.bl false)) := by
  unfold q34
  have hl := num_l h
  have e := made_ok (num n) cL 6 (by omega)
  have e1 : allIn (num n) cL = false := by
    unfold allIn
    rw [List.all_eq_false]
    obtain ⟨c, r, hc⟩ := List.exists_cons_of_ne_nil (num_ne h.1)
    refine ⟨c, by unfold num; rw [hc]; simp, ?_⟩
    have hd := num_digit h.1 c (by rw [hc]; simp)
    intro z
    have := (in_L c).mp (of_decide_eq_true z)
    unfold Low at this
    omega
  rw [e1, Bool.and_false, Bool.and_false] at e
  unfold c_LETTERS c_MOST_OF_NAME
  walk_at "d"
  rw [show Str.ofString "abcdefghijklmnopqrstuvwxyz" = cL from rfl, e]
  walk_at "d"
theorem zero_codes : ("0" : Str) = ⟨#[48]⟩ := by decide +kernel
theorem starts_c (c : Nat) (r : List Nat) : Txt.startswith ⟨(c :: r).toArray⟩ ⟨#[48]⟩ = decide (c = 48) := by
  rw [Bool.eq_iff_iff, decide_eq_true_eq]
  unfold Txt.startswith
  rw [Bool.and_eq_true, decide_eq_true_eq, StrLaws.subAt_one]
  simp
theorem starts0 {n : Int} (h : InR n) (hn : n ≠ 0) : Txt.startswith (num n) "0" = false := by
  obtain ⟨c, r, hc⟩ := List.exists_cons_of_ne_nil (num_ne h.1)
  have hx : num n = ⟨(c :: r).toArray⟩ := str_ext (by unfold num; rw [hc])
  rw [hx, zero_codes, starts_c]
  refine decide_eq_false fun z => ?_
  rw [num_signs h.1] at hc
  cases q : Nat.toDigits 10 n.toNat with
  | nil => exact digits_ne _ q
  | cons a l =>
    rw [q, List.map_cons, List.cons.injEq] at hc
    have ha : a = '0' := by
      have : a.toNat = '0'.toNat := by rw [hc.1, z]; rfl
      exact Char.ext (UInt32.toNat_inj.mp this)
    rw [ha] at q
    exact digits_head n.toNat (by have := h.1; omega) l q
theorem value_ok {n : Int} (h : InR n) : y28 [.str (num n)] = some (.leaf (.int n)) := by
  unfold y28
  have hl := num_l h
  have e := made_ok (num n) cF 13 (by omega)
  rw [num_fig h, decide_eq_true (show 1 ≤ ((num n).length : Int) by omega), decide_eq_true (show ((num n).length : Int) ≤ 13 by omega)] at e
  have ei : gInt [.str (num n)] = some (.leaf (.int n)) := by
    show (PySem.intText? (num n)).bind _ = _
    unfold num
    rw [num_int h.1 h.2, Option.bind_some]
    exact if_pos (by have := num_len h.1 h.2; omega)
  unfold c_FIGURES c_MOST_OF_VALUE c_WIDE
  walk_at "d"
  rw [show Str.ofString "0123456789" = cF from rfl, e]
  walk_at "d"
  by_cases hn : n = 0
  · subst hn
    have ez : num 0 = Str.ofString "0" := by decide +kernel
    rw [ez] at ei ⊢
    rw [show g_startswith (.str (Str.ofString "0")) [.str (Str.ofString "0")] = some (.leaf (.bl (Txt.startswith (Str.ofString "0") (Str.ofString "0")))) from rfl, show Txt.startswith (Str.ofString "0") (Str.ofString "0") = true by decide +kernel]
    walk_at "d"
    rw [ei]
    walk_at "d"
  · rw [show g_startswith (.str (num n)) [.str (Str.ofString "0")] = some (.leaf (.bl (Txt.startswith (num n) "0"))) from rfl, starts0 h hn]
    walk_at "d"
    rw [ei]
    walk_at "d"
    rw [condO_p (by simpa using h.2)]
    walk_at "d"
inductive Atm : Dt → Str → Prop
  | nm {x : Str} : Nm x → Atm (.str x) x
  | vl {n : Int} : InR n → Atm (.int n) (num n)
theorem atom_ok {a : Dt} {s : Str} (h : Atm a s) : y69 [.str s] = some (.leaf a) := by
  unfold y69
  cases h with
  | nm h =>
    walk_at "d"
    rw [name_t h]
    walk_at "d"
  | vl h =>
    walk_at "d"
    rw [name_f h]
    walk_at "d"
    rw [value_ok h]
    walk_at "d"
theorem log_ok {n : Int} (h : InR n) : logOk n = true := by
  unfold logOk
  refine decide_eq_true ?_
  by_cases z : n.natAbs = 0
  · rw [z]; decide
  · rw [Nat.log2_lt z]
    have h1 : n.natAbs < 2 ^ 40 := by have := h.1; have := h.2; have : (2 ^ 40 : Nat) = 1099511627776 := rfl; omega
    exact Nat.lt_of_lt_of_le h1 (Nat.pow_le_pow_right (by decide) (by decide))
theorem str_num {n : Int} (h : InR n) : gStrA [.int n] = some (.leaf (.str (num n))) := by
  show gStr [.int n] = _
  exact if_pos (log_ok h)
theorem str_ok {a : Dt} {s : Str} (h : Atm a s) : gStrA [a] = some (.leaf (.str s)) := by
  cases h with
  | nm h => rfl
  | vl h => exact str_num h
noncomputable def lab (n : Int) : Str := Str.ofString "r" ++ num n
theorem r_code : (Str.ofString "r").cps.toList = [114] := by decide +kernel
theorem lab_codes (n : Int) : (lab n).cps.toList = 114 :: (num n).cps.toList := by
  unfold lab
  rw [cps_app, r_code]
  rfl
theorem num_small {n : Int} (h0 : 0 ≤ n) (hn : n ≤ 100) : (num n).length ≤ 3 := toString_length_le h0 (by decide) (by have : (10 : Int) ^ 3 = 1000 := rfl; omega)
theorem lab_len {n : Int} (h0 : 0 ≤ n) (hn : n ≤ 100) : (lab n).length ≤ 4 := by
  have := num_small h0 hn
  rw [len_cps, lab_codes, List.length_cons, ← len_cps]
  omega
theorem label_ok {n : Int} (h0 : 0 ≤ n) (hn : n ≤ 100) : y60 [.str (lab n)] = some (.leaf (.bl true)) := by
  unfold y60
  have hl := lab_len h0 hn
  have hR : InR n := ⟨h0, by omega⟩
  have e := made_ok (lab n) (cL ++ cF) 8 (by omega)
  have e1 : allIn (lab n) (cL ++ cF) = true := by
    unfold allIn
    rw [List.all_eq_true]
    intro c hc
    refine decide_eq_true ?_
    rw [cps_app, List.mem_append]
    rw [lab_codes] at hc
    rcases List.mem_cons.mp hc with rfl | hc
    · exact .inl ((in_L 114).mpr ⟨by decide, by decide⟩)
    · exact .inr ((in_F c).mpr (num_digit h0 c hc))
  have h1 : 1 ≤ (lab n).length := by rw [len_cps, lab_codes]; simp
  rw [e1, decide_eq_true (show 1 ≤ ((lab n).length : Int) by omega), decide_eq_true (show ((lab n).length : Int) ≤ 8 by omega)] at e
  unfold c_LETTERS c_FIGURES c_MOST_OF_LABEL
  walk_at "d"
  rw [show gAdd (.str (Str.ofString "abcdefghijklmnopqrstuvwxyz")) (.str (Str.ofString "0123456789")) = some (.leaf (.str (cL ++ cF))) from gAdd_s (by decide +kernel)]
  walk_at "d"
  rw [e]
  walk_at "d"
theorem size_ok {n : Int} (h1 : 1 ≤ n) (h8 : n ≤ 8) : z70 [.str (num n)] = some (.leaf (.int n)) := by
  unfold z70
  unfold c_MOST_OF_SIZE
  walk_at "d"
  rw [value_ok ⟨by omega, by omega⟩]
  walk_at "d"
  rw [decide_eq_true h1]
  walk_at "d"
  rw [decide_eq_true h8]
  walk_at "d"
end P12
namespace P12
open PySem L2 PyProof.Rows
theorem nw_value_atom : (Str.ofString "value" = Str.ofString "atom") = False := eq_false (by decide +kernel)
theorem nw_size_atom : (Str.ofString "size" = Str.ofString "atom") = False := eq_false (by decide +kernel)
theorem nw_size_value : (Str.ofString "size" = Str.ofString "value") = False := eq_false (by decide +kernel)
theorem nw_name_atom : (Str.ofString "name" = Str.ofString "atom") = False := eq_false (by decide +kernel)
theorem nw_name_value : (Str.ofString "name" = Str.ofString "value") = False := eq_false (by decide +kernel)
theorem nw_name_size : (Str.ofString "name" = Str.ofString "size") = False := eq_false (by decide +kernel)
theorem nw_label_atom : (Str.ofString "label" = Str.ofString "atom") = False := eq_false (by decide +kernel)
theorem nw_label_value : (Str.ofString "label" = Str.ofString "value") = False := eq_false (by decide +kernel)
theorem nw_label_size : (Str.ofString "label" = Str.ofString "size") = False := eq_false (by decide +kernel)
theorem nw_label_name : (Str.ofString "label" = Str.ofString "name") = False := eq_false (by decide +kernel)
theorem nw_sign_atom : (Str.ofString "sign" = Str.ofString "atom") = False := eq_false (by decide +kernel)
theorem nw_sign_value : (Str.ofString "sign" = Str.ofString "value") = False := eq_false (by decide +kernel)
theorem nw_sign_size : (Str.ofString "sign" = Str.ofString "size") = False := eq_false (by decide +kernel)
theorem nw_sign_name : (Str.ofString "sign" = Str.ofString "name") = False := eq_false (by decide +kernel)
theorem nw_sign_label : (Str.ofString "sign" = Str.ofString "label") = False := eq_false (by decide +kernel)
end P12
local macro_rules | `(tactic| walk_at "w") => `(tactic| simp -implicitDefEqProofs only [L2.runD_d, L2.finO_rt, L2.finO_nx, L2.sSeq_d, L2.thenO_nx, L2.thenO_rt, L2.sNil, L2.sSet, L2.sRet, L2.sRetV, L2.sIf_d, L2.condO_t, L2.condO_f, L2.kB_d, L2.kT_d, L2.sFor_d, L2.sDrop, L2.sAug, L2.sPut, L2.toT, L2.toD, L2.T.d, L2.kD, L2.vL, L2.vB, L2.d2, L2.tB2, L2.fTru, L2.fNot, L2.fAnd_d, L2.fOr_d, L2.vNot, L2.vAnd_d, L2.vIf_d, L2.aNil, L2.aCons, L2.vTup_d, L2.vLst_d, L2.mkL_of, L2.mkTp_of, L2.appL_of, L2.vCall, L2.vMeth, L2.vComp_d, L2.vSl, L2.oNone, L2.oSome, L2.vInst, L2.instD, L2.isIns, L2.vChain, L2.asBf, L2.vNeg, L2.fIt, L2.fRng, L2.bName, L2.dC, L2.tYesD, L2.gAdd_i, L2.atI_0, L2.atI_1, L2.atI_2, L2.atI_3, L2.atI_4, L2.atI_m1, L2.gAdd_ls, L2.gIn_l, L2.gIn_t, L2.flatD_s, L2.eqF_s, L2.eqF_i, List.all_cons, List.all_nil, List.any_cons, List.any_nil, L2.gSub_i, L2.gMul_l, L2.gMul_r, L2.gMod_i, L2.gPow_40, L2.gMod_w, L2.gCmp_i, L2.gEq_ii, L2.gEq_ss, L2.gEq_bb, L2.gNe_ii, L2.gNe_ss, L2.gIs_n, L2.isNon, L2.gIx_l, L2.gIx_t, L2.gIx_d, L2.gIn_d, L2.gLen_l, L2.gLen_t, L2.gInt_b, L2.gTuple_l, L2.itD_l, L2.itD_t, L2.itD_s, L2.truD_b, L2.asB_b, L2.asBl_b, L2.asI_i, L2.forD_nil, List.map_cons, List.map_nil, List.length_cons, List.length_nil, List.cons_append, List.nil_append, List.replicate, List.getElem?_cons_zero, List.getElem?_cons_succ, List.set_cons_zero, List.set_cons_succ, Option.bind_some, Option.bind_none, Option.map_some, Option.map_none, Option.join_some, Option.join_none, Nat.reduceAdd, Nat.reduceSub, Nat.reduceLeDiff, Int.reduceLT, Int.reduceEq, eq_self, Int.reduceNeg, Int.reduceLE, if_true, if_false, ite_true, ite_false, Bool.false_eq_true, decide_true, decide_false, Bool.not_true, Bool.not_false, Bool.and_true, Bool.true_and, Bool.or_true, Bool.true_or, Bool.or_false, Bool.false_or, Bool.and_false, Bool.false_and, String.reduceBEq, reduceCtorEq, P12.nw_value_atom, P12.nw_size_atom, P12.nw_size_value, P12.nw_name_atom, P12.nw_name_value, P12.nw_name_size, P12.nw_label_atom, P12.nw_label_value, P12.nw_label_size, P12.nw_label_name, P12.nw_sign_atom, P12.nw_sign_value, P12.nw_sign_size, P12.nw_sign_name, P12.nw_sign_label])
namespace P12
open PySem L2 PyProof.Rows
inductive Pt : Str → Str → Dt → Prop
  | atom {s : Str} {a : Dt} : Atm a s → Pt "atom" s a
  | value {n : Int} : InR n → Pt "value" (num n) (.int n)
  | size {n : Int} : 1 ≤ n → n ≤ 8 → Pt "size" (num n) (.int n)
  | name {x : Str} : Nm x → Pt "name" x (.str x)
  | label {n : Int} : 0 ≤ n → n ≤ 100 → Pt "label" (lab n) (.str (lab n))
  | sign {s : Str} : gInA false (.str s) c_SIGNS = some (.leaf (.bl true)) → Pt "sign" s (.str s)
theorem part_ok {w s : Str} {p : Dt} (h : Pt w s p) : y68 [.str w, .str s] = some (.leaf p) := by
  unfold y68
  cases h with
  | atom h =>
    walk_at "w"
    rw [atom_ok h]
    walk_at "w"
  | value h =>
    walk_at "w"
    rw [value_ok h]
    walk_at "w"
  | size h1 h2 =>
    walk_at "w"
    rw [size_ok h1 h2]
    walk_at "w"
  | name h =>
    walk_at "w"
    rw [name_t h]
    walk_at "w"
  | label h1 h2 =>
    walk_at "w"
    rw [label_ok h1 h2]
    walk_at "w"
  | sign h =>
    walk_at "w"
    rw [h]
    walk_at "w"
theorem Pt.flat {w s : Str} {p : Dt} (h : Pt w s p) : flatD p = true ∧ eqF p .non = false := by
  cases h with
  | atom h => cases h <;> exact ⟨rfl, rfl⟩
  | _ => exact ⟨rfl, rfl⟩
inductive Pts : List Str → List Str → List Dt → Prop
  | nil : Pts [] [] []
  | cons {w s : Str} {p : Dt} {ws ss : List Str} {ps : List Dt} : Pt w s p → Pts ws ss ps → Pts (w :: ws) (s :: ss) (p :: ps)
theorem Pts.len {ws ss : List Str} {ps : List Dt} (h : Pts ws ss ps) : ss.length = ws.length ∧ ps.length = ws.length := by
  induction h with
  | nil => exact ⟨rfl, rfl⟩
  | cons _ _ ih => exact ⟨by simp [ih.1], by simp [ih.2]⟩
theorem Pts.comp {ws ss : List Str} {ps : List Dt} (h : Pts ws ss ps) : compL (bTup 2 (bCons (bName 0) (bCons (bName 1) bNil))) tYesD y46 [none, none] (zipL (ws.map .str) (ss.map .str)) = some ps := by
  induction h with
  | nil => rfl
  | @cons w s p ws ss ps h _ ih =>
    have e : y46 [some (.leaf (.str w)), some (.leaf (.str s))] = some p := by
      unfold y46
      walk_at "d"
      rw [part_ok h]
      rfl
    show ((some [some (T.leaf (.str w)), some (T.leaf (.str s))] : Option De).bind fun δ1 => (tYesD δ1).bind fun b => if b then (y46 δ1).bind fun y => (compL (bTup 2 (bCons (bName 0) (bCons (bName 1) bNil))) tYesD y46 [none, none] (zipL (ws.map .str) (ss.map .str))).bind fun ys => some (y :: ys) else _) = _
    simp only [Option.bind_some, tYesD, if_true, e, ih]
theorem Pts.none {ws ss : List Str} {ps : List Dt} (h : Pts ws ss ps) : ps.all flatD = true ∧ (ps.any fun y => eqF y .non) = false := by
  induction h with
  | nil => exact ⟨rfl, rfl⟩
  | cons h _ ih => exact ⟨by rw [List.all_cons, h.flat.1, ih.1]; rfl, by rw [List.any_cons, h.flat.2, ih.2]; rfl⟩
theorem filled_ok {k : Str} {ws ss : List Str} {ps : List Dt} (h : Pts ws ss ps) (hl : ws.length ≤ 10) : q46 [.str k, .tup (ws.map .str), .lst (ss.map .str)] = some (.leaf (.tup (.str k :: ps))) := by
  unfold q46
  have hlen := h.len
  have e0 : zipD [.tup (ws.map .str), .lst (ss.map .str)] = some (zipL (ws.map .str) (ss.map .str)) := rfl
  walk_at "d"
  rw [List.length_map, List.length_map, hlen.1]
  walk_at "d"
  rw [e0, Option.bind_some, h.comp, Option.bind_some, mkL_of (by rw [hlen.2]; omega)]
  walk_at "d"
  rw [gIn_l (by rw [h.none.1]; rfl), h.none.2]
  walk_at "d"
  rw [gAdd_ls (by simp [hlen.2]; omega)]
  walk_at "d"
noncomputable def Wd (s : Str) : Prop := (∀ c ∈ s.cps.toList, 33 ≤ c) ∧ s.length ≤ 20
theorem Nm.wd {x : Str} (h : Nm x) : Wd x := ⟨fun c hc => by have := (h.2.2 c hc).1; omega, by have := h.2.1; omega⟩
theorem num_wd {n : Int} (h : InR n) : Wd (num n) := ⟨fun c hc => by have := (num_digit h.1 c hc).1; omega, by have := (num_l h).2; omega⟩
theorem lab_wd {n : Int} (h0 : 0 ≤ n) (hn : n ≤ 100) : Wd (lab n) := ⟨fun c hc => by
  rw [lab_codes] at hc
  rcases List.mem_cons.mp hc with rfl | hc
  · decide
  · have := (num_digit h0 c hc).1; omega, by have := lab_len h0 hn; omega⟩
theorem Atm.wd {a : Dt} {s : Str} (h : Atm a s) : Wd s := by
  cases h with
  | nm h => exact h.wd
  | vl h => exact num_wd h
noncomputable def jn (w : List Str) : Str := Str.join ⟨#[32]⟩ w
theorem blank_code : Str.ofString " " = ⟨#[32]⟩ := by decide +kernel
theorem nl_code : Str.ofString "\n" = ⟨#[10]⟩ := by decide +kernel
theorem jn_len {w : List Str} (hw : ∀ s ∈ w, Wd s) : (jn w).length ≤ w.length * 21 := len_join (b := 20) fun s hs => (hw s hs).2
theorem split_jn {w : List Str} (h0 : w ≠ []) (h9 : w.length ≤ 9) (hw : ∀ s ∈ w, Wd s) : g_split (.str (jn w)) [.str (Str.ofString " ")] = some (.lst (w.map .str)) := by
  have hl := jn_len hw
  rw [blank_code]
  have e : Txt.split (jn w) ⟨#[32]⟩ = w := split_of 32 h0 fun s hs z => by have := (hw s hs).1 32 z; omega
  show (if ((⟨#[32]⟩ : Str).length == 0) = false ∧ (jn w).length + 2 ≤ sizeLine then some (T.lst ((Txt.split (jn w) ⟨#[32]⟩).map .str)) else none) = _
  rw [if_pos ⟨rfl, small (by omega)⟩, e]
theorem join_jn {w : List Str} (h9 : w.length ≤ 9) (hw : ∀ s ∈ w, Wd s) : g_join (.str (Str.ofString " ")) [.lst (w.map .str)] = some (.leaf (.str (jn w))) := by
  rw [blank_code]
  exact g_join_of (joinOk_of (b := 20) (n := 9) (fun s hs => (hw s hs).2) h9 (by decide))
theorem jn_free {w : List Str} (hw : ∀ s ∈ w, Wd s) : 10 ∉ (jn w).cps.toList := free_join (by decide) fun s hs z => by have := (hw s hs).1 10 z; omega
end P12
namespace P12
open PySem L2 PyProof.Rows
theorem lw_cell : lookZ k_WANTED c_WANTED (.inr (Str.ofString "cell")) = some (.tup [.str "name", .str "value"]) := by rfl
theorem lw_twin : lookZ k_WANTED c_WANTED (.inr (Str.ofString "twin")) = some (.tup [.str "name", .str "value"]) := by rfl
theorem lw_shelf : lookZ k_WANTED c_WANTED (.inr (Str.ofString "shelf")) = some (.tup [.str "name", .str "size"]) := by rfl
theorem lw_twins : lookZ k_WANTED c_WANTED (.inr (Str.ofString "twins")) = some (.tup [.str "name", .str "size"]) := by rfl
theorem lw_at : lookZ k_WANTED c_WANTED (.inr (Str.ofString "at")) = some (.tup [.str "label"]) := by rfl
theorem lw_load : lookZ k_WANTED c_WANTED (.inr (Str.ofString "load")) = some (.tup [.str "name", .str "name"]) := by rfl
theorem lw_store : lookZ k_WANTED c_WANTED (.inr (Str.ofString "store")) = some (.tup [.str "name", .str "atom"]) := by rfl
theorem lw_take : lookZ k_WANTED c_WANTED (.inr (Str.ofString "take")) = some (.tup [.str "name", .str "name", .str "atom"]) := by rfl
theorem lw_lay : lookZ k_WANTED c_WANTED (.inr (Str.ofString "lay")) = some (.tup [.str "name", .str "atom", .str "atom"]) := by rfl
theorem lw_hear : lookZ k_WANTED c_WANTED (.inr (Str.ofString "hear")) = some (.tup [.str "name"]) := by rfl
theorem lw_say : lookZ k_WANTED c_WANTED (.inr (Str.ofString "say")) = some (.tup [.str "atom"]) := by rfl
theorem lw_if : lookZ k_WANTED c_WANTED (.inr (Str.ofString "if")) = some (.tup [.str "atom", .str "label"]) := by rfl
theorem lw_go : lookZ k_WANTED c_WANTED (.inr (Str.ofString "go")) = some (.tup [.str "label"]) := by rfl
theorem lw_end : lookZ k_WANTED c_WANTED (.inr (Str.ofString "end")) = some (.tup [.str "atom"]) := by rfl
end P12
local macro_rules | `(tactic| walk_at "x") => `(tactic| simp -implicitDefEqProofs only [L2.runD_d, L2.finO_rt, L2.finO_nx, L2.sSeq_d, L2.thenO_nx, L2.thenO_rt, L2.sNil, L2.sSet, L2.sRet, L2.sRetV, L2.sIf_d, L2.condO_t, L2.condO_f, L2.kB_d, L2.kT_d, L2.sFor_d, L2.sDrop, L2.sAug, L2.sPut, L2.toT, L2.toD, L2.T.d, L2.kD, L2.vL, L2.vB, L2.d2, L2.tB2, L2.fTru, L2.fNot, L2.fAnd_d, L2.fOr_d, L2.vNot, L2.vAnd_d, L2.vIf_d, L2.aNil, L2.aCons, L2.vTup_d, L2.vLst_d, L2.mkL_of, L2.mkTp_of, L2.appL_of, L2.vCall, L2.vMeth, L2.vComp_d, L2.vSl, L2.oNone, L2.oSome, L2.vInst, L2.instD, L2.isIns, L2.vChain, L2.asBf, L2.vNeg, L2.fIt, L2.fRng, L2.bName, L2.dC, L2.tYesD, L2.gAdd_i, L2.atI_0, L2.atI_1, L2.atI_2, L2.atI_3, L2.atI_4, L2.atI_m1, L2.gAdd_ls, L2.gIn_l, L2.gIn_t, L2.flatD_s, L2.eqF_s, L2.eqF_i, List.all_cons, List.all_nil, List.any_cons, List.any_nil, L2.gSub_i, L2.gMul_l, L2.gMul_r, L2.gMod_i, L2.gPow_40, L2.gMod_w, L2.gCmp_i, L2.gEq_ii, L2.gEq_ss, L2.gEq_bb, L2.gNe_ii, L2.gNe_ss, L2.gIs_n, L2.isNon, L2.gIx_l, L2.gIx_t, L2.gIx_d, L2.gIn_d, L2.gLen_l, L2.gLen_t, L2.gInt_b, L2.gTuple_l, L2.itD_l, L2.itD_t, L2.itD_s, L2.truD_b, L2.asB_b, L2.asBl_b, L2.asI_i, L2.forD_nil, List.map_cons, List.map_nil, List.length_cons, List.length_nil, List.cons_append, List.nil_append, List.replicate, List.getElem?_cons_zero, List.getElem?_cons_succ, List.set_cons_zero, List.set_cons_succ, Option.bind_some, Option.bind_none, Option.map_some, Option.map_none, Option.join_some, Option.join_none, Nat.reduceAdd, Nat.reduceSub, Nat.reduceLeDiff, Int.reduceLT, Int.reduceEq, eq_self, Int.reduceNeg, Int.reduceLE, if_true, if_false, ite_true, ite_false, Bool.false_eq_true, decide_true, decide_false, Bool.not_true, Bool.not_false, Bool.and_true, Bool.true_and, Bool.or_true, Bool.true_or, Bool.or_false, Bool.false_or, Bool.and_false, Bool.false_and, String.reduceBEq, reduceCtorEq, L2.fSi, L2.gSi, L2.vSg, L2.gSg, L2.keyD, Option.isSome, P12.c_LEADING, P12.lw_cell, P12.lw_twin, P12.lw_shelf, P12.lw_twins, P12.lw_at, P12.lw_load, P12.lw_store, P12.lw_take, P12.lw_lay, P12.lw_hear, P12.lw_say, P12.lw_if, P12.lw_go, P12.lw_end, L2.ne_copy_op, L2.ne_copy_if, L2.ne_copy_go, L2.ne_op_copy, L2.ne_op_if, L2.ne_op_go, L2.ne_load_copy, L2.ne_load_op, L2.ne_load_if, L2.ne_load_go, L2.ne_store_copy, L2.ne_store_op, L2.ne_store_if, L2.ne_store_go, L2.ne_take_copy, L2.ne_take_op, L2.ne_take_if, L2.ne_take_go, L2.ne_lay_copy, L2.ne_lay_op, L2.ne_lay_if, L2.ne_lay_go, L2.ne_hear_copy, L2.ne_hear_op, L2.ne_hear_if, L2.ne_hear_go, L2.ne_say_copy, L2.ne_say_op, L2.ne_say_if, L2.ne_say_go, L2.ne_if_copy, L2.ne_if_op, L2.ne_if_load, L2.ne_if_store, L2.ne_if_take, L2.ne_if_lay, L2.ne_if_hear, L2.ne_if_say, L2.ne_if_go, L2.ne_if_end, L2.ne_go_copy, L2.ne_go_op, L2.ne_go_load, L2.ne_go_store, L2.ne_go_take, L2.ne_go_lay, L2.ne_go_hear, L2.ne_go_say, L2.ne_go_if, L2.ne_go_end, L2.ne_end_copy, L2.ne_end_op, L2.ne_end_if, L2.ne_end_go, L2.ns_pl_mi, L2.ns_pl_ti, L2.ns_pl_lt, L2.ns_pl_eq, L2.ns_pl_an, L2.ns_pl_or, L2.ns_pl_xo, L2.ns_mi_pl, L2.ns_mi_ti, L2.ns_mi_lt, L2.ns_mi_eq, L2.ns_mi_an, L2.ns_mi_or, L2.ns_mi_xo, L2.ns_ti_pl, L2.ns_ti_mi, L2.ns_ti_lt, L2.ns_ti_eq, L2.ns_ti_an, L2.ns_ti_or, L2.ns_ti_xo, L2.ns_lt_pl, L2.ns_lt_mi, L2.ns_lt_ti, L2.ns_lt_eq, L2.ns_lt_an, L2.ns_lt_or, L2.ns_lt_xo, L2.ns_eq_pl, L2.ns_eq_mi, L2.ns_eq_ti, L2.ns_eq_lt, L2.ns_eq_an, L2.ns_eq_or, L2.ns_eq_xo, L2.ns_an_pl, L2.ns_an_mi, L2.ns_an_ti, L2.ns_an_lt, L2.ns_an_eq, L2.ns_an_or, L2.ns_an_xo, L2.ns_or_pl, L2.ns_or_mi, L2.ns_or_ti, L2.ns_or_lt, L2.ns_or_eq, L2.ns_or_an, L2.ns_or_xo, L2.ns_xo_pl, L2.ns_xo_mi, L2.ns_xo_ti, L2.ns_xo_lt, L2.ns_xo_eq, L2.ns_xo_an, L2.ns_xo_or])
namespace P12
open PySem L2 PyProof.Rows
noncomputable def Sg (s : Str) : Prop := s = Str.ofString "+" ∨ s = Str.ofString "-" ∨ s = Str.ofString "*" ∨ s = Str.ofString "<" ∨ s = Str.ofString "=" ∨ s = Str.ofString "&" ∨ s = Str.ofString "|" ∨ s = Str.ofString "^"
theorem Sg.wd {s : Str} (h : Sg s) : Wd s := by
  rcases h with rfl | rfl | rfl | rfl | rfl | rfl | rfl | rfl <;> exact ⟨by decide +kernel, by decide +kernel⟩
theorem Sg.pt {s : Str} (h : Sg s) : Pt "sign" s (.str s) := .sign (by
  unfold c_SIGNS
  rcases h with rfl | rfl | rfl | rfl | rfl | rfl | rfl | rfl <;> (simp -implicitDefEqProofs only [L2.runD_d, L2.finO_rt, L2.finO_nx, L2.sSeq_d, L2.thenO_nx, L2.thenO_rt, L2.sNil, L2.sSet, L2.sRet, L2.sRetV, L2.sIf_d, L2.condO_t, L2.condO_f, L2.kB_d, L2.kT_d, L2.sFor_d, L2.sDrop, L2.sAug, L2.sPut, L2.toT, L2.toD, L2.T.d, L2.kD, L2.vL, L2.vB, L2.d2, L2.tB2, L2.fTru, L2.fNot, L2.fAnd_d, L2.fOr_d, L2.vNot, L2.vAnd_d, L2.vIf_d, L2.aNil, L2.aCons, L2.vTup_d, L2.vLst_d, L2.mkL_of, L2.mkTp_of, L2.appL_of, L2.vCall, L2.vMeth, L2.vComp_d, L2.vSl, L2.oNone, L2.oSome, L2.vInst, L2.instD, L2.isIns, L2.vChain, L2.asBf, L2.vNeg, L2.fIt, L2.fRng, L2.bName, L2.dC, L2.tYesD, L2.gAdd_i, L2.atI_0, L2.atI_1, L2.atI_2, L2.atI_3, L2.atI_4, L2.atI_m1, L2.gAdd_ls, L2.gIn_l, L2.gIn_t, L2.flatD_s, L2.eqF_s, L2.eqF_i, List.all_cons, List.all_nil, List.any_cons, List.any_nil, L2.gSub_i, L2.gMul_l, L2.gMul_r, L2.gMod_i, L2.gPow_40, L2.gMod_w, L2.gCmp_i, L2.gEq_ii, L2.gEq_ss, L2.gEq_bb, L2.gNe_ii, L2.gNe_ss, L2.gIs_n, L2.isNon, L2.gIx_l, L2.gIx_t, L2.gIx_d, L2.gIn_d, L2.gLen_l, L2.gLen_t, L2.gInt_b, L2.gTuple_l, L2.itD_l, L2.itD_t, L2.itD_s, L2.truD_b, L2.asB_b, L2.asBl_b, L2.asI_i, L2.forD_nil, List.map_cons, List.map_nil, List.length_cons, List.length_nil, List.cons_append, List.nil_append, List.replicate, List.getElem?_cons_zero, List.getElem?_cons_succ, List.set_cons_zero, List.set_cons_succ, Option.bind_some, Option.bind_none, Option.map_some, Option.map_none, Option.join_some, Option.join_none, Nat.reduceAdd, Nat.reduceSub, Nat.reduceLeDiff, Int.reduceLT, Int.reduceEq, eq_self, Int.reduceNeg, Int.reduceLE, if_true, if_false, ite_true, ite_false, Bool.false_eq_true, decide_true, decide_false, Bool.not_true, Bool.not_false, Bool.and_true, Bool.true_and, Bool.or_true, Bool.true_or, Bool.or_false, Bool.false_or, Bool.and_false, Bool.false_and, String.reduceBEq, reduceCtorEq, L2.ne_copy_op, L2.ne_copy_if, L2.ne_copy_go, L2.ne_op_copy, L2.ne_op_if, L2.ne_op_go, L2.ne_load_copy, L2.ne_load_op, L2.ne_load_if, L2.ne_load_go, L2.ne_store_copy, L2.ne_store_op, L2.ne_store_if, L2.ne_store_go, L2.ne_take_copy, L2.ne_take_op, L2.ne_take_if, L2.ne_take_go, L2.ne_lay_copy, L2.ne_lay_op, L2.ne_lay_if, L2.ne_lay_go, L2.ne_hear_copy, L2.ne_hear_op, L2.ne_hear_if, L2.ne_hear_go, L2.ne_say_copy, L2.ne_say_op, L2.ne_say_if, L2.ne_say_go, L2.ne_if_copy, L2.ne_if_op, L2.ne_if_load, L2.ne_if_store, L2.ne_if_take, L2.ne_if_lay, L2.ne_if_hear, L2.ne_if_say, L2.ne_if_go, L2.ne_if_end, L2.ne_go_copy, L2.ne_go_op, L2.ne_go_load, L2.ne_go_store, L2.ne_go_take, L2.ne_go_lay, L2.ne_go_hear, L2.ne_go_say, L2.ne_go_if, L2.ne_go_end, L2.ne_end_copy, L2.ne_end_op, L2.ne_end_if, L2.ne_end_go, L2.ns_pl_mi, L2.ns_pl_ti, L2.ns_pl_lt, L2.ns_pl_eq, L2.ns_pl_an, L2.ns_pl_or, L2.ns_pl_xo, L2.ns_mi_pl, L2.ns_mi_ti, L2.ns_mi_lt, L2.ns_mi_eq, L2.ns_mi_an, L2.ns_mi_or, L2.ns_mi_xo, L2.ns_ti_pl, L2.ns_ti_mi, L2.ns_ti_lt, L2.ns_ti_eq, L2.ns_ti_an, L2.ns_ti_or, L2.ns_ti_xo, L2.ns_lt_pl, L2.ns_lt_mi, L2.ns_lt_ti, L2.ns_lt_eq, L2.ns_lt_an, L2.ns_lt_or, L2.ns_lt_xo, L2.ns_eq_pl, L2.ns_eq_mi, L2.ns_eq_ti, L2.ns_eq_lt, L2.ns_eq_an, L2.ns_eq_or, L2.ns_eq_xo, L2.ns_an_pl, L2.ns_an_mi, L2.ns_an_ti, L2.ns_an_lt, L2.ns_an_eq, L2.ns_an_or, L2.ns_an_xo, L2.ns_or_pl, L2.ns_or_mi, L2.ns_or_ti, L2.ns_or_lt, L2.ns_or_eq, L2.ns_or_an, L2.ns_or_xo, L2.ns_xo_pl, L2.ns_xo_mi, L2.ns_xo_ti, L2.ns_xo_lt, L2.ns_xo_eq, L2.ns_xo_an, L2.ns_xo_or]))
theorem str_str (x : Str) : gStrA [.str x] = some (.leaf (.str x)) := rfl
inductive Rw : Dt → List Str → Dt → Prop
  | copy {x1 : Str} {a2 : Dt} {s2 : Str} : Nm x1 → Atm a2 s2 → Rw (.tup [.str "copy", .str x1, a2]) [x1, "=", s2] (.tup [.str "copy", .str x1, a2])
  | op {x1 : Str} {x2 : Str} {a3 : Dt} {s3 : Str} {a4 : Dt} {s4 : Str} : Nm x1 → Sg x2 → Atm a3 s3 → Atm a4 s4 → Rw (.tup [.str "op", .str x1, .str x2, a3, a4]) [x1, "=", s3, x2, s4] (.tup [.str "op", .str x1, .str x2, a3, a4])
  | load {x1 : Str} {x2 : Str} : Nm x1 → Nm x2 → Rw (.tup [.str "load", .str x1, .str x2]) ["load", x1, x2] (.tup [.str "load", .str x1, .str x2])
  | store {x1 : Str} {a2 : Dt} {s2 : Str} : Nm x1 → Atm a2 s2 → Rw (.tup [.str "store", .str x1, a2]) ["store", x1, s2] (.tup [.str "store", .str x1, a2])
  | take {x1 : Str} {x2 : Str} {a3 : Dt} {s3 : Str} : Nm x1 → Nm x2 → Atm a3 s3 → Rw (.tup [.str "take", .str x1, .str x2, a3]) ["take", x1, x2, s3] (.tup [.str "take", .str x1, .str x2, a3])
  | lay {x1 : Str} {a2 : Dt} {s2 : Str} {a3 : Dt} {s3 : Str} : Nm x1 → Atm a2 s2 → Atm a3 s3 → Rw (.tup [.str "lay", .str x1, a2, a3]) ["lay", x1, s2, s3] (.tup [.str "lay", .str x1, a2, a3])
  | hear {x1 : Str} : Nm x1 → Rw (.tup [.str "hear", .str x1]) ["hear", x1] (.tup [.str "hear", .str x1])
  | say {a1 : Dt} {s1 : Str} : Atm a1 s1 → Rw (.tup [.str "say", a1]) ["say", s1] (.tup [.str "say", a1])
  | iff {a1 : Dt} {s1 : Str} {g2 : Int} : Atm a1 s1 → 0 ≤ g2 → g2 ≤ 100 → Rw (.tup [.str "if", a1, .int g2]) ["if", s1, lab g2] (.tup [.str "if", a1, .str (lab g2)])
  | go {g1 : Int} : 0 ≤ g1 → g1 ≤ 100 → Rw (.tup [.str "go", .int g1]) ["go", lab g1] (.tup [.str "go", .str (lab g1)])
  | fin {a1 : Dt} {s1 : Str} : Atm a1 s1 → Rw (.tup [.str "end", a1]) ["end", s1] (.tup [.str "end", a1])
inductive Strs : List Dt → List Str → Prop
  | nil : Strs [] []
  | cons {d : Dt} {s : Str} {ds : List Dt} {ss : List Str} : gStrA [d] = some (.leaf (.str s)) → Strs ds ss → Strs (d :: ds) (s :: ss)
theorem Strs.comp {ds : List Dt} {ss : List Str} (h : Strs ds ss) : compL (bName 0) tYesD y40 [none] ds = some (ss.map .str) := by
  induction h with
  | nil => rfl
  | @cons d s ds ss h _ ih =>
    have e : y40 [some (.leaf d)] = some (.str s) := by
      unfold y40
      walk_at "d"
      rw [h]
      rfl
    show ((some [some (T.leaf d)] : Option De).bind fun δ1 => (tYesD δ1).bind fun b => if b then (y40 δ1).bind fun y => (compL (bName 0) tYesD y40 [none] ds).bind fun ys => some (y :: ys) else _) = _
    simp only [Option.bind_some, tYesD, if_true, e, ih]
    rfl
theorem Strs.comp2 {ds : List Dt} {ss : List Str} (h : Strs ds ss) : compL (bName 0) tYesD z95 [none] ds = some (ss.map .str) := h.comp
theorem label_of_ok {n : Int} (h : InR n) : z34 [.int n] = some (.leaf (.str (lab n))) := by
  unfold z34
  have hl := num_l h
  have e : glue Str.empty [pfC (Str.ofString "r"), pfV (vB 0)] [some (T.leaf (Dt.int n))] = some (lab n) := by
    have e2 : (pfV (vB 0)) [some (T.leaf (Dt.int n))] = some (num n) := by
      show fmtD (.int n) = _
      exact if_pos (log_ok h)
    have hr : (Str.ofString "r").length = 1 := by decide +kernel
    have h0 : Str.empty.length = 0 := rfl
    have he : Str.empty ++ Str.ofString "r" = Str.ofString "r" := str_ext (by rw [cps_app]; rfl)
    have hlab : Str.ofString "r" ++ num n = lab n := rfl
    have hll : (lab n).length ≤ 20 := by rw [len_cps, lab_codes, List.length_cons, ← len_cps]; omega
    simp only [glue, pfC, e2, Option.bind_some, he, hlab]
    rw [if_pos (small (by omega)), if_pos (small (by omega)), if_pos (small (by omega))]
  walk_at "d"
  rw [show vFstr [pfC (Str.ofString "r"), pfV (vB 0)] [some (T.leaf (Dt.int n))] = some (.leaf (.str (lab n))) by unfold vFstr; rw [e]; rfl]
  walk_at "d"
theorem cut1 (d : Dt) (ds : List Dt) : gSl (.tup (d :: ds)) (some 1) none = some (.leaf (.tup ds)) := by
  have e1 : HT.sIx (d :: ds).length 0 (some (1 : Int)) = 1 := by
    rw [show (1 : Int) = ((1 : Nat) : Int) from rfl, HT.sIx_nat]
    simp
  show (if HT.sIx (d :: ds).length 0 (some 1) = 0 ∧ HT.sIx (d :: ds).length (d :: ds).length none = (d :: ds).length then none else some (T.leaf (.tup (L2.cutD (d :: ds) (some 1) none)))) = _
  rw [if_neg (fun z => by rw [e1] at z; exact absurd z.1 (by decide))]
  unfold L2.cutD
  rw [e1, HT.sIx_none]
  simp
theorem words_ok {r : Dt} {w : List Str} {p : Dt} (h : Rw r w p) : y57 [r] = some (.lst (w.map .str)) := by
  unfold y57
  cases h with
  | @copy x1 a2 s2 h1 h2 =>
    have e := Strs.comp (show Strs [.str x1, a2] [x1, s2] from (.cons (str_str _) (.cons (str_ok h2) .nil)))
    walk_at "x"
    rw [cut1]
    walk_at "x"
    rw [e, Option.bind_some, mkL_of (by simp)]
    walk_at "x"
  | @op x1 x2 a3 s3 a4 s4 h1 h2 h3 h4 =>
    have e := Strs.comp (show Strs [.str x1, .str x2, a3, a4] [x1, x2, s3, s4] from (.cons (str_str _) (.cons (str_str _) (.cons (str_ok h3) (.cons (str_ok h4) .nil)))))
    walk_at "x"
    rw [cut1]
    walk_at "x"
    rw [e, Option.bind_some, mkL_of (by simp)]
    walk_at "x"
  | @load x1 x2 h1 h2 =>
    have e := Strs.comp (show Strs [.str x1, .str x2] [x1, x2] from (.cons (str_str _) (.cons (str_str _) .nil)))
    walk_at "x"
    rw [cut1]
    walk_at "x"
    rw [e, Option.bind_some, mkL_of (by simp)]
    walk_at "x"
  | @store x1 a2 s2 h1 h2 =>
    have e := Strs.comp (show Strs [.str x1, a2] [x1, s2] from (.cons (str_str _) (.cons (str_ok h2) .nil)))
    walk_at "x"
    rw [cut1]
    walk_at "x"
    rw [e, Option.bind_some, mkL_of (by simp)]
    walk_at "x"
  | @take x1 x2 a3 s3 h1 h2 h3 =>
    have e := Strs.comp (show Strs [.str x1, .str x2, a3] [x1, x2, s3] from (.cons (str_str _) (.cons (str_str _) (.cons (str_ok h3) .nil))))
    walk_at "x"
    rw [cut1]
    walk_at "x"
    rw [e, Option.bind_some, mkL_of (by simp)]
    walk_at "x"
  | @lay x1 a2 s2 a3 s3 h1 h2 h3 =>
    have e := Strs.comp (show Strs [.str x1, a2, a3] [x1, s2, s3] from (.cons (str_str _) (.cons (str_ok h2) (.cons (str_ok h3) .nil))))
    walk_at "x"
    rw [cut1]
    walk_at "x"
    rw [e, Option.bind_some, mkL_of (by simp)]
    walk_at "x"
  | @hear x1 h1 =>
    have e := Strs.comp (show Strs [.str x1] [x1] from (.cons (str_str _) .nil))
    walk_at "x"
    rw [cut1]
    walk_at "x"
    rw [e, Option.bind_some, mkL_of (by simp)]
    walk_at "x"
  | @say a1 s1 h1 =>
    have e := Strs.comp (show Strs [a1] [s1] from (.cons (str_ok h1) .nil))
    walk_at "x"
    rw [cut1]
    walk_at "x"
    rw [e, Option.bind_some, mkL_of (by simp)]
    walk_at "x"
  | @iff a1 s1 g2 h1 l2 u2 =>
    have e := Strs.comp (show Strs [a1, .int g2] [s1, num g2] from (.cons (str_ok h1) (.cons (str_num ⟨l2, by omega⟩) .nil)))
    walk_at "x"
    rw [cut1]
    walk_at "x"
    rw [e, Option.bind_some, mkL_of (by simp)]
    walk_at "x"
    rw [show gSl (Dt.lst [Dt.str s1, Dt.str (num g2)]) none (some (-1)) = some (.lst [.str s1]) from rfl]
    walk_at "x"
    rw [label_of_ok ⟨l2, by omega⟩]
    walk_at "x"
  | @go g1 l1 u1 =>
    have e := Strs.comp (show Strs [.int g1] [num g1] from (.cons (str_num ⟨l1, by omega⟩) .nil))
    walk_at "x"
    rw [cut1]
    walk_at "x"
    rw [e, Option.bind_some, mkL_of (by simp)]
    walk_at "x"
    rw [show gSl (Dt.lst [Dt.str (num g1)]) none (some (-1)) = some (.lst []) from rfl]
    walk_at "x"
    rw [label_of_ok ⟨l1, by omega⟩]
    walk_at "x"
  | @fin a1 s1 h1 =>
    have e := Strs.comp (show Strs [a1] [s1] from (.cons (str_ok h1) .nil))
    walk_at "x"
    rw [cut1]
    walk_at "x"
    rw [e, Option.bind_some, mkL_of (by simp)]
    walk_at "x"
end P12
namespace P12
open PySem L2 PyProof.Rows
theorem eq_wd : Wd (Str.ofString "=") := ⟨by decide +kernel, by decide +kernel⟩
theorem wd_cell : Wd (Str.ofString "cell") := ⟨by decide +kernel, by decide +kernel⟩
theorem wd_twin : Wd (Str.ofString "twin") := ⟨by decide +kernel, by decide +kernel⟩
theorem wd_shelf : Wd (Str.ofString "shelf") := ⟨by decide +kernel, by decide +kernel⟩
theorem wd_twins : Wd (Str.ofString "twins") := ⟨by decide +kernel, by decide +kernel⟩
theorem wd_at : Wd (Str.ofString "at") := ⟨by decide +kernel, by decide +kernel⟩
theorem wd_load : Wd (Str.ofString "load") := ⟨by decide +kernel, by decide +kernel⟩
theorem wd_store : Wd (Str.ofString "store") := ⟨by decide +kernel, by decide +kernel⟩
theorem wd_take : Wd (Str.ofString "take") := ⟨by decide +kernel, by decide +kernel⟩
theorem wd_lay : Wd (Str.ofString "lay") := ⟨by decide +kernel, by decide +kernel⟩
theorem wd_hear : Wd (Str.ofString "hear") := ⟨by decide +kernel, by decide +kernel⟩
theorem wd_say : Wd (Str.ofString "say") := ⟨by decide +kernel, by decide +kernel⟩
theorem wd_if : Wd (Str.ofString "if") := ⟨by decide +kernel, by decide +kernel⟩
theorem wd_go : Wd (Str.ofString "go") := ⟨by decide +kernel, by decide +kernel⟩
theorem wd_end : Wd (Str.ofString "end") := ⟨by decide +kernel, by decide +kernel⟩
theorem mem2 {P : Str → Prop} : ∀ {l : List Str}, (∀ s ∈ l, P s) → ∀ {x : Str}, P x → ∀ s ∈ x :: l, P s := fun h _ hx s hs => by
  rcases List.mem_cons.mp hs with rfl | hs
  · exact hx
  · exact h s hs
theorem memN {P : Str → Prop} : ∀ s ∈ ([] : List Str), P s := fun _ h => nomatch h
theorem Rw.wd {r : Dt} {w : List Str} {p : Dt} (h : Rw r w p) : (∀ s ∈ w, Wd s) ∧ w ≠ [] ∧ w.length ≤ 9 := by
  cases h with
  | @copy x1 a2 s2 h1 h2 => exact ⟨(mem2 (mem2 (mem2 memN h2.wd) eq_wd) h1.wd), by simp, by simp⟩
  | @op x1 x2 a3 s3 a4 s4 h1 h2 h3 h4 => exact ⟨(mem2 (mem2 (mem2 (mem2 (mem2 memN h4.wd) h2.wd) h3.wd) eq_wd) h1.wd), by simp, by simp⟩
  | @load x1 x2 h1 h2 => exact ⟨(mem2 (mem2 (mem2 memN h2.wd) h1.wd) wd_load), by simp, by simp⟩
  | @store x1 a2 s2 h1 h2 => exact ⟨(mem2 (mem2 (mem2 memN h2.wd) h1.wd) wd_store), by simp, by simp⟩
  | @take x1 x2 a3 s3 h1 h2 h3 => exact ⟨(mem2 (mem2 (mem2 (mem2 memN h3.wd) h2.wd) h1.wd) wd_take), by simp, by simp⟩
  | @lay x1 a2 s2 a3 s3 h1 h2 h3 => exact ⟨(mem2 (mem2 (mem2 (mem2 memN h3.wd) h2.wd) h1.wd) wd_lay), by simp, by simp⟩
  | @hear x1 h1 => exact ⟨(mem2 (mem2 memN h1.wd) wd_hear), by simp, by simp⟩
  | @say a1 s1 h1 => exact ⟨(mem2 (mem2 memN h1.wd) wd_say), by simp, by simp⟩
  | @iff a1 s1 g2 h1 l2 u2 => exact ⟨(mem2 (mem2 (mem2 memN (lab_wd l2 u2)) h1.wd) wd_if), by simp, by simp⟩
  | @go g1 l1 u1 => exact ⟨(mem2 (mem2 memN (lab_wd l1 u1)) wd_go), by simp, by simp⟩
  | @fin a1 s1 h1 => exact ⟨(mem2 (mem2 memN h1.wd) wd_end), by simp, by simp⟩
theorem line_law {r : Dt} {w : List Str} {p : Dt} (h : Rw r w p) : q52 [r] = some (.leaf (.str (jn w))) := by
  have hw := h.wd
  have hj := join_jn hw.2.2 hw.1
  unfold q52
  cases h with
  | @copy x1 a2 s2 h1 h2 =>
    have e := Strs.comp2 (show Strs [.str "copy", .str x1, a2] ["copy", x1, s2] from (.cons (str_str _) (.cons (str_str _) (.cons (str_ok h2) .nil))))
    walk_at "x"
    rw [e, Option.bind_some, mkL_of (by simp)]
    walk_at "x"
    rw [str_ok h2]
    walk_at "x"
    exact (congrArg (fun z => finO (Option.map Out.rt z)) hj).trans rfl
  | @op x1 x2 a3 s3 a4 s4 h1 h2 h3 h4 =>
    have e := Strs.comp2 (show Strs [.str "op", .str x1, .str x2, a3, a4] ["op", x1, x2, s3, s4] from (.cons (str_str _) (.cons (str_str _) (.cons (str_str _) (.cons (str_ok h3) (.cons (str_ok h4) .nil))))))
    walk_at "x"
    rw [e, Option.bind_some, mkL_of (by simp)]
    walk_at "x"
    rw [str_ok h3]
    walk_at "x"
    rw [str_ok h4]
    walk_at "x"
    exact (congrArg (fun z => finO (Option.map Out.rt z)) hj).trans rfl
  | @load x1 x2 h1 h2 =>
    have e := Strs.comp2 (show Strs [.str "load", .str x1, .str x2] ["load", x1, x2] from (.cons (str_str _) (.cons (str_str _) (.cons (str_str _) .nil))))
    walk_at "x"
    rw [e, Option.bind_some, mkL_of (by simp)]
    walk_at "x"
    exact (congrArg (fun z => finO (Option.map Out.rt z)) hj).trans rfl
  | @store x1 a2 s2 h1 h2 =>
    have e := Strs.comp2 (show Strs [.str "store", .str x1, a2] ["store", x1, s2] from (.cons (str_str _) (.cons (str_str _) (.cons (str_ok h2) .nil))))
    walk_at "x"
    rw [e, Option.bind_some, mkL_of (by simp)]
    walk_at "x"
    exact (congrArg (fun z => finO (Option.map Out.rt z)) hj).trans rfl
  | @take x1 x2 a3 s3 h1 h2 h3 =>
    have e := Strs.comp2 (show Strs [.str "take", .str x1, .str x2, a3] ["take", x1, x2, s3] from (.cons (str_str _) (.cons (str_str _) (.cons (str_str _) (.cons (str_ok h3) .nil)))))
    walk_at "x"
    rw [e, Option.bind_some, mkL_of (by simp)]
    walk_at "x"
    exact (congrArg (fun z => finO (Option.map Out.rt z)) hj).trans rfl
  | @lay x1 a2 s2 a3 s3 h1 h2 h3 =>
    have e := Strs.comp2 (show Strs [.str "lay", .str x1, a2, a3] ["lay", x1, s2, s3] from (.cons (str_str _) (.cons (str_str _) (.cons (str_ok h2) (.cons (str_ok h3) .nil)))))
    walk_at "x"
    rw [e, Option.bind_some, mkL_of (by simp)]
    walk_at "x"
    exact (congrArg (fun z => finO (Option.map Out.rt z)) hj).trans rfl
  | @hear x1 h1 =>
    have e := Strs.comp2 (show Strs [.str "hear", .str x1] ["hear", x1] from (.cons (str_str _) (.cons (str_str _) .nil)))
    walk_at "x"
    rw [e, Option.bind_some, mkL_of (by simp)]
    walk_at "x"
    exact (congrArg (fun z => finO (Option.map Out.rt z)) hj).trans rfl
  | @say a1 s1 h1 =>
    have e := Strs.comp2 (show Strs [.str "say", a1] ["say", s1] from (.cons (str_str _) (.cons (str_ok h1) .nil)))
    walk_at "x"
    rw [e, Option.bind_some, mkL_of (by simp)]
    walk_at "x"
    exact (congrArg (fun z => finO (Option.map Out.rt z)) hj).trans rfl
  | @iff a1 s1 g2 h1 l2 u2 =>
    have e := Strs.comp2 (show Strs [.str "if", a1, .int g2] ["if", s1, num g2] from (.cons (str_str _) (.cons (str_ok h1) (.cons (str_num ⟨l2, by omega⟩) .nil))))
    walk_at "x"
    rw [e, Option.bind_some, mkL_of (by simp)]
    walk_at "x"
    rw [show gAdd (.str (Str.ofString "r")) (.str (num g2)) = some (.leaf (.str (lab g2))) from gAdd_s (small (by have := num_small l2 u2; have : (Str.ofString "r").length = 1 := (by decide +kernel); omega)), show ixN 3 (-1) = some 2 from rfl]
    walk_at "x"
    exact (congrArg (fun z => finO (Option.map Out.rt z)) hj).trans rfl
  | @go g1 l1 u1 =>
    have e := Strs.comp2 (show Strs [.str "go", .int g1] ["go", num g1] from (.cons (str_str _) (.cons (str_num ⟨l1, by omega⟩) .nil)))
    walk_at "x"
    rw [e, Option.bind_some, mkL_of (by simp)]
    walk_at "x"
    rw [show gAdd (.str (Str.ofString "r")) (.str (num g1)) = some (.leaf (.str (lab g1))) from gAdd_s (small (by have := num_small l1 u1; have : (Str.ofString "r").length = 1 := (by decide +kernel); omega)), show ixN 2 (-1) = some 1 from rfl]
    walk_at "x"
    exact (congrArg (fun z => finO (Option.map Out.rt z)) hj).trans rfl
  | @fin a1 s1 h1 =>
    have e := Strs.comp2 (show Strs [.str "end", a1] ["end", s1] from (.cons (str_str _) (.cons (str_ok h1) .nil)))
    walk_at "x"
    rw [e, Option.bind_some, mkL_of (by simp)]
    walk_at "x"
    exact (congrArg (fun z => finO (Option.map Out.rt z)) hj).trans rfl
theorem Nm.ne {x : Str} (h : Nm x) : x ≠ Str.ofString "=" := fun z => by
  subst z
  have := (h.2.2 61 (by decide +kernel)).1
  omega
theorem num_ne61 {n : Int} (h : InR n) : num n ≠ Str.ofString "=" := fun z => by
  have := (num_digit h.1 61 (by rw [show Str.ofString (toString n) = num n from rfl, z]; decide +kernel)).2
  omega
theorem Atm.ne {a : Dt} {s : Str} (h : Atm a s) : s ≠ Str.ofString "=" := by
  cases h with
  | nm h => exact h.ne
  | vl h => exact num_ne61 h
theorem lab_ne (n : Int) : lab n ≠ Str.ofString "=" := fun z => by
  have e := lab_codes n
  rw [z, show (Str.ofString "=").cps.toList = [61] by decide +kernel, List.cons.injEq] at e
  omega
theorem parse {r : Dt} {w : List Str} {p : Dt} (h : Rw r w p) : q29 [.str (jn w)] = some (.leaf p) := by
  have hw := h.wd
  have hj := split_jn hw.2.1 hw.2.2 hw.1
  unfold q29
  cases h with
  | @copy x1 a2 s2 h1 h2 =>
    have e := filled_ok (k := "copy") (show Pts ["name", "atom"] [x1, s2] [.str x1, a2] from (.cons (.name h1) (.cons (.atom h2) .nil))) (by simp)
    walk_at "x"
    rw [hj]
    walk_at "x"
    rw [show decide ((1 : Int) < ((3 : Nat) : Int)) = true from rfl]
    walk_at "x"
    have e2 : y31 [.lst [.str (x1), .str (Str.ofString "="), .str (s2)]] = some (.leaf (.tup [.str "copy", .str x1, a2])) := by
      unfold y31
      walk_at "x"
      exact (congrArg (fun z => finO (thenO (Option.map Out.rt z) _)) e).trans rfl
    rw [e2]
    walk_at "x"
  | @op x1 x2 a3 s3 a4 s4 h1 h2 h3 h4 =>
    have e := filled_ok (k := "op") (show Pts ["name", "sign", "atom", "atom"] [x1, x2, s3, s4] [.str x1, .str x2, a3, a4] from (.cons (.name h1) (.cons h2.pt (.cons (.atom h3) (.cons (.atom h4) .nil))))) (by simp)
    walk_at "x"
    rw [hj]
    walk_at "x"
    rw [show decide ((1 : Int) < ((5 : Nat) : Int)) = true from rfl]
    walk_at "x"
    have e2 : y31 [.lst [.str (x1), .str (Str.ofString "="), .str (s3), .str (x2), .str (s4)]] = some (.leaf (.tup [.str "op", .str x1, .str x2, a3, a4])) := by
      unfold y31
      walk_at "x"
      exact (congrArg (fun z => finO (thenO (Option.map Out.rt z) _)) e).trans rfl
    rw [e2]
    walk_at "x"
  | @load x1 x2 h1 h2 =>
    have e := filled_ok (k := "load") (show Pts ["name", "name"] [x1, x2] [.str x1, .str x2] from (.cons (.name h1) (.cons (.name h2) .nil))) (by simp)
    walk_at "x"
    rw [hj]
    walk_at "x"
    rw [show decide ((1 : Int) < ((3 : Nat) : Int)) = true from rfl]
    walk_at "x"
    rw [condO_n (by simpa using h1.ne)]
    walk_at "x"
    rw [show gSl (Dt.lst [Dt.str (Str.ofString "load"), Dt.str (x1), Dt.str (x2)]) (some 1) none = some (.lst [Dt.str (x1), Dt.str (x2)]) from rfl]
    walk_at "x"
    exact (congrArg (fun z => finO (Option.map Out.rt z)) e).trans rfl
  | @store x1 a2 s2 h1 h2 =>
    have e := filled_ok (k := "store") (show Pts ["name", "atom"] [x1, s2] [.str x1, a2] from (.cons (.name h1) (.cons (.atom h2) .nil))) (by simp)
    walk_at "x"
    rw [hj]
    walk_at "x"
    rw [show decide ((1 : Int) < ((3 : Nat) : Int)) = true from rfl]
    walk_at "x"
    rw [condO_n (by simpa using h1.ne)]
    walk_at "x"
    rw [show gSl (Dt.lst [Dt.str (Str.ofString "store"), Dt.str (x1), Dt.str (s2)]) (some 1) none = some (.lst [Dt.str (x1), Dt.str (s2)]) from rfl]
    walk_at "x"
    exact (congrArg (fun z => finO (Option.map Out.rt z)) e).trans rfl
  | @take x1 x2 a3 s3 h1 h2 h3 =>
    have e := filled_ok (k := "take") (show Pts ["name", "name", "atom"] [x1, x2, s3] [.str x1, .str x2, a3] from (.cons (.name h1) (.cons (.name h2) (.cons (.atom h3) .nil)))) (by simp)
    walk_at "x"
    rw [hj]
    walk_at "x"
    rw [show decide ((1 : Int) < ((4 : Nat) : Int)) = true from rfl]
    walk_at "x"
    rw [condO_n (by simpa using h1.ne)]
    walk_at "x"
    rw [show gSl (Dt.lst [Dt.str (Str.ofString "take"), Dt.str (x1), Dt.str (x2), Dt.str (s3)]) (some 1) none = some (.lst [Dt.str (x1), Dt.str (x2), Dt.str (s3)]) from rfl]
    walk_at "x"
    exact (congrArg (fun z => finO (Option.map Out.rt z)) e).trans rfl
  | @lay x1 a2 s2 a3 s3 h1 h2 h3 =>
    have e := filled_ok (k := "lay") (show Pts ["name", "atom", "atom"] [x1, s2, s3] [.str x1, a2, a3] from (.cons (.name h1) (.cons (.atom h2) (.cons (.atom h3) .nil)))) (by simp)
    walk_at "x"
    rw [hj]
    walk_at "x"
    rw [show decide ((1 : Int) < ((4 : Nat) : Int)) = true from rfl]
    walk_at "x"
    rw [condO_n (by simpa using h1.ne)]
    walk_at "x"
    rw [show gSl (Dt.lst [Dt.str (Str.ofString "lay"), Dt.str (x1), Dt.str (s2), Dt.str (s3)]) (some 1) none = some (.lst [Dt.str (x1), Dt.str (s2), Dt.str (s3)]) from rfl]
    walk_at "x"
    exact (congrArg (fun z => finO (Option.map Out.rt z)) e).trans rfl
  | @hear x1 h1 =>
    have e := filled_ok (k := "hear") (show Pts ["name"] [x1] [.str x1] from (.cons (.name h1) .nil)) (by simp)
    walk_at "x"
    rw [hj]
    walk_at "x"
    rw [show decide ((1 : Int) < ((2 : Nat) : Int)) = true from rfl]
    walk_at "x"
    rw [condO_n (by simpa using h1.ne)]
    walk_at "x"
    rw [show gSl (Dt.lst [Dt.str (Str.ofString "hear"), Dt.str (x1)]) (some 1) none = some (.lst [Dt.str (x1)]) from rfl]
    walk_at "x"
    exact (congrArg (fun z => finO (Option.map Out.rt z)) e).trans rfl
  | @say a1 s1 h1 =>
    have e := filled_ok (k := "say") (show Pts ["atom"] [s1] [a1] from (.cons (.atom h1) .nil)) (by simp)
    walk_at "x"
    rw [hj]
    walk_at "x"
    rw [show decide ((1 : Int) < ((2 : Nat) : Int)) = true from rfl]
    walk_at "x"
    rw [condO_n (by simpa using h1.ne)]
    walk_at "x"
    rw [show gSl (Dt.lst [Dt.str (Str.ofString "say"), Dt.str (s1)]) (some 1) none = some (.lst [Dt.str (s1)]) from rfl]
    walk_at "x"
    exact (congrArg (fun z => finO (Option.map Out.rt z)) e).trans rfl
  | @iff a1 s1 g2 h1 l2 u2 =>
    have e := filled_ok (k := "if") (show Pts ["atom", "label"] [s1, lab g2] [a1, .str (lab g2)] from (.cons (.atom h1) (.cons (.label l2 u2) .nil))) (by simp)
    walk_at "x"
    rw [hj]
    walk_at "x"
    rw [show decide ((1 : Int) < ((3 : Nat) : Int)) = true from rfl]
    walk_at "x"
    rw [condO_n (by simpa using h1.ne)]
    walk_at "x"
    rw [show gSl (Dt.lst [Dt.str (Str.ofString "if"), Dt.str (s1), Dt.str (lab g2)]) (some 1) none = some (.lst [Dt.str (s1), Dt.str (lab g2)]) from rfl]
    walk_at "x"
    exact (congrArg (fun z => finO (Option.map Out.rt z)) e).trans rfl
  | @go g1 l1 u1 =>
    have e := filled_ok (k := "go") (show Pts ["label"] [lab g1] [.str (lab g1)] from (.cons (.label l1 u1) .nil)) (by simp)
    walk_at "x"
    rw [hj]
    walk_at "x"
    rw [show decide ((1 : Int) < ((2 : Nat) : Int)) = true from rfl]
    walk_at "x"
    rw [condO_n (by simpa using (lab_ne _))]
    walk_at "x"
    rw [show gSl (Dt.lst [Dt.str (Str.ofString "go"), Dt.str (lab g1)]) (some 1) none = some (.lst [Dt.str (lab g1)]) from rfl]
    walk_at "x"
    exact (congrArg (fun z => finO (Option.map Out.rt z)) e).trans rfl
  | @fin a1 s1 h1 =>
    have e := filled_ok (k := "end") (show Pts ["atom"] [s1] [a1] from (.cons (.atom h1) .nil)) (by simp)
    walk_at "x"
    rw [hj]
    walk_at "x"
    rw [show decide ((1 : Int) < ((2 : Nat) : Int)) = true from rfl]
    walk_at "x"
    rw [condO_n (by simpa using h1.ne)]
    walk_at "x"
    rw [show gSl (Dt.lst [Dt.str (Str.ofString "end"), Dt.str (s1)]) (some 1) none = some (.lst [Dt.str (s1)]) from rfl]
    walk_at "x"
    exact (congrArg (fun z => finO (Option.map Out.rt z)) e).trans rfl
inductive Hd : Str → List Str → Dt → Prop
  | cell {x : Str} {n : Int} : Nm x → InR n → Hd "cell" ["cell", x, num n] (.tup [.str "cell", .str x, .int n])
  | twin {x : Str} {n : Int} : Nm x → InR n → Hd "twin" ["twin", x, num n] (.tup [.str "twin", .str x, .int n])
  | shelf {x : Str} {n : Int} : Nm x → 1 ≤ n → n ≤ 8 → Hd "shelf" ["shelf", x, num n] (.tup [.str "shelf", .str x, .int n])
  | twins {x : Str} {n : Int} : Nm x → 1 ≤ n → n ≤ 8 → Hd "twins" ["twins", x, num n] (.tup [.str "twins", .str x, .int n])
  | at_ {n : Int} : 0 ≤ n → n ≤ 100 → Hd "at" ["at", lab n] (.tup [.str "at", .str (lab n)])
theorem Hd.wd {k : Str} {w : List Str} {p : Dt} (h : Hd k w p) : (∀ s ∈ w, Wd s) ∧ w ≠ [] ∧ w.length ≤ 9 := by
  cases h with
  | cell h1 h2 => exact ⟨mem2 (mem2 (mem2 memN (num_wd h2)) h1.wd) wd_cell, by simp, by simp⟩
  | twin h1 h2 => exact ⟨mem2 (mem2 (mem2 memN (num_wd h2)) h1.wd) wd_twin, by simp, by simp⟩
  | shelf h1 h2 h3 => exact ⟨mem2 (mem2 (mem2 memN (num_wd ⟨by omega, by omega⟩)) h1.wd) wd_shelf, by simp, by simp⟩
  | twins h1 h2 h3 => exact ⟨mem2 (mem2 (mem2 memN (num_wd ⟨by omega, by omega⟩)) h1.wd) wd_twins, by simp, by simp⟩
  | at_ h1 h2 => exact ⟨mem2 (mem2 memN (lab_wd h1 h2)) wd_at, by simp, by simp⟩
theorem parse_h {k : Str} {w : List Str} {p : Dt} (h : Hd k w p) : q29 [.str (jn w)] = some (.leaf p) := by
  have hw := h.wd
  have hj := split_jn hw.2.1 hw.2.2 hw.1
  unfold q29
  cases h with
  | @cell x n h1 h2 =>
    have e := filled_ok (k := "cell") (show Pts ["name", "value"] [x, num n] [.str x, .int n] from .cons (.name h1) (.cons (.value h2) .nil)) (by simp)
    walk_at "x"
    rw [hj]
    walk_at "x"
    rw [show decide ((1 : Int) < ((3 : Nat) : Int)) = true from rfl]
    walk_at "x"
    rw [condO_n (by simpa using h1.ne)]
    walk_at "x"
    rw [show gSl (Dt.lst [Dt.str (Str.ofString "cell"), Dt.str x, Dt.str (num n)]) (some 1) none = some (.lst [.str x, .str (num n)]) from rfl]
    walk_at "x"
    exact (congrArg (fun z => finO (Option.map Out.rt z)) e).trans rfl
  | @twin x n h1 h2 =>
    have e := filled_ok (k := "twin") (show Pts ["name", "value"] [x, num n] [.str x, .int n] from .cons (.name h1) (.cons (.value h2) .nil)) (by simp)
    walk_at "x"
    rw [hj]
    walk_at "x"
    rw [show decide ((1 : Int) < ((3 : Nat) : Int)) = true from rfl]
    walk_at "x"
    rw [condO_n (by simpa using h1.ne)]
    walk_at "x"
    rw [show gSl (Dt.lst [Dt.str (Str.ofString "twin"), Dt.str x, Dt.str (num n)]) (some 1) none = some (.lst [.str x, .str (num n)]) from rfl]
    walk_at "x"
    exact (congrArg (fun z => finO (Option.map Out.rt z)) e).trans rfl
  | @shelf x n h1 h2 h3 =>
    have e := filled_ok (k := "shelf") (show Pts ["name", "size"] [x, num n] [.str x, .int n] from .cons (.name h1) (.cons (.size h2 h3) .nil)) (by simp)
    walk_at "x"
    rw [hj]
    walk_at "x"
    rw [show decide ((1 : Int) < ((3 : Nat) : Int)) = true from rfl]
    walk_at "x"
    rw [condO_n (by simpa using h1.ne)]
    walk_at "x"
    rw [show gSl (Dt.lst [Dt.str (Str.ofString "shelf"), Dt.str x, Dt.str (num n)]) (some 1) none = some (.lst [.str x, .str (num n)]) from rfl]
    walk_at "x"
    exact (congrArg (fun z => finO (Option.map Out.rt z)) e).trans rfl
  | @twins x n h1 h2 h3 =>
    have e := filled_ok (k := "twins") (show Pts ["name", "size"] [x, num n] [.str x, .int n] from .cons (.name h1) (.cons (.size h2 h3) .nil)) (by simp)
    walk_at "x"
    rw [hj]
    walk_at "x"
    rw [show decide ((1 : Int) < ((3 : Nat) : Int)) = true from rfl]
    walk_at "x"
    rw [condO_n (by simpa using h1.ne)]
    walk_at "x"
    rw [show gSl (Dt.lst [Dt.str (Str.ofString "twins"), Dt.str x, Dt.str (num n)]) (some 1) none = some (.lst [.str x, .str (num n)]) from rfl]
    walk_at "x"
    exact (congrArg (fun z => finO (Option.map Out.rt z)) e).trans rfl
  | @at_ n h1 h2 =>
    have e := filled_ok (k := "at") (show Pts ["label"] [lab n] [.str (lab n)] from .cons (.label h1 h2) .nil) (by simp)
    walk_at "x"
    rw [hj]
    walk_at "x"
    rw [show decide ((1 : Int) < ((2 : Nat) : Int)) = true from rfl]
    walk_at "x"
    rw [condO_n (by simpa using lab_ne n)]
    walk_at "x"
    rw [show gSl (Dt.lst [Dt.str (Str.ofString "at"), Dt.str (lab n)]) (some 1) none = some (.lst [.str (lab n)]) from rfl]
    walk_at "x"
    exact (congrArg (fun z => finO (Option.map Out.rt z)) e).trans rfl
end P12
namespace P12
open PySem L2 PyProof.Rows
noncomputable abbrev Hx := Str × Int × Bool
noncomputable def hdD (h : Hx) : Dt := .tup [.str h.1, .int h.2.1, .bl h.2.2]
noncomputable def kwC (b : Bool) : Str := if b then Str.ofString "twin" else Str.ofString "cell"
noncomputable def kwS (b : Bool) : Str := if b then Str.ofString "twins" else Str.ofString "shelf"
noncomputable def hwC (h : Hx) : List Str := [kwC h.2.2, h.1, num h.2.1]
noncomputable def hwS (h : Hx) : List Str := [kwS h.2.2, h.1, num h.2.1]
noncomputable def hpC (h : Hx) : Dt := .tup [.str (kwC h.2.2), .str h.1, .int h.2.1]
noncomputable def hpS (h : Hx) : Dt := .tup [.str (kwS h.2.2), .str h.1, .int h.2.1]
noncomputable def GC (h : Hx) : Prop := Nm h.1 ∧ InR h.2.1
noncomputable def GS (h : Hx) : Prop := Nm h.1 ∧ 1 ≤ h.2.1 ∧ h.2.1 ≤ 8
theorem GC.hd {h : Hx} (g : GC h) : Hd (kwC h.2.2) (hwC h) (hpC h) := by
  obtain ⟨x, n, b⟩ := h
  cases b
  · exact .cell g.1 g.2
  · exact .twin g.1 g.2
theorem GS.hd {h : Hx} (g : GS h) : Hd (kwS h.2.2) (hwS h) (hpS h) := by
  obtain ⟨x, n, b⟩ := h
  cases b
  · exact .shelf g.1 g.2.1 g.2.2
  · exact .twins g.1 g.2.1 g.2.2
theorem GS.r {h : Hx} (g : GS h) : InR h.2.1 := ⟨by have := g.2.1; omega, by have := g.2.2; omega⟩
theorem jn3 (a b c : Str) : a ++ ⟨#[32]⟩ ++ b ++ ⟨#[32]⟩ ++ c = jn [a, b, c] := str_ext (by
  show _ = (a ++ ⟨#[32]⟩ ++ (b ++ ⟨#[32]⟩ ++ c)).cps.toList
  simp only [cps_app, List.append_assoc])
theorem jn2 (a b : Str) : jn [a, b] = a ++ ⟨#[32]⟩ ++ b := rfl
theorem app_ok {x y : Str} (h : x.length + y.length ≤ 1000) : gAdd (.str x) (.str y) = some (.leaf (.str (x ++ y))) := gAdd_s (small (by omega))
theorem kwC_l (b : Bool) : (kwC b).length ≤ 5 := by cases b <;> decide +kernel
theorem kwS_l (b : Bool) : (kwS b).length ≤ 5 := by cases b <;> decide +kernel
theorem at_lab {k : Int} : Str.ofString "at r" ++ num k = jn [Str.ofString "at", lab k] := str_ext (by
  rw [jn2]
  unfold lab
  simp only [cps_app, List.append_assoc, show (Str.ofString "at r").cps.toList = [97, 116, 32, 114] by decide +kernel, show (Str.ofString "at").cps.toList = [97, 116] by decide +kernel, r_code]
  rfl)
theorem text_0 {h : Hx} (g : GC h) : z33 [some (.leaf (.str h.1)), some (.leaf (.int h.2.1)), some (.leaf (.bl h.2.2))] = some (.str (jn (hwC h))) := by
  unfold z33
  have h1 := g.1.2.1
  have h2 := (num_l g.2).2
  have h3 := kwC_l h.2.2
  have h4 : (Str.ofString " ").length = 1 := by decide +kernel
  have ek : atI [Dt.str (Str.ofString "cell"), Dt.str (Str.ofString "twin")] (if h.2.2 = true then (1 : Int) else 0) = some (.str (kwC h.2.2)) := by cases h.2.2 <;> rfl
  walk_at "d"
  rw [ek]
  walk_at "d"
  rw [app_ok (by omega)]
  walk_at "d"
  rw [app_ok (by rw [Str.length_append]; omega)]
  walk_at "d"
  rw [app_ok (by rw [Str.length_append, Str.length_append]; omega)]
  walk_at "d"
  rw [str_num g.2]
  walk_at "d"
  rw [app_ok (by rw [Str.length_append, Str.length_append, Str.length_append]; omega), blank_code, jn3]
  rfl
noncomputable def bp {α : Type} (at_ : Nat → α) (gs : List Int) (ws : List α) : Nat → List α
  | 0 => []
  | m + 1 => bp at_ gs ws m ++ (if (m : Int) ∈ gs then [at_ m] else []) ++ (ws[m]?).toList
theorem text_cells {cs : List Hx} (hg : ∀ h ∈ cs, GC h) : compL (bTup 3 (bCons (bName 0) (bCons (bName 1) (bCons (bName 2) bNil)))) tYesD z33 [none, none, none] (cs.map hdD) = some (cs.map fun h => .str (jn (hwC h))) := by
  induction cs with
  | nil => rfl
  | cons h cs ih =>
    have e := text_0 (hg h (by simp))
    have ih := ih fun x hx => hg x (List.mem_cons_of_mem _ hx)
    show ((some [some (T.leaf (.str h.1)), some (T.leaf (.int h.2.1)), some (T.leaf (.bl h.2.2))] : Option De).bind fun δ1 => (tYesD δ1).bind fun b => if b then (z33 δ1).bind fun y => (compL (bTup 3 (bCons (bName 0) (bCons (bName 1) (bCons (bName 2) bNil)))) tYesD z33 [none, none, none] (cs.map hdD)).bind fun ys => some (y :: ys) else _) = _
    simp only [Option.bind_some, tYesD, if_true, e, ih]
    rfl
theorem text_shelf {h : Hx} (g : GS h) (s0 s5 s6 : Option T) (L : List Dt) (hL : L.length ≤ 900) : z54 [s0, some (.lst L), some (.leaf (.str h.1)), some (.leaf (.int h.2.1)), some (.leaf (.bl h.2.2)), s5, s6] = some (.nx [s0, some (.lst (L ++ [.str (jn (hwS h))])), some (.leaf (.str h.1)), some (.leaf (.int h.2.1)), some (.leaf (.bl h.2.2)), s5, s6]) := by
  unfold z54
  have h1 := g.1.2.1
  have h2 := (num_l g.r).2
  have h3 := kwS_l h.2.2
  have h4 : (Str.ofString " ").length = 1 := by decide +kernel
  have ek : atI [Dt.str (Str.ofString "shelf"), Dt.str (Str.ofString "twins")] (if h.2.2 = true then (1 : Int) else 0) = some (.str (kwS h.2.2)) := by cases h.2.2 <;> rfl
  rw [app_d rfl]
  walk_at "d"
  rw [ek]
  walk_at "d"
  rw [app_ok (by omega)]
  walk_at "d"
  rw [app_ok (by rw [Str.length_append]; omega)]
  walk_at "d"
  rw [app_ok (by rw [Str.length_append, Str.length_append]; omega)]
  walk_at "d"
  rw [str_num g.r]
  walk_at "d"
  rw [app_ok (by rw [Str.length_append, Str.length_append, Str.length_append]; omega), blank_code, jn3]
  walk_at "d"
  rw [appL_of (by omega)]
  walk_at "d"
  rfl
theorem text_shelves (s0 s5 s6 : Option T) : ∀ {ss : List Hx} {L : List Dt} {x y z : Option T}, (∀ h ∈ ss, GS h) → L.length + ss.length ≤ 900 → ∃ x' y' z', forD (bTup 3 (bCons (bName 2) (bCons (bName 3) (bCons (bName 4) bNil)))) z54 (ss.map hdD) [s0, some (.lst L), x, y, z, s5, s6] = some (.nx [s0, some (.lst (L ++ ss.map fun h => .str (jn (hwS h)))), x', y', z', s5, s6])
  | [], L, x, y, z, _, _ => ⟨x, y, z, by simp [forD_nil]⟩
  | h :: ss, L, x, y, z, hg, hl => by
    simp only [List.length_cons] at hl
    obtain ⟨x', y', z', e⟩ := text_shelves s0 s5 s6 (ss := ss) (L := L ++ [.str (jn (hwS h))]) (x := some (.leaf (.str h.1))) (y := some (.leaf (.int h.2.1))) (z := some (.leaf (.bl h.2.2))) (fun a ha => hg a (List.mem_cons_of_mem _ ha)) (by simp; omega)
    refine ⟨x', y', z', ?_⟩
    rw [List.map_cons, forD_cons (δ1 := [s0, some (.lst L), some (.leaf (.str h.1)), some (.leaf (.int h.2.1)), some (.leaf (.bl h.2.2)), s5, s6]) rfl (text_shelf (hg h (by simp)) s0 s5 s6 L (by omega)), e]
    simp
noncomputable def lead : Dt → Bool
  | .tup (.str k :: _) => decide (k = Str.ofString "if") || decide (k = Str.ofString "go")
  | _ => false
noncomputable def lastD : Dt → Dt
  | .tup l => l.getLast?.getD .non
  | d => d
theorem Rw.lead {r : Dt} {w : List Str} {p : Dt} (h : Rw r w p) : z53 [some (.leaf r)] = some (P12.lead r) ∧ y82 [some (.leaf r)] = some (P12.lead r) ∧ (P12.lead r = true → (q54 [some (.leaf r)] = some (lastD r) ∧ q83 [some (.leaf r)] = some (lastD r) ∧ ∃ g, 0 ≤ g ∧ g ≤ 100 ∧ lastD r = .int g)) := by
  unfold z53 y82 q54 q83 P12.lead
  cases h with
  | @copy x1 a2 s2 h1 h2 =>
    refine ⟨by walk_at "x", by walk_at "x", fun z => ?_⟩
    simp only [L2.ne_copy_if, L2.ne_copy_go, decide_false, Bool.or_self, Bool.false_eq_true] at z
  | @op x1 x2 a3 s3 a4 s4 h1 h2 h3 h4 =>
    refine ⟨by walk_at "x", by walk_at "x", fun z => ?_⟩
    simp only [L2.ne_op_if, L2.ne_op_go, decide_false, Bool.or_self, Bool.false_eq_true] at z
  | @load x1 x2 h1 h2 =>
    refine ⟨by walk_at "x", by walk_at "x", fun z => ?_⟩
    simp only [L2.ne_load_if, L2.ne_load_go, decide_false, Bool.or_self, Bool.false_eq_true] at z
  | @store x1 a2 s2 h1 h2 =>
    refine ⟨by walk_at "x", by walk_at "x", fun z => ?_⟩
    simp only [L2.ne_store_if, L2.ne_store_go, decide_false, Bool.or_self, Bool.false_eq_true] at z
  | @take x1 x2 a3 s3 h1 h2 h3 =>
    refine ⟨by walk_at "x", by walk_at "x", fun z => ?_⟩
    simp only [L2.ne_take_if, L2.ne_take_go, decide_false, Bool.or_self, Bool.false_eq_true] at z
  | @lay x1 a2 s2 a3 s3 h1 h2 h3 =>
    refine ⟨by walk_at "x", by walk_at "x", fun z => ?_⟩
    simp only [L2.ne_lay_if, L2.ne_lay_go, decide_false, Bool.or_self, Bool.false_eq_true] at z
  | @hear x1 h1 =>
    refine ⟨by walk_at "x", by walk_at "x", fun z => ?_⟩
    simp only [L2.ne_hear_if, L2.ne_hear_go, decide_false, Bool.or_self, Bool.false_eq_true] at z
  | @say a1 s1 h1 =>
    refine ⟨by walk_at "x", by walk_at "x", fun z => ?_⟩
    simp only [L2.ne_say_if, L2.ne_say_go, decide_false, Bool.or_self, Bool.false_eq_true] at z
  | @iff a1 s1 g2 h1 l2 u2 =>
    refine ⟨by walk_at "x", by walk_at "x", fun _ => ⟨by walk_at "x" <;> rfl, by walk_at "x" <;> rfl, g2, l2, u2, rfl⟩⟩
  | @go g1 l1 u1 =>
    refine ⟨by walk_at "x", by walk_at "x", fun _ => ⟨by walk_at "x" <;> rfl, by walk_at "x" <;> rfl, g1, l1, u1, rfl⟩⟩
  | @fin a1 s1 h1 =>
    refine ⟨by walk_at "x", by walk_at "x", fun z => ?_⟩
    simp only [L2.ne_end_if, L2.ne_end_go, decide_false, Bool.or_self, Bool.false_eq_true] at z
theorem any_int (k : Int) : ∀ gs : List Int, ((gs.map Dt.int).any fun y => eqF y (.int k)) = decide (k ∈ gs)
  | [] => by simp
  | g :: gs => by
    rw [List.map_cons, List.any_cons, any_int k gs]
    by_cases h : g = k
    · subst h
      simp [eqF_i]
    · have h' : ¬ k = g := fun z => h z.symm
      simp [eqF_i, h, h']
theorem flat_int : ∀ gs : List Int, (gs.map Dt.int).all flatD = true
  | [] => rfl
  | g :: gs => by rw [List.map_cons, List.all_cons, flat_int gs]; rfl
theorem in_gs (k : Int) (gs : List Int) : gInA false (.int k) (.lst (gs.map .int)) = some (.leaf (.bl (decide (k ∈ gs)))) := by
  rw [gIn_l (by rw [flat_int]; rfl), any_int]
  rfl
end P12
namespace P12
open PySem L2 PyProof.Rows
noncomputable abbrev Rx := Dt × List Str × Dt
noncomputable def GR (r : Rx) : Prop := Rw r.1 r.2.1 r.2.2
structure Pg where
  cs : List Hx
  ss : List Hx
  rs : List Rx
  gs : List Int
structure Pg.Ok (p : Pg) : Prop where
  gc : ∀ h ∈ p.cs, GC h
  gsh : ∀ h ∈ p.ss, GS h
  gr : ∀ r ∈ p.rs, GR r
  gl : ((p.rs.map (·.1)).filter lead).map lastD = p.gs.map .int
  lc : p.cs.length ≤ 8
  ls : p.ss.length ≤ 4
  lr : p.rs.length ≤ 60
  gi : ∀ g ∈ p.gs, 0 ≤ g ∧ g ≤ p.rs.length
  nd : ((p.cs ++ p.ss).map (·.1)).Nodup
noncomputable def Pg.d (p : Pg) : Dt := .tup [.tup (p.cs.map hdD), .tup (p.ss.map hdD), .tup (p.rs.map (·.1))]
noncomputable def atW (k : Nat) : List Str := [Str.ofString "at", lab k]
noncomputable def Pg.ws (p : Pg) : List (List Str) := p.cs.map hwC ++ p.ss.map hwS ++ bp atW p.gs (p.rs.map (·.2.1)) (p.rs.length + 1)
noncomputable def lns (l : List (List Str)) : List Dt := l.map fun w => .str (jn w)
noncomputable def Pg.txt (p : Pg) : Str := Str.join ⟨#[10]⟩ (p.ws.map jn)
theorem lns_app (a b : List (List Str)) : lns (a ++ b) = lns a ++ lns b := by unfold lns; rw [List.map_append]
theorem bp_len {α : Type} (a : Nat → α) (gs : List Int) (ws : List α) : ∀ m, (bp a gs ws m).length ≤ 2 * m
  | 0 => Nat.le_refl _
  | m + 1 => by
    have := bp_len a gs ws m
    unfold bp
    simp only [List.length_append]
    have h1 : (if (m : Int) ∈ gs then [a m] else []).length ≤ 1 := by split <;> simp
    have h2 : (ws[m]?).toList.length ≤ 1 := by cases ws[m]? <;> simp
    omega
theorem bp_mem {α : Type} (a : Nat → α) (gs : List Int) (ws : List α) : ∀ (m : Nat) (w : α), w ∈ bp a gs ws m → (∃ k, k < m ∧ (k : Int) ∈ gs ∧ w = a k) ∨ w ∈ ws
  | 0, w, h => by cases h
  | m + 1, w, h => by
    rw [show bp a gs ws (m + 1) = bp a gs ws m ++ (if (m : Int) ∈ gs then [a m] else []) ++ (ws[m]?).toList from rfl] at h
    rcases List.mem_append.mp h with h | h
    · rcases List.mem_append.mp h with h | h
      · exact (bp_mem a gs ws m w h).imp (fun ⟨k, h1, h2⟩ => ⟨k, by omega, h2⟩) id
      · split at h
        · rename_i hg
          exact .inl ⟨m, by omega, hg, List.mem_singleton.mp h⟩
        · cases h
    · right
      cases q : ws[m]? with
      | none => rw [q] at h; cases h
      | some x =>
        rw [q] at h
        simp at h
        subst h
        exact List.mem_of_getElem? q
variable {p : Pg}
theorem rows_get (p : Pg) {k : Nat} (hk : k < p.rs.length) : (p.rs.map (·.1))[k]? = some p.rs[k].1 ∧ (p.rs.map (·.2.1))[k]? = some p.rs[k].2.1 := by simp [hk]
theorem text_turn (h : p.Ok) (k : Nat) (hk : k < p.rs.length + 1) (L : List Dt) (hL : L.length ≤ 900) (s2 s3 s4 : Option T) :
    y42 [some (.leaf p.d), some (.lst L), s2, s3, s4, some (.leaf (.lst (p.gs.map .int))), some (.leaf (.int k))] = some (.nx [some (.leaf p.d), some (.lst (L ++ lns ((if (k : Int) ∈ p.gs then [atW k] else []) ++ ((p.rs.map (·.2.1))[k]?).toList))), s2, s3, s4, some (.leaf (.lst (p.gs.map .int))), some (.leaf (.int k))]) := by
  have hlr := h.lr
  have hR : InR (k : Int) := ⟨by omega, by omega⟩
  have e1 : ∀ δ : De, δ = [some (.leaf p.d), some (.lst L), s2, s3, s4, some (.leaf (.lst (p.gs.map .int))), some (.leaf (.int k))] → sIf (tB2 (gInA false) (vB 6) (vB 5)) (q25 1 (toD (d2 gAdd (kD (.str "at r")) (toD (vCall gStrA (aCons (vB 6) aNil)))))) sNil δ = some (.nx [some (.leaf p.d), some (.lst (L ++ lns (if (k : Int) ∈ p.gs then [atW k] else []))), s2, s3, s4, some (.leaf (.lst (p.gs.map .int))), some (.leaf (.int k))]) := fun δ e => by
    subst e
    walk_at "d"
    rw [in_gs]
    walk_at "d"
    by_cases hg : (k : Int) ∈ p.gs
    · rw [condO_p (by simpa using hg), if_pos hg, app_d rfl]
      walk_at "d"
      rw [str_num hR]
      walk_at "d"
      rw [app_ok (by have := (num_l hR).2; have : (Str.ofString "at r").length = 4 := (by decide +kernel); omega), at_lab]
      walk_at "d"
      rw [appL_of (by omega)]
      rfl
    · rw [condO_n (by simpa using hg), if_neg hg]
      walk_at "d"
      simp [lns]
  unfold y42
  rw [show ∀ (g1 g2 : De → Option Out) (δ : De), sSeq g1 g2 δ = thenO (g1 δ) g2 from fun _ _ _ => rfl, e1 _ rfl, thenO_nx]
  generalize hL2 : L ++ lns (if (k : Int) ∈ p.gs then [atW k] else []) = L2
  have hl2 : L2.length ≤ 901 := by
    rw [← hL2]
    simp only [List.length_append, lns, List.length_map]
    split <;> simp <;> omega
  unfold Pg.d
  walk_at "d"
  rw [List.length_map]
  by_cases hk2 : k < p.rs.length
  · rw [condO_p (by simpa using hk2), app_d rfl]
    obtain ⟨g1, g2⟩ := rows_get p hk2
    rw [g2]
    have g1' : atI (p.rs.map (·.1)) (k : Int) = some p.rs[k].1 := by rw [atI_nat', g1]
    walk_at "d"
    rw [g1']
    walk_at "d"
    rw [line_law (h.gr _ (List.getElem_mem hk2))]
    walk_at "d"
    rw [appL_of (by omega), lns_app, ← List.append_assoc, hL2]
    rfl
  · rw [condO_n (by simpa using hk2)]
    have : (p.rs.map (·.2.1))[k]? = none := by simp; omega
    rw [this]
    walk_at "d"
    rw [Option.toList_none, List.append_nil, hL2]
theorem bp_succ {α : Type} (a : Nat → α) (gs : List Int) (ws : List α) (m : Nat) : bp a gs ws (m + 1) = bp a gs ws m ++ ((if (m : Int) ∈ gs then [a m] else []) ++ (ws[m]?).toList) := by
  show bp a gs ws m ++ _ ++ _ = _
  rw [List.append_assoc]
theorem text_loop (h : p.Ok) (L : List Dt) (hL : L.length ≤ 50) (s2 s3 s4 x : Option T) : ∃ y, forD (bName 6) y42 (rangeD 0 (p.rs.length + 1)) [some (.leaf p.d), some (.lst L), s2, s3, s4, some (.leaf (.lst (p.gs.map .int))), x] = some (.nx [some (.leaf p.d), some (.lst (L ++ lns (bp atW p.gs (p.rs.map (·.2.1)) (p.rs.length + 1)))), s2, s3, s4, some (.leaf (.lst (p.gs.map .int))), y]) := by
  have hlr := h.lr
  obtain ⟨δ', e, y, rfl⟩ := forD_at (bb := bName 6) (g := y42) (all := rangeD 0 (p.rs.length + 1)) (P := fun done δ => ∃ y, δ = [some (.leaf p.d), some (.lst (L ++ lns (bp atW p.gs (p.rs.map (·.2.1)) done.length))), s2, s3, s4, some (.leaf (.lst (p.gs.map .int))), y])
    (rangeD 0 (p.rs.length + 1)) [] [some (.leaf p.d), some (.lst L), s2, s3, s4, some (.leaf (.lst (p.gs.map .int))), x] rfl ⟨x, by simp [bp, lns]⟩ (fun done d r δ hd hP => by
      obtain ⟨rfl, hi⟩ := range_at hd
      obtain ⟨y, rfl⟩ := hP
      rw [Int.zero_add]
      have hb := bp_len atW p.gs (p.rs.map (·.2.1)) done.length
      refine ⟨_, _, rfl, .inl (text_turn h done.length hi _ (by simp only [List.length_append, lns, List.length_map]; omega) s2 s3 s4), some (.leaf (.int done.length)), ?_⟩
      rw [List.append_assoc, ← lns_app, ← bp_succ]
      simp)
  rw [range_len] at e
  exact ⟨y, e⟩
theorem txt_lines (h : p.Ok) : (∀ w ∈ p.ws, (∀ s ∈ w, Wd s) ∧ w ≠ [] ∧ w.length ≤ 9) ∧ p.ws.length ≤ 200 := by
  have hlr := h.lr
  have hlc := h.lc
  have hls := h.ls
  have hb := bp_len atW p.gs (p.rs.map (·.2.1)) (p.rs.length + 1)
  refine ⟨fun w hw => ?_, ?_⟩
  · unfold Pg.ws at hw
    rcases List.mem_append.mp hw with hw | hw
    · rcases List.mem_append.mp hw with hw | hw
      · obtain ⟨x, hx, rfl⟩ := List.mem_map.mp hw
        exact (h.gc x hx).hd.wd
      · obtain ⟨x, hx, rfl⟩ := List.mem_map.mp hw
        exact (h.gsh x hx).hd.wd
    · rcases bp_mem atW p.gs _ _ _ hw with ⟨k, hk, hg, rfl⟩ | hw
      · exact (Hd.at_ (by omega) (by omega) : Hd _ (atW k) _).wd
      · obtain ⟨x, hx, rfl⟩ := List.mem_map.mp hw
        exact Rw.wd (h.gr x hx)
  · unfold Pg.ws
    simp only [List.length_append, List.length_map]
    omega
theorem join_txt (h : p.Ok) : g_join (.str (Str.ofString "\n")) [.lst (lns p.ws)] = some (.leaf (.str p.txt)) := by
  obtain ⟨h1, h2⟩ := txt_lines h
  have e : lns p.ws = (p.ws.map jn).map .str := by unfold lns; rw [List.map_map]; rfl
  rw [nl_code, e]
  refine g_join_of (joinOk_of (b := 200) (n := 200) (fun y hy => ?_) (by simpa using h2) (by decide))
  obtain ⟨w, hw, rfl⟩ := List.mem_map.mp hy
  have := jn_len (h1 w hw).1
  have := (h1 w hw).2.2
  omega
theorem text_ok (h : p.Ok) : z52 [p.d] = some (.leaf (.str p.txt)) := by
  have hlr := h.lr
  have hlc := h.lc
  have hls := h.ls
  unfold z52
  have hgl : compL (bName 0) z53 q54 [none] (p.rs.map (·.1)) = some (p.gs.map .int) := by
    rw [← h.gl]
    refine compL_filter fun d hd => ?_
    obtain ⟨r, hr, rfl⟩ := List.mem_map.mp hd
    have hl := (h.gr r hr).lead
    exact ⟨_, rfl, hl.1, fun z => (hl.2.2 z).1⟩
  obtain ⟨x, y, z, e2⟩ := text_shelves (some (.leaf p.d)) none none (ss := p.ss) (L := p.cs.map fun h => .str (jn (hwC h))) (x := none) (y := none) (z := none) h.gsh (by simp; omega)
  obtain ⟨u, e3⟩ := text_loop h ((p.cs.map fun h => .str (jn (hwC h))) ++ p.ss.map fun h => .str (jn (hwS h))) (by simp; omega) x y z none
  unfold Pg.d at e2 e3 ⊢
  walk_at "d"
  rw [text_cells h.gc, Option.bind_some, mkL_of (by simp; omega)]
  walk_at "d"
  rw [e2]
  walk_at "d"
  rw [hgl, Option.bind_some, mkL_of (by
    have := congrArg List.length h.gl
    have h2 := List.length_filter_le lead (p.rs.map (·.1))
    simp at this h2 ⊢
    omega)]
  walk_at "d"
  rw [List.length_map, show ((p.rs.length : Int) + 1) = ((p.rs.length + 1 : Nat) : Int) from rfl, rng1_n (by omega), Option.bind_some, e3]
  walk_at "d"
  have ej := join_txt h
  rw [show lns p.ws = ((p.cs.map fun h => .str (jn (hwC h))) ++ p.ss.map fun h => .str (jn (hwS h))) ++ lns (bp atW p.gs (p.rs.map (·.2.1)) (p.rs.length + 1)) by unfold Pg.ws; rw [lns_app, lns_app]; unfold lns; rw [List.map_map, List.map_map]; rfl] at ej
  exact (congrArg (fun z => finO (Option.map Out.rt z)) ej).trans rfl
end P12
namespace P12
open PySem L2 PyProof.Rows
variable {p : Pg}
theorem hw_one {x : Str} {n : Int} {b : Bool} {k0 k1 : Str} (hn : InR n) (hw : ∀ s ∈ [if b then k1 else k0, x, num n], Wd s) : q19 [some (.leaf (hdD (x, n, b))), some (.leaf (.tup [.str k0, .str k1]))] = some (.str (jn [if b then k1 else k0, x, num n])) := by
  unfold q19 hdD
  have hj := join_jn (w := [if b then k1 else k0, x, num n]) (by simp) hw
  cases b
  · walk_at "d"
    rw [str_num hn]
    walk_at "d"
    exact (congrArg (fun z => Option.map T.d z) hj).trans rfl
  · walk_at "d"
    rw [str_num hn]
    walk_at "d"
    exact (congrArg (fun z => Option.map T.d z) hj).trans rfl
theorem hw_cells {cs : List Hx} (hg : ∀ h ∈ cs, GC h) (hl : cs.length ≤ 100) : q20 [.tup (cs.map hdD), c_CELLS] = some (.lst (cs.map fun h => .str (jn (hwC h)))) := by
  unfold q20 c_CELLS
  have e : compL (bName 0) tYesD q19 [none, some (.leaf (.tup [.str (Str.ofString "cell"), .str (Str.ofString "twin")]))] (cs.map hdD) = some (cs.map fun h => .str (jn (hwC h))) := by
    have := compL_map (bb := bName 0) (ft := tYesD) (fe := q19) (δ := [none, some (.leaf (.tup [.str (Str.ofString "cell"), .str (Str.ofString "twin")]))]) (ds := cs.map hdD) (f := fun d => match d with | .tup [.str x, .int n, .bl b] => .str (jn (hwC (x, n, b))) | d => d) fun d hd => by
      obtain ⟨h, hh, rfl⟩ := List.mem_map.mp hd
      obtain ⟨x, n, b⟩ := h
      exact ⟨_, rfl, rfl, hw_one (hg _ hh).2 (hg _ hh).hd.wd.1⟩
    rw [this, List.map_map]
    rfl
  walk_at "d"
  rw [e, Option.bind_some, mkL_of (by simp; omega)]
  walk_at "d"
theorem hw_shelves {cs : List Hx} (hg : ∀ h ∈ cs, GS h) (hl : cs.length ≤ 100) : q20 [.tup (cs.map hdD), c_SHELVES] = some (.lst (cs.map fun h => .str (jn (hwS h)))) := by
  unfold q20 c_SHELVES
  have e : compL (bName 0) tYesD q19 [none, some (.leaf (.tup [.str (Str.ofString "shelf"), .str (Str.ofString "twins")]))] (cs.map hdD) = some (cs.map fun h => .str (jn (hwS h))) := by
    have := compL_map (bb := bName 0) (ft := tYesD) (fe := q19) (δ := [none, some (.leaf (.tup [.str (Str.ofString "shelf"), .str (Str.ofString "twins")]))]) (ds := cs.map hdD) (f := fun d => match d with | .tup [.str x, .int n, .bl b] => .str (jn (hwS (x, n, b))) | d => d) fun d hd => by
      obtain ⟨h, hh, rfl⟩ := List.mem_map.mp hd
      obtain ⟨x, n, b⟩ := h
      exact ⟨_, rfl, rfl, hw_one (hg _ hh).r (hg _ hh).hd.wd.1⟩
    rw [this, List.map_map]
    rfl
  walk_at "d"
  rw [e, Option.bind_some, mkL_of (by simp; omega)]
  walk_at "d"
theorem write_turn (h : p.Ok) (k : Nat) (hk : k < p.rs.length + 1) (L : List Dt) (hL : L.length ≤ 900) (s0 : Option T) :
    q69 [s0, some (.leaf (.tup (p.rs.map (·.1)))), some (.leaf (.lst (p.gs.map .int))), some (.lst L), some (.leaf (.int k))] = some (.nx [s0, some (.leaf (.tup (p.rs.map (·.1)))), some (.leaf (.lst (p.gs.map .int))), some (.lst (L ++ lns ((if (k : Int) ∈ p.gs then [atW k] else []) ++ ((p.rs.map (·.2.1))[k]?).toList))), some (.leaf (.int k))]) := by
  have hlr := h.lr
  have hR : InR (k : Int) := ⟨by omega, by omega⟩
  have hja := join_jn (w := atW k) (by simp [atW]) (Hd.at_ (by omega) (by omega) : Hd _ (atW k) _).wd.1
  have e1 : ∀ δ : De, δ = [s0, some (.leaf (.tup (p.rs.map (·.1)))), some (.leaf (.lst (p.gs.map .int))), some (.lst L), some (.leaf (.int k))] → sIf (tB2 (gInA false) (vB 4) (vB 2)) (q25 3 (toD (vMeth g_join (kD (.str " ")) (aCons (toD (vLst (aCons (kD (.str "at")) (aCons (toD (vCall z34 (aCons (vL 4) aNil))) aNil)))) aNil)))) sNil δ = some (.nx [s0, some (.leaf (.tup (p.rs.map (·.1)))), some (.leaf (.lst (p.gs.map .int))), some (.lst (L ++ lns (if (k : Int) ∈ p.gs then [atW k] else []))), some (.leaf (.int k))]) := fun δ e => by
    subst e
    walk_at "d"
    rw [in_gs]
    walk_at "d"
    by_cases hg : (k : Int) ∈ p.gs
    · rw [condO_p (by simpa using hg), if_pos hg, app_d rfl]
      walk_at "d"
      rw [label_of_ok hR]
      walk_at "d"
      rw [show g_join (.str (Str.ofString " ")) [.lst [.str (Str.ofString "at"), .str (lab k)]] = some (.leaf (.str (jn (atW k)))) from hja]
      walk_at "d"
      rw [appL_of (by omega)]
      rfl
    · rw [condO_n (by simpa using hg), if_neg hg]
      walk_at "d"
      simp [lns]
  unfold q69
  rw [show ∀ (g1 g2 : De → Option Out) (δ : De), sSeq g1 g2 δ = thenO (g1 δ) g2 from fun _ _ _ => rfl, e1 _ rfl, thenO_nx]
  generalize hL2 : L ++ lns (if (k : Int) ∈ p.gs then [atW k] else []) = L2
  have hl2 : L2.length ≤ 901 := by
    rw [← hL2]
    simp only [List.length_append, lns, List.length_map]
    split <;> simp <;> omega
  walk_at "d"
  rw [List.length_map]
  by_cases hk2 : k < p.rs.length
  · rw [condO_p (by simpa using hk2), app_d rfl]
    obtain ⟨g1, g2⟩ := rows_get p hk2
    rw [g2]
    have g1' : atI (p.rs.map (·.1)) (k : Int) = some p.rs[k].1 := by rw [atI_nat', g1]
    have hR := h.gr _ (List.getElem_mem hk2)
    walk_at "d"
    rw [g1']
    walk_at "d"
    rw [words_ok hR]
    walk_at "d"
    rw [join_jn (Rw.wd hR).2.2 (Rw.wd hR).1]
    walk_at "d"
    rw [appL_of (by omega), lns_app, ← List.append_assoc, hL2]
    rfl
  · rw [condO_n (by simpa using hk2)]
    have : (p.rs.map (·.2.1))[k]? = none := by simp; omega
    rw [this]
    walk_at "d"
    rw [Option.toList_none, List.append_nil, hL2]
theorem write_loop (h : p.Ok) (L : List Dt) (hL : L.length ≤ 50) (s0 x : Option T) : ∃ y, forD (bName 4) q69 (rangeD 0 (p.rs.length + 1)) [s0, some (.leaf (.tup (p.rs.map (·.1)))), some (.leaf (.lst (p.gs.map .int))), some (.lst L), x] = some (.nx [s0, some (.leaf (.tup (p.rs.map (·.1)))), some (.leaf (.lst (p.gs.map .int))), some (.lst (L ++ lns (bp atW p.gs (p.rs.map (·.2.1)) (p.rs.length + 1)))), y]) := by
  have hlr := h.lr
  obtain ⟨δ', e, y, rfl⟩ := forD_at (bb := bName 4) (g := q69) (all := rangeD 0 (p.rs.length + 1)) (P := fun done δ => ∃ y, δ = [s0, some (.leaf (.tup (p.rs.map (·.1)))), some (.leaf (.lst (p.gs.map .int))), some (.lst (L ++ lns (bp atW p.gs (p.rs.map (·.2.1)) done.length))), y])
    (rangeD 0 (p.rs.length + 1)) [] [s0, some (.leaf (.tup (p.rs.map (·.1)))), some (.leaf (.lst (p.gs.map .int))), some (.lst L), x] rfl ⟨x, by simp [bp, lns]⟩ (fun done d r δ hd hP => by
      obtain ⟨rfl, hi⟩ := range_at hd
      obtain ⟨y, rfl⟩ := hP
      rw [Int.zero_add]
      have hb := bp_len atW p.gs (p.rs.map (·.2.1)) done.length
      refine ⟨_, _, rfl, .inl (write_turn h done.length hi _ (by simp only [List.length_append, lns, List.length_map]; omega) s0), some (.leaf (.int done.length)), ?_⟩
      rw [List.append_assoc, ← lns_app, ← bp_succ]
      simp)
  rw [range_len] at e
  exact ⟨y, e⟩
theorem write_ok (h : p.Ok) : q86 [p.d] = some (.leaf (.str p.txt)) := by
  have hlr := h.lr
  have hlc := h.lc
  have hls := h.ls
  unfold q86
  have hgl : compL (bName 0) y82 q83 [none] (p.rs.map (·.1)) = some (p.gs.map .int) := by
    rw [← h.gl]
    refine compL_filter fun d hd => ?_
    obtain ⟨r, hr, rfl⟩ := List.mem_map.mp hd
    have hl := (h.gr r hr).lead
    exact ⟨_, rfl, hl.2.1, fun z => (hl.2.2 z).2.1⟩
  obtain ⟨u, e3⟩ := write_loop h ((p.cs.map fun h => .str (jn (hwC h))) ++ p.ss.map fun h => .str (jn (hwS h))) (by simp; omega) (some (.leaf p.d)) none
  unfold Pg.d at e3 ⊢
  walk_at "d"
  rw [hgl, Option.bind_some, mkL_of (by
    have := congrArg List.length h.gl
    have h2 := List.length_filter_le lead (p.rs.map (·.1))
    simp at this h2 ⊢
    omega)]
  walk_at "d"
  rw [hw_cells h.gc (by omega)]
  walk_at "d"
  rw [hw_shelves h.gsh (by omega)]
  walk_at "d"
  rw [gAdd_ls (by simp; omega)]
  walk_at "d"
  rw [List.length_map, show ((p.rs.length : Int) + 1) = ((p.rs.length + 1 : Nat) : Int) from rfl, rng1_n (by omega), Option.bind_some, e3]
  walk_at "d"
  have ej := join_txt h
  rw [show lns p.ws = ((p.cs.map fun h => .str (jn (hwC h))) ++ p.ss.map fun h => .str (jn (hwS h))) ++ lns (bp atW p.gs (p.rs.map (·.2.1)) (p.rs.length + 1)) by unfold Pg.ws; rw [lns_app, lns_app]; unfold lns; rw [List.map_map, List.map_map]; rfl] at ej
  exact (congrArg (fun z => finO (Option.map Out.rt z)) ej).trans rfl
end P12
namespace P12
open PySem L2 PyProof.Rows
noncomputable def Go (bb : Dt → De → Option De) (g : De → Option Out) : List Dt → De → De → Prop
  | [], δ, δ' => δ = δ'
  | d :: r, δ, δ' => ∃ δ1 δ2, bb d δ = some δ1 ∧ g δ1 = some (.nx δ2) ∧ Go bb g r δ2 δ'
theorem Go.run {bb : Dt → De → Option De} {g : De → Option Out} : ∀ {a : List Dt} {δ δ' : De}, Go bb g a δ δ' → forD bb g a δ = some (.nx δ')
  | [], δ, δ', h => by cases h; rw [forD_nil]
  | d :: a, δ, δ', ⟨δ1, δ2, h1, h2, h3⟩ => by rw [forD_cons h1 h2, h3.run]
theorem Go.app {bb : Dt → De → Option De} {g : De → Option Out} : ∀ {a b : List Dt} {δ δ1 δ2 : De}, Go bb g a δ δ1 → Go bb g b δ1 δ2 → Go bb g (a ++ b) δ δ2
  | [], b, δ, δ1, δ2, h, k => by cases h; exact k
  | d :: a, b, δ, δ1, δ2, ⟨x, y, h1, h2, h3⟩, k => ⟨x, y, h1, h2, h3.app k⟩
noncomputable def atP (k : Nat) : Dt := .tup [.str (Str.ofString "at"), .str (lab k)]
noncomputable def Pg.ps (p : Pg) : List Dt := (p.cs.map hpC ++ p.ss.map hpS) ++ bp atP p.gs (p.rs.map (·.2.2)) (p.rs.length + 1)
noncomputable def isHw (k : Str) : Bool := decide (Str.ofString "cell" = k) || (decide (Str.ofString "twin" = k) || (decide (Str.ofString "shelf" = k) || decide (Str.ofString "twins" = k)))
noncomputable def wordD : Dt → Str
  | .tup (.str k :: _) => k
  | _ => Str.ofString "?"
noncomputable def isH (d : Dt) : Bool := isHw (wordD d)
noncomputable def isA (d : Dt) : Bool := decide (wordD d = Str.ofString "at")
noncomputable def nmD : Dt → Dt
  | .tup (_ :: y :: _) => y
  | d => d
theorem inH (k : Str) : gInA false (.str k) c_HEADS = some (.leaf (.bl (isHw k))) := by
  unfold c_HEADS isHw
  walk_at "d"
theorem ninH (k : Str) : gInA true (.str k) c_HEADS = some (.leaf (.bl (!isHw k))) := by
  unfold c_HEADS isHw
  walk_at "d"
theorem c0 (k : Str) (r : List Dt) : q65 [some (.leaf (.tup (.str k :: r)))] = some (isHw k) := by
  unfold q65
  walk_at "d"
  rw [inH]
  walk_at "d"
theorem c1 (k : Str) (r : List Dt) : q64 [some (.leaf (.tup (.str k :: r)))] = some (decide (k = Str.ofString "at")) := by
  unfold q64
  walk_at "d"
theorem c2 (k : Str) (r : List Dt) (s1 : Option T) : y67 [some (.leaf (.tup (.str k :: r))), s1] = some (!isHw k && !decide (k = Str.ofString "at")) := by
  unfold y67
  walk_at "d"
  rw [ninH]
  walk_at "d"
  cases isHw k <;> walk_at "d"
theorem e0 (x y : Dt) (r : List Dt) : z66 [some (.leaf (.tup (x :: y :: r)))] = some y := by
  unfold z66
  walk_at "d"
theorem e1 (x y : Dt) (r : List Dt) : z67 [some (.leaf (.tup (x :: y :: r)))] = some y := by
  unfold z67
  walk_at "d"
noncomputable def Lk (d : Dt) : Prop := ∃ k y r, d = .tup (.str k :: y :: r)
theorem wk_row : ∀ k ∈ [Str.ofString "copy", Str.ofString "op", Str.ofString "load", Str.ofString "store", Str.ofString "take", Str.ofString "lay", Str.ofString "hear", Str.ofString "say", Str.ofString "if", Str.ofString "go", Str.ofString "end"], isHw k = false ∧ decide (k = Str.ofString "at") = false := by decide +kernel
theorem wk_hd : ∀ k ∈ [Str.ofString "cell", Str.ofString "twin", Str.ofString "shelf", Str.ofString "twins"], isHw k = true ∧ decide (k = Str.ofString "at") = false := by decide +kernel
theorem lk_row {k : Str} {y : Dt} {r : List Dt} (h : k ∈ [Str.ofString "copy", Str.ofString "op", Str.ofString "load", Str.ofString "store", Str.ofString "take", Str.ofString "lay", Str.ofString "hear", Str.ofString "say", Str.ofString "if", Str.ofString "go", Str.ofString "end"]) : Lk (.tup (.str k :: y :: r)) ∧ isH (.tup (.str k :: y :: r)) = false ∧ isA (.tup (.str k :: y :: r)) = false := ⟨⟨_, _, _, rfl⟩, (wk_row k h).1, (wk_row k h).2⟩
theorem lk_hd {k : Str} {y : Dt} {r : List Dt} (h : k ∈ [Str.ofString "cell", Str.ofString "twin", Str.ofString "shelf", Str.ofString "twins"]) : Lk (.tup (.str k :: y :: r)) ∧ isH (.tup (.str k :: y :: r)) = true ∧ isA (.tup (.str k :: y :: r)) = false := ⟨⟨_, _, _, rfl⟩, (wk_hd k h).1, (wk_hd k h).2⟩
theorem Rw.lk {r : Dt} {w : List Str} {p : Dt} (h : Rw r w p) : Lk p ∧ isH p = false ∧ isA p = false := by
  cases h <;> exact lk_row (by simp)
theorem hpC_lk (h : Hx) : Lk (hpC h) ∧ isH (hpC h) = true ∧ isA (hpC h) = false := by
  obtain ⟨x, n, b⟩ := h
  cases b <;> exact lk_hd (by simp [kwC])
theorem hpS_lk (h : Hx) : Lk (hpS h) ∧ isH (hpS h) = true ∧ isA (hpS h) = false := by
  obtain ⟨x, n, b⟩ := h
  cases b <;> exact lk_hd (by simp [kwS])
theorem atP_lk (k : Nat) : Lk (atP k) ∧ isH (atP k) = false ∧ isA (atP k) = true := ⟨⟨_, _, _, rfl⟩, show isHw (Str.ofString "at") = false by decide +kernel, show decide (Str.ofString "at" = Str.ofString "at") = true by decide +kernel⟩
noncomputable def OrdL : Bool → List Dt → Prop
  | _, [] => True
  | b, d :: r => (isH d = true → b = true) ∧ OrdL (isH d) r
theorem ord_of : ∀ {hs rs : List Dt}, (∀ d ∈ hs, isH d = true) → (∀ d ∈ rs, isH d = false) → OrdL true (hs ++ rs)
  | d :: hs, rs, h1, h2 => ⟨fun _ => rfl, by rw [h1 d (by simp)]; exact ord_of (fun x hx => h1 x (List.mem_cons_of_mem _ hx)) h2⟩
  | [], [], _, _ => trivial
  | [], d :: rs, h1, h2 => by
    have key : ∀ {rs : List Dt} {b : Bool}, (∀ d ∈ rs, isH d = false) → OrdL b rs := by
      intro rs
      induction rs with
      | nil => intro b _; trivial
      | cons d rs ih =>
        intro b h
        exact ⟨fun z => (by rw [h d (by simp)] at z; cases z), ih fun x hx => h x (List.mem_cons_of_mem _ hx)⟩
    exact key h2
theorem lines_turn {s : Str} {d : Dt} {b : Bool} {i : Nat} {L : List Dt} {s0 s5 : Option T} (hp : q29 [.str s] = some (.leaf d)) (hk : Lk d) (hb : isH d = true → b = true) (hL : L.length ≤ 900) :
    q60 [s0, some (.lst L), some (.leaf (.bl b)), some (.leaf (.int i)), some (.leaf (.str s)), s5] = some (.nx [s0, some (.lst (L ++ [d])), some (.leaf (.bl (isH d))), some (.leaf (.int i)), some (.leaf (.str s)), some (.leaf d)]) := by
  unfold q60
  obtain ⟨k, y, r, rfl⟩ := hk
  have hH : isH (.tup (.str k :: y :: r)) = isHw k := rfl
  rw [hH] at hb ⊢
  walk_at "d"
  rw [hp]
  walk_at "d"
  rw [inH]
  walk_at "d"
  have e : condO (condO (some (isHw k)) (fNot (fTru (vB 2))) (kB false) [s0, some (.lst L), some (.leaf (.bl b)), some (.leaf (.int i)), some (.leaf (.str s)), some (.leaf (.tup (.str k :: y :: r)))]) sNever sNil [s0, some (.lst L), some (.leaf (.bl b)), some (.leaf (.int i)), some (.leaf (.str s)), some (.leaf (.tup (.str k :: y :: r)))] = some (.nx [s0, some (.lst L), some (.leaf (.bl b)), some (.leaf (.int i)), some (.leaf (.str s)), some (.leaf (.tup (.str k :: y :: r)))]) := by
    cases h : isHw k
    · walk_at "d"
    · rw [hb h]; walk_at "d"
  rw [e]
  walk_at "d"
  rw [inH]
  walk_at "d"
  rw [app_d rfl]
  walk_at "d"
  rw [appL_of (by omega)]
  rfl
theorem lines_go (s0 : Option T) : ∀ (xs : List (Str × Dt)) (i : Nat) (L : List Dt) (b : Bool) (x y z : Option T), (∀ q ∈ xs, q29 [.str q.1] = some (.leaf q.2) ∧ Lk q.2) → OrdL b (xs.map (·.2)) → L.length + xs.length ≤ 900 →
    ∃ b' x' y' z', forD (bTup 2 (bCons (bName 3) (bCons (bName 4) bNil))) q60 (enumL i (xs.map fun q => .str q.1)) [s0, some (.lst L), some (.leaf (.bl b)), x, y, z] = some (.nx [s0, some (.lst (L ++ xs.map (·.2))), b', x', y', z'])
  | [], i, L, b, x, y, z, _, _, _ => ⟨_, x, y, z, by rw [List.map_nil, List.map_nil, List.append_nil]; exact forD_nil⟩
  | q :: xs, i, L, b, x, y, z, h, ho, hl => by
    simp only [List.length_cons] at hl
    obtain ⟨h1, h2⟩ := h q (by simp)
    obtain ⟨b', x', y', z', e⟩ := lines_go s0 xs (i + 1) (L ++ [q.2]) (isH q.2) (some (.leaf (.int i))) (some (.leaf (.str q.1))) (some (.leaf q.2)) (fun a ha => h a (List.mem_cons_of_mem _ ha)) ho.2 (by simp; omega)
    refine ⟨b', x', y', z', ?_⟩
    rw [List.map_cons, enumL, forD_cons (δ1 := [s0, some (.lst L), some (.leaf (.bl b)), some (.leaf (.int i)), some (.leaf (.str q.1)), z]) rfl (lines_turn h1 h2 ho.1 (by omega)), e]
    simp
variable {p : Pg}
theorem ps_mem (h : p.Ok) : (∀ d ∈ p.cs.map hpC ++ p.ss.map hpS, Lk d ∧ isH d = true ∧ isA d = false) ∧ ∀ d ∈ bp atP p.gs (p.rs.map (·.2.2)) (p.rs.length + 1), Lk d ∧ isH d = false := by
  refine ⟨fun d hd => ?_, fun d hd => ?_⟩
  · rcases List.mem_append.mp hd with hd | hd
    · obtain ⟨x, hx, rfl⟩ := List.mem_map.mp hd
      exact hpC_lk x
    · obtain ⟨x, hx, rfl⟩ := List.mem_map.mp hd
      exact hpS_lk x
  · rcases bp_mem atP p.gs _ _ _ hd with ⟨k, hk, hg, rfl⟩ | hw
    · exact ⟨(atP_lk k).1, (atP_lk k).2.1⟩
    · obtain ⟨x, hx, rfl⟩ := List.mem_map.mp hw
      have := (h.gr x hx).lk
      exact ⟨this.1, this.2.1⟩
theorem bp_map {α β : Type} (f : α → β) (a : Nat → α) (gs : List Int) (ws : List α) : ∀ m, (bp a gs ws m).map f = bp (fun k => f (a k)) gs (ws.map f) m
  | 0 => rfl
  | m + 1 => by
    simp only [bp, List.map_append, bp_map f a gs ws m, List.getElem?_map]
    congr 1
    · congr 1
      split <;> rfl
    · cases ws[m]? <;> rfl
noncomputable def Pg.xs (p : Pg) : List (Str × Dt) := (p.cs.map (fun h => (jn (hwC h), hpC h)) ++ p.ss.map (fun h => (jn (hwS h), hpS h))) ++ bp (fun k : Nat => (jn (atW k), atP k)) p.gs (p.rs.map fun r => (jn r.2.1, r.2.2)) (p.rs.length + 1)
theorem xs_1 (p : Pg) : p.xs.map (·.1) = p.ws.map jn := by
  unfold Pg.xs Pg.ws
  rw [List.map_append, List.map_append, List.map_append, List.map_append, bp_map, bp_map, List.map_map, List.map_map, List.map_map, List.map_map, List.map_map, List.map_map]
  rfl
theorem xs_2 (p : Pg) : p.xs.map (·.2) = p.ps := by
  unfold Pg.xs Pg.ps
  rw [List.map_append, List.map_append, bp_map, List.map_map, List.map_map, List.map_map]
  rfl
theorem xs_ok (h : p.Ok) : ∀ q ∈ p.xs, q29 [.str q.1] = some (.leaf q.2) ∧ Lk q.2 := fun q hq => by
  have hlr := h.lr
  unfold Pg.xs at hq
  rcases List.mem_append.mp hq with hq | hq
  · rcases List.mem_append.mp hq with hq | hq
    · obtain ⟨x, hx, rfl⟩ := List.mem_map.mp hq
      exact ⟨parse_h (h.gc x hx).hd, (hpC_lk x).1⟩
    · obtain ⟨x, hx, rfl⟩ := List.mem_map.mp hq
      exact ⟨parse_h (h.gsh x hx).hd, (hpS_lk x).1⟩
  · rcases bp_mem _ p.gs _ _ _ hq with ⟨k, hk, hg, rfl⟩ | hw
    · exact ⟨parse_h (Hd.at_ (by omega) (by omega) : Hd _ (atW k) (atP k)), (atP_lk k).1⟩
    · obtain ⟨x, hx, rfl⟩ := List.mem_map.mp hw
      exact ⟨parse (h.gr x hx), (h.gr x hx).lk.1⟩
theorem txt_split (h : p.Ok) (h0 : p.rs ≠ []) : g_split (.str p.txt) [.str (Str.ofString "\n")] = some (.lst ((p.ws.map jn).map .str)) := by
  obtain ⟨h1, h2⟩ := txt_lines h
  have hne : p.ws.map jn ≠ [] := fun z => by
    have z := List.map_eq_nil_iff.mp z
    unfold Pg.ws at z
    have z := (List.append_eq_nil_iff.mp z).2
    cases e : p.rs with
    | nil => exact h0 e
    | cons r rs =>
      have : ∀ m, bp atW p.gs (p.rs.map (·.2.1)) (m + 1) ≠ [] := fun m => by
        induction m with
        | zero => simp [bp, e]
        | succ m ih =>
          intro z
          rw [bp_succ] at z
          exact ih (List.append_eq_nil_iff.mp z).1
      exact this _ z
  have hl : p.txt.length ≤ (p.ws.map jn).length * 201 := len_join (b := 200) fun s hs => by
    obtain ⟨w, hw, rfl⟩ := List.mem_map.mp hs
    have := jn_len (h1 w hw).1
    have := (h1 w hw).2.2
    omega
  rw [List.length_map] at hl
  rw [nl_code]
  have e : Txt.split p.txt ⟨#[10]⟩ = p.ws.map jn := split_of 10 hne fun s hs => by
    obtain ⟨w, hw, rfl⟩ := List.mem_map.mp hs
    exact jn_free (h1 w hw).1
  show (if ((⟨#[10]⟩ : Str).length == 0) = false ∧ p.txt.length + 2 ≤ sizeLine then some (T.lst ((Txt.split p.txt ⟨#[10]⟩).map .str)) else none) = _
  rw [if_pos ⟨rfl, small (by omega)⟩, e]
theorem lines_ok (h : p.Ok) (h0 : p.rs ≠ []) : z57 [.str p.txt] = some (.lst p.ps) := by
  unfold z57
  have hm := ps_mem h
  have ho : OrdL true (p.xs.map (·.2)) := by
    rw [xs_2]
    exact ord_of (fun d hd => (hm.1 d hd).2.1) (fun d hd => (hm.2 d hd).2)
  have hl : p.xs.length ≤ 200 := by
    have := (txt_lines h).2
    have e := congrArg List.length (xs_1 p)
    simp at e
    omega
  obtain ⟨b', x', y', z', e⟩ := lines_go (some (.leaf (.str p.txt))) p.xs 0 [] true none none none (xs_ok h) ho (by simp; omega)
  have e1 : (p.xs.map fun q => Dt.str q.1) = (p.ws.map jn).map .str := by rw [← xs_1, List.map_map]; rfl
  rw [e1, List.nil_append, xs_2] at e
  walk_at "d"
  rw [txt_split h h0]
  walk_at "d"
  rw [show enumD [.lst ((p.ws.map jn).map .str)] = some (enumL 0 ((p.ws.map jn).map .str)) from rfl, Option.bind_some, e]
  walk_at "d"
end P12
namespace P12
open PySem L2 PyProof.Rows
variable {p : Pg}
theorem look_no {ks : List Key} {k : Key} : ∀ {l : List Dt}, k ∉ ks → lookZ ks l k = none := by
  induction ks with
  | nil => intro l _; rfl
  | cons k' ks ih =>
    intro l h
    cases l with
    | nil => rfl
    | cons d l =>
      unfold lookZ
      rw [if_neg fun z => h (by simp [z]), ih fun z => h (by simp [z])]
theorem put_new {k : Key} {d : Dt} : ∀ {l : List (Key × Dt)}, k ∉ l.map (·.1) → putD l k d = l ++ [(k, d)]
  | [], _ => rfl
  | q :: l, h => by
    unfold putD
    rw [if_neg fun z => h (by simp [z]), put_new fun z => h (by simp at z ⊢; exact .inr z)]
    rfl
theorem sPut_new {i : Nat} {fk fe : De → Option Dt} {δ : De} {l : List (Key × Dt)} {x : Str} {d : Dt} (h : δ[i]? = some (some (.dct l))) (hk : fk δ = some (.str x)) (he : fe δ = some d) (hn : (.inr x : Key) ∉ l.map (·.1)) (hd : (l.map (·.1)).Nodup) (hl : l.length ≤ 1000) :
    sPut i fk fe δ = some (.nx (δ.set i (some (.dct (l ++ [(.inr x, d)]))))) := by
  unfold sPut
  rw [he, hk, h]
  show (if l.length < sizeLine ∧ (l.map (·.1)).Nodup then some (Out.nx (δ.set i (some (.dct (putD l (.inr x) d))))) else none) = _
  rw [if_pos ⟨small_lt (by omega), hd⟩, put_new hn]
theorem twice_go (s0 : Option T) : ∀ (ws : List Str) (l : List (Key × Dt)) (z : Option T), (l.map (·.1)).Nodup → ws.Nodup → (∀ w ∈ ws, (.inr w : Key) ∉ l.map (·.1)) → l.length + ws.length ≤ 900 →
    ∃ δ, forD (bName 2) z55 (ws.map .str) [s0, some (.dct l), z] = some (.nx δ)
  | [], l, z, _, _, _, _ => ⟨_, forD_nil⟩
  | w :: ws, l, z, h1, h2, h3, h4 => by
    simp only [List.length_cons] at h4
    obtain ⟨ha, hb⟩ := List.nodup_cons.mp h2
    have hw := h3 w (by simp)
    obtain ⟨δ, e⟩ := twice_go s0 ws (l ++ [(.inr w, .bl true)]) (some (.leaf (.str w))) (by
      rw [List.map_append, List.nodup_append]
      refine ⟨h1, by simp, fun a ha b hb z => ?_⟩
      simp at hb
      subst hb z
      exact hw ha) hb (fun x hx z => by
      rw [List.map_append] at z
      rcases List.mem_append.mp z with z | z
      · exact h3 x (List.mem_cons_of_mem _ hx) z
      · simp at z
        subst z
        exact ha hx) (by simp; omega)
    refine ⟨δ, ?_⟩
    rw [List.map_cons, forD_cons (δ1 := [s0, some (.dct l), some (.leaf (.str w))]) (δ2 := [s0, some (.dct (l ++ [(.inr w, .bl true)])), some (.leaf (.str w))]) rfl ?_, e]
    unfold z55
    have hs := sPut_new (i := 1) (fk := vB 2) (fe := kD (.bl true)) (δ := [s0, some (.dct l), some (.leaf (.str w))]) (l := l) (x := w) (d := .bl true) rfl rfl rfl hw h1 (by omega)
    have hi : tB2 (gInA false) (vB 2) (vB 1) [s0, some (.dct l), some (.leaf (.str w))] = some false := by
      show (gInA false (.str w) (.dct (l.map (·.1)) (l.map (·.2)))).bind _ = _
      rw [gIn_d]
      show (some (T.leaf (.bl (lookZ (l.map (·.1)) (l.map (·.2)) (.inr w)).isSome))).bind _ = _
      rw [look_no hw]
      rfl
    rw [sSeq_d, sIf_d, hi, condO_f, sNil, thenO_nx, hs]
    rfl
theorem twice_ok {ws : List Str} (h : ws.Nodup) (hl : ws.length ≤ 800) : y30 [.lst (ws.map .str)] = some (.leaf .non) := by
  obtain ⟨δ, e⟩ := twice_go (some (.leaf (.lst (ws.map .str)))) ws [] none (by simp) h (by simp) (by simp; omega)
  unfold y30
  walk_at "d"
  rw [show vDnew [some (T.leaf (.lst (ws.map .str))), none, none] = some (.dct []) from rfl]
  walk_at "d"
  rw [e]
  walk_at "d"
theorem num_inj {a b : Int} (ha : InR a) (hb : InR b) (h : num a = num b) : a = b := by
  have := value_ok ha
  rw [h, value_ok hb] at this
  cases this
  rfl
theorem lab_inj {a b : Int} (ha : InR a) (hb : InR b) (h : lab a = lab b) : a = b := by
  have e := congrArg (fun s : Str => s.cps.toList) h
  simp only [lab_codes] at e
  exact num_inj ha hb (str_ext (List.cons.inj e).2)
theorem nR {k : Nat} (h : k ≤ 100) : InR (k : Int) := ⟨by omega, by omega⟩
noncomputable def ats (gs : List Int) (m : Nat) : List Nat := (List.range m).filter fun k => decide ((k : Int) ∈ gs)
noncomputable def pl (gs : List Int) (m : Nat) : List (Key × Dt) := (ats gs m).map fun k : Nat => ((.inr (lab k) : Key), Dt.int k)
theorem ats_succ (gs : List Int) (m : Nat) : ats gs (m + 1) = ats gs m ++ if (m : Int) ∈ gs then [m] else [] := by
  unfold ats
  rw [List.range_succ, List.filter_append]
  congr 1
  by_cases h : (m : Int) ∈ gs <;> simp [h]
theorem ats_lt {gs : List Int} {m k : Nat} (h : k ∈ ats gs m) : k < m ∧ (k : Int) ∈ gs := by
  unfold ats at h
  simp at h
  exact h
theorem ats_len (gs : List Int) (m : Nat) : (ats gs m).length ≤ m := by
  unfold ats
  have := List.length_filter_le (fun k : Nat => decide ((k : Int) ∈ gs)) (List.range m)
  simpa using this
theorem ats_nd (gs : List Int) (m : Nat) : (ats gs m).Nodup := List.nodup_range.filter _
theorem labs_nd (gs : List Int) {m : Nat} (hm : m ≤ 100) : ((ats gs m).map fun k : Nat => lab k).Nodup := by
  unfold List.Nodup
  rw [List.pairwise_map]
  refine (ats_nd gs m).imp_of_mem fun {a b} ha hb hn z => hn ?_
  have := lab_inj (nR (by have := (ats_lt ha).1; omega)) (nR (by have := (ats_lt hb).1; omega)) z
  omega
theorem pl_keys (gs : List Int) (m : Nat) : (pl gs m).map (·.1) = ((ats gs m).map fun k : Nat => lab k).map fun x => (.inr x : Key) := by
  unfold pl
  rw [List.map_map, List.map_map]
  rfl
theorem pl_nd (gs : List Int) {m : Nat} (hm : m ≤ 100) : ((pl gs m).map (·.1)).Nodup := by
  rw [pl_keys]
  unfold List.Nodup
  rw [List.pairwise_map]
  exact (labs_nd gs hm).imp fun hn z => hn (Sum.inr.inj z)
theorem pl_new (gs : List Int) {m : Nat} (hm : m ≤ 100) : (.inr (lab m) : Key) ∉ (pl gs m).map (·.1) := fun z => by
  rw [pl_keys] at z
  obtain ⟨x, hx, e⟩ := List.mem_map.mp z
  obtain ⟨k, hk, rfl⟩ := List.mem_map.mp hx
  have hk := (ats_lt hk).1
  have := lab_inj (nR (by omega)) (nR hm) (Sum.inr.inj e)
  omega
theorem look_pl {j : Nat} : ∀ {ks : List Nat}, j ∈ ks → (∀ a ∈ ks, a ≤ 100) → lookZ (ks.map fun k : Nat => (.inr (lab k) : Key)) (ks.map fun k : Nat => Dt.int k) (.inr (lab j)) = some (.int j)
  | k :: ks, hj, hk => by
    simp only [List.map_cons, lookZ]
    by_cases e : k = j
    · rw [if_pos (by rw [e]), e]
    · have hj' : j ∈ ks := by
        rcases List.mem_cons.mp hj with h | h
        · exact absurd h.symm e
        · exact h
      rw [if_neg fun z => e (by
        have := lab_inj (nR (hk k (by simp))) (nR (hk j hj)) (Sum.inr.inj z)
        omega)]
      exact look_pl hj' fun a ha => hk a (List.mem_cons_of_mem _ ha)
theorem place_head {d : Dt} (hk : Lk d) (hh : isH d = true) (ha : isA d = false) (s0 s1 s2 : Option T) : q13 [s0, s1, s2, some (.leaf d)] = some (.nx [s0, s1, s2, some (.leaf d)]) := by
  obtain ⟨k, y, r, rfl⟩ := hk
  have hh : isHw k = true := hh
  have ha : decide (k = Str.ofString "at") = false := ha
  unfold q13
  walk_at "d"
  rw [ha]
  walk_at "d"
  rw [ninH, hh]
  walk_at "d"
theorem place_at {k c : Nat} (hc : c ≤ 100) {l : List (Key × Dt)} (hl : l.length ≤ 1000) (hd : (l.map (·.1)).Nodup) (hn : (.inr (lab k) : Key) ∉ l.map (·.1)) (s0 : Option T) : q13 [s0, some (.dct l), some (.leaf (.int c)), some (.leaf (atP k))] = some (.nx [s0, some (.dct (l ++ [(.inr (lab k), .int c)])), some (.leaf (.int c)), some (.leaf (atP k))]) := by
  unfold q13
  have hs := sPut_new (i := 1) (fk := toD (d2 gIxA (vB 3) (kD (.int 1)))) (fe := vL 2) (δ := [s0, some (.dct l), some (.leaf (.int c)), some (.leaf (atP k))]) (l := l) (x := lab k) (d := .int c) rfl rfl rfl hn hd (by omega)
  have hi : tB2 (gEq false) (toD (d2 gIxA (vB 3) (kD (.int 0)))) (kD (.str "at")) [s0, some (.dct l), some (.leaf (.int c)), some (.leaf (atP k))] = some true := by
    unfold atP
    walk_at "d"
  rw [sIf_d, hi, condO_t, hs]
  rfl
theorem place_row {d : Dt} (hk : Lk d) (hh : isH d = false) (ha : isA d = false) (s0 s1 : Option T) (c : Nat) (hc : c ≤ 100) : q13 [s0, s1, some (.leaf (.int c)), some (.leaf d)] = some (.nx [s0, s1, some (.leaf (.int (c + 1 : Nat))), some (.leaf d)]) := by
  obtain ⟨k, y, r, rfl⟩ := hk
  have hh : isHw k = false := hh
  have ha : decide (k = Str.ofString "at") = false := ha
  unfold q13
  walk_at "d"
  rw [ha]
  walk_at "d"
  rw [ninH, hh]
  walk_at "d"
  rfl
end P12
namespace P12
open PySem L2 PyProof.Rows
variable {p : Pg}
theorem heads_go (s0 s1 s2 : Option T) : ∀ {hs : List Dt} (x : Option T), (∀ d ∈ hs, Lk d ∧ isH d = true ∧ isA d = false) → ∃ y, Go (bName 3) q13 hs [s0, s1, s2, x] [s0, s1, s2, y]
  | [], x, _ => ⟨x, rfl⟩
  | d :: hs, x, h => by
    obtain ⟨y, g⟩ := heads_go s0 s1 s2 (hs := hs) (some (.leaf d)) fun a ha => h a (List.mem_cons_of_mem _ ha)
    obtain ⟨h1, h2, h3⟩ := h d (by simp)
    exact ⟨y, _, _, rfl, place_head h1 h2 h3 s0 s1 s2, g⟩
theorem pl_succ (gs : List Int) (m : Nat) : pl gs (m + 1) = pl gs m ++ if (m : Int) ∈ gs then [((.inr (lab m) : Key), Dt.int m)] else [] := by
  unfold pl
  rw [ats_succ, List.map_append]
  congr 1
  split <;> rfl
theorem body_go (gs : List Int) {ps : List Dt} (hp : ∀ d ∈ ps, Lk d ∧ isH d = false ∧ isA d = false) (hl : ps.length ≤ 60) (s0 : Option T) : ∀ (m : Nat) (x : Option T), m ≤ ps.length + 1 →
    ∃ y, Go (bName 3) q13 (bp atP gs ps m) [s0, some (.dct []), some (.leaf (.int (0 : Nat))), x] [s0, some (.dct (pl gs m)), some (.leaf (.int (min m ps.length : Nat))), y]
  | 0, x, _ => ⟨x, by simp [bp, Go, pl, ats]⟩
  | m + 1, x, hm => by
    obtain ⟨y, g⟩ := body_go gs hp hl s0 m x (by omega)
    have hmin : min m ps.length = m := by omega
    rw [hmin] at g
    have ga : ∃ y', Go (bName 3) q13 (if (m : Int) ∈ gs then [atP m] else []) [s0, some (.dct (pl gs m)), some (.leaf (.int m)), y] [s0, some (.dct (pl gs (m + 1))), some (.leaf (.int m)), y'] := by
      rw [pl_succ]
      by_cases hg : (m : Int) ∈ gs
      · rw [if_pos hg, if_pos hg]
        exact ⟨_, _, _, rfl, place_at (by omega) (by have := ats_len gs m; simp [pl]; omega) (pl_nd gs (by omega)) (pl_new gs (by omega)) s0, rfl⟩
      · rw [if_neg hg, if_neg hg, List.append_nil]
        exact ⟨y, rfl⟩
    obtain ⟨y1, ga⟩ := ga
    have gr : ∃ y', Go (bName 3) q13 (ps[m]?).toList [s0, some (.dct (pl gs (m + 1))), some (.leaf (.int m)), y1] [s0, some (.dct (pl gs (m + 1))), some (.leaf (.int (min (m + 1) ps.length : Nat))), y'] := by
      by_cases hk : m < ps.length
      · rw [List.getElem?_eq_getElem hk, Nat.min_eq_left (by omega)]
        obtain ⟨h1, h2, h3⟩ := hp _ (List.getElem_mem hk)
        exact ⟨_, _, _, rfl, place_row h1 h2 h3 s0 _ m (by omega), rfl⟩
      · rw [List.getElem?_eq_none (by omega), Nat.min_eq_right (by omega), show ps.length = m by omega]
        exact ⟨y1, rfl⟩
    obtain ⟨y2, gr⟩ := gr
    refine ⟨y2, ?_⟩
    rw [bp_succ]
    exact g.app (ga.app gr)
theorem row_lk (h : p.Ok) : ∀ d ∈ p.rs.map (·.2.2), Lk d ∧ isH d = false ∧ isA d = false := fun d hd => by
  obtain ⟨x, hx, rfl⟩ := List.mem_map.mp hd
  exact (h.gr x hx).lk
theorem places_ok (h : p.Ok) : q40 [.lst p.ps] = some (.dct (pl p.gs (p.rs.length + 1))) := by
  unfold q40
  have hlr := h.lr
  obtain ⟨y, g1⟩ := heads_go (some (.leaf (.lst p.ps))) (some (.dct [])) (some (.leaf (.int (0 : Nat)))) none (ps_mem h).1
  obtain ⟨y2, g2⟩ := body_go p.gs (row_lk h) (by simpa using hlr) (some (.leaf (.lst p.ps))) (p.rs.length + 1) y (by simp)
  have e := (g1.app g2).run
  walk_at "d"
  rw [show vDnew [some (T.leaf (.lst p.ps)), none, none, none] = some (.dct []) from rfl]
  walk_at "d"
  rw [show p.ps = (p.cs.map hpC ++ p.ss.map hpS) ++ bp atP p.gs (p.rs.map (·.2.2)) (p.rs.length + 1) from rfl] at e ⊢
  rw [show (0 : Int) = ((0 : Nat) : Int) from rfl, e]
  walk_at "d"
theorem filt_H (h : p.Ok) : p.ps.filter isH = p.cs.map hpC ++ p.ss.map hpS := by
  unfold Pg.ps
  rw [List.filter_append, List.filter_eq_self.mpr fun d hd => ((ps_mem h).1 d hd).2.1, List.filter_eq_nil_iff.mpr fun d hd => by rw [((ps_mem h).2 d hd).2]; simp, List.append_nil]
theorem filt_bpA (gs : List Int) {ps : List Dt} (hp : ∀ d ∈ ps, Lk d ∧ isH d = false ∧ isA d = false) : ∀ m, (bp atP gs ps m).filter isA = (ats gs m).map atP
  | 0 => rfl
  | m + 1 => by
    rw [bp_succ, List.filter_append, List.filter_append, filt_bpA gs hp m, ats_succ, List.map_append]
    congr 1
    have e : ((ps[m]?).toList).filter isA = [] := List.filter_eq_nil_iff.mpr fun d hd => by
      cases q : ps[m]? with
      | none => rw [q] at hd; cases hd
      | some x =>
        rw [q] at hd
        simp at hd
        subst hd
        rw [(hp _ (List.mem_of_getElem? q)).2.2]
        simp
    rw [e, List.append_nil]
    by_cases hg : (m : Int) ∈ gs
    · rw [if_pos hg, if_pos hg]
      simp [(atP_lk m).2.2]
    · rw [if_neg hg, if_neg hg]
      rfl
theorem filt_A (h : p.Ok) : p.ps.filter isA = (ats p.gs (p.rs.length + 1)).map atP := by
  unfold Pg.ps
  rw [List.filter_append, List.filter_eq_nil_iff.mpr fun d hd => by rw [((ps_mem h).1 d hd).2.2]; simp, List.nil_append, filt_bpA p.gs (row_lk h)]
theorem filt_bpR (gs : List Int) {ps : List Dt} (hp : ∀ d ∈ ps, Lk d ∧ isH d = false ∧ isA d = false) : ∀ m, (bp atP gs ps m).filter (fun d => !isH d && !isA d) = ps.take m
  | 0 => rfl
  | m + 1 => by
    rw [bp_succ, List.filter_append, List.filter_append, filt_bpR gs hp m, List.take_succ]
    congr 1
    have e : (if (m : Int) ∈ gs then [atP m] else []).filter (fun d => !isH d && !isA d) = [] := by
      split
      · simp [(atP_lk m).2.2]
      · rfl
    rw [e, List.nil_append]
    exact List.filter_eq_self.mpr fun d hd => by
      cases q : ps[m]? with
      | none => rw [q] at hd; cases hd
      | some x =>
        rw [q] at hd
        simp at hd
        subst hd
        have := hp _ (List.mem_of_getElem? q)
        rw [this.2.1, this.2.2]
        rfl
theorem filt_R (h : p.Ok) : p.ps.filter (fun d => !isH d && !isA d) = p.rs.map (·.2.2) := by
  unfold Pg.ps
  rw [List.filter_append, List.filter_eq_nil_iff.mpr fun d hd => by rw [((ps_mem h).1 d hd).2.1]; simp, List.nil_append, filt_bpR p.gs (row_lk h)]
  exact List.take_of_length_le (by simp)
end P12
namespace P12
open PySem L2 PyProof.Rows
variable {p : Pg}
theorem ninL (k : Str) : gInA true (.str k) c_LEADING = some (.leaf (.bl (!(decide (Str.ofString "if" = k) || decide (Str.ofString "go" = k))))) := by
  unfold c_LEADING
  walk_at "d"
theorem wn_non {k : Str} {r : List Dt} {D : Dt} (h : (decide (Str.ofString "if" = k) || decide (Str.ofString "go" = k)) = false) : q16 [.tup (.str k :: r), D] = some (.leaf (.tup (.str k :: r))) := by
  unfold q16
  walk_at "d"
  rw [ninL, h]
  walk_at "d"
theorem wn_lead {k x : Str} {r : List Dt} {ks : List Key} {l : List Dt} {e : Dt} (h : (decide (Str.ofString "if" = k) || decide (Str.ofString "go" = k)) = true) (hl : lookZ ks l (.inr x) = some e)
    (h1 : (Dt.str k :: r)[r.length]? = some (.str x)) {m : List Dt} (h2 : gSl (.tup (.str k :: r)) none (some (-1)) = some (.leaf (.tup (.str k :: m)))) (h3 : m.length ≤ 100) : q16 [.tup (.str k :: r), .dct ks l] = some (.leaf (.tup (.str k :: (m ++ [e])))) := by
  unfold q16
  walk_at "d"
  rw [ninL, h]
  walk_at "d"
  rw [h1]
  walk_at "d"
  rw [show keyD (.str x) = some (.inr x) from rfl]
  walk_at "d"
  rw [hl]
  rw [show (some !(some e).isSome) = some false from rfl]
  walk_at "d"
  rw [h2]
  walk_at "d"
  rw [show keyD (.str x) = some (.inr x) from rfl]
  walk_at "d"
  rw [hl]
  walk_at "d"
  rw [show ∀ a b, gAddT (.tup (.str k :: a)) (.tup [b]) = gAdd (.tup (.str k :: a)) (.tup [b]) from fun _ _ => rfl]
  rw [show gAdd (.tup (.str k :: m)) (.tup [e]) = some (.leaf (.tup ((.str k :: m) ++ [e]))) from if_pos ⟨small (by simp; omega), by simp, by simp⟩]
  rfl
theorem Rw.wn {r : Dt} {w : List Str} {q : Dt} (h : Rw r w q) {ks : List Key} {l : List Dt} (hl : P12.lead r = true → ∀ g, lastD r = .int g → lookZ ks l (.inr (lab g)) = some (.int g)) : q16 [q, .dct ks l] = some (.leaf r) := by
  cases h with
  | iff h1 h2 h3 =>
    exact wn_lead (k := Str.ofString "if") (by decide +kernel) (hl (show (decide (Str.ofString "if" = Str.ofString "if") || decide (Str.ofString "if" = Str.ofString "go")) = true by decide +kernel) _ rfl) rfl (m := [_]) rfl (by simp)
  | go h2 h3 =>
    exact wn_lead (k := Str.ofString "go") (by decide +kernel) (hl (show (decide (Str.ofString "go" = Str.ofString "if") || decide (Str.ofString "go" = Str.ofString "go")) = true by decide +kernel) _ rfl) rfl (m := []) rfl (by simp)
  | _ => exact wn_non (by decide +kernel)
theorem nm_c0 {d : Dt} (h : Lk d) : q65 [some (.leaf d)] = some (isH d) ∧ q64 [some (.leaf d)] = some (isA d) ∧ z66 [some (.leaf d)] = some (nmD d) ∧ z67 [some (.leaf d)] = some (nmD d) ∧ ∀ s1, y67 [some (.leaf d), s1] = some (!isH d && !isA d) := by
  obtain ⟨k, y, r, rfl⟩ := h
  exact ⟨c0 _ _, c1 _ _, e0 _ _ _, e1 _ _ _, fun s1 => c2 _ _ s1⟩
theorem ps_lk (h : p.Ok) : ∀ d ∈ p.ps, Lk d := fun d hd => by
  rcases List.mem_append.mp hd with hd | hd
  · exact ((ps_mem h).1 d hd).1
  · exact ((ps_mem h).2 d hd).1
theorem comp_0 (h : p.Ok) : compL (bName 0) q65 z66 [none] p.ps = some (((p.cs ++ p.ss).map (·.1)).map .str) := by
  rw [compL_filter (bb := bName 0) (ft := q65) (fe := z66) (δ := [none]) (ds := p.ps) (p := isH) (f := nmD) fun d hd => ⟨_, rfl, (nm_c0 (ps_lk h d hd)).1, fun _ => (nm_c0 (ps_lk h d hd)).2.2.1⟩, filt_H h, List.map_append, List.map_append, List.map_append, List.map_map, List.map_map, List.map_map, List.map_map]
  rfl
theorem comp_1 (h : p.Ok) : compL (bName 0) q64 z67 [none] p.ps = some (((ats p.gs (p.rs.length + 1)).map fun k : Nat => lab k).map .str) := by
  rw [compL_filter (bb := bName 0) (ft := q64) (fe := z67) (δ := [none]) (ds := p.ps) (p := isA) (f := nmD) fun d hd => ⟨_, rfl, (nm_c0 (ps_lk h d hd)).2.1, fun _ => (nm_c0 (ps_lk h d hd)).2.2.2.1⟩, filt_A h, List.map_map, List.map_map]
  rfl
noncomputable def plD (p : Pg) : Dt := .dct ((pl p.gs (p.rs.length + 1)).map (·.1)) ((pl p.gs (p.rs.length + 1)).map (·.2))
theorem wn_ok (h : p.Ok) {r : Rx} (hr : r ∈ p.rs) : q16 [r.2.2, plD p] = some (.leaf r.1) := by
  have hlr := h.lr
  refine (h.gr r hr).wn fun hl g hg => ?_
  have hm : lastD r.1 ∈ ((p.rs.map (·.1)).filter lead).map lastD := List.mem_map_of_mem (List.mem_filter.mpr ⟨List.mem_map_of_mem hr, hl⟩)
  rw [h.gl, hg] at hm
  obtain ⟨g', hg', e⟩ := List.mem_map.mp hm
  cases e
  obtain ⟨b1, b2⟩ := h.gi g hg'
  obtain ⟨j, rfl⟩ : ∃ j : Nat, g = j := ⟨g.toNat, by omega⟩
  have hj : j ∈ ats p.gs (p.rs.length + 1) := by
    unfold ats
    simp
    exact ⟨by omega, hg'⟩
  have := look_pl hj fun a ha => by have := (ats_lt ha).1; omega
  rw [show (pl p.gs (p.rs.length + 1)).map (·.1) = (ats p.gs (p.rs.length + 1)).map fun k : Nat => (.inr (lab k) : Key) by unfold pl; rw [List.map_map]; rfl, show (pl p.gs (p.rs.length + 1)).map (·.2) = (ats p.gs (p.rs.length + 1)).map fun k : Nat => Dt.int k by unfold pl; rw [List.map_map]; rfl]
  exact this
noncomputable def rowD (p : Pg) (d : Dt) : Dt := ((q16 [d, plD p]).map T.d).getD d
theorem comp_2 (h : p.Ok) : compL (bName 0) y67 y91 [none, some (.leaf (plD p))] p.ps = some (p.rs.map (·.1)) := by
  have hr : ∀ r ∈ p.rs, rowD p r.2.2 = r.1 := fun r hr => by
    unfold rowD
    rw [wn_ok h hr]
    rfl
  rw [compL_filter (bb := bName 0) (ft := y67) (fe := y91) (δ := [none, some (.leaf (plD p))]) (ds := p.ps) (p := fun d => !isH d && !isA d) (f := rowD p) fun d hd => ⟨_, rfl, (nm_c0 (ps_lk h d hd)).2.2.2.2 _, fun z => ?_⟩, filt_R h, List.map_map]
  · exact congrArg some (List.map_congr_left hr)
  · have : d ∈ p.ps.filter (fun d => !isH d && !isA d) := List.mem_filter.mpr ⟨hd, z⟩
    rw [filt_R h] at this
    obtain ⟨r, hm, rfl⟩ := List.mem_map.mp this
    rw [hr r hm]
    unfold y91
    show ((q16 [r.2.2, plD p]).map T.d) = _
    rw [wn_ok h hm]
    rfl
noncomputable def isC (d : Dt) : Bool := decide (Str.ofString "cell" = wordD d) || decide (Str.ofString "twin" = wordD d)
noncomputable def isS (d : Dt) : Bool := decide (Str.ofString "shelf" = wordD d) || decide (Str.ofString "twins" = wordD d)
noncomputable def trD (t : Str) : Dt → Dt
  | .tup [.str k, y, z] => .tup [y, z, .bl (decide (k = t))]
  | d => d
theorem hc_C {d : Dt} (h : Lk d) : z18 [some (.leaf d), some (.leaf c_CELLS)] = some (isC d) := by
  obtain ⟨k, y, r, rfl⟩ := h
  unfold z18 c_CELLS isC wordD
  walk_at "d"
theorem hc_S {d : Dt} (h : Lk d) : z18 [some (.leaf d), some (.leaf c_SHELVES)] = some (isS d) := by
  obtain ⟨k, y, r, rfl⟩ := h
  unfold z18 c_SHELVES isS wordD
  walk_at "d"
theorem he_C (k : Str) (y z : Dt) : y18 [some (.leaf (.tup [.str k, y, z])), some (.leaf c_CELLS)] = some (trD (Str.ofString "twin") (.tup [.str k, y, z])) := by
  unfold y18 c_CELLS trD
  walk_at "d"
theorem he_S (k : Str) (y z : Dt) : y18 [some (.leaf (.tup [.str k, y, z])), some (.leaf c_SHELVES)] = some (trD (Str.ofString "twins") (.tup [.str k, y, z])) := by
  unfold y18 c_SHELVES trD
  walk_at "d"
theorem kw_1 (b : Bool) : (decide (Str.ofString "cell" = kwC b) || decide (Str.ofString "twin" = kwC b)) = true ∧ (decide (Str.ofString "shelf" = kwC b) || decide (Str.ofString "twins" = kwC b)) = false ∧ decide (kwC b = Str.ofString "twin") = b := by cases b <;> decide +kernel
theorem kw_2 (b : Bool) : (decide (Str.ofString "cell" = kwS b) || decide (Str.ofString "twin" = kwS b)) = false ∧ (decide (Str.ofString "shelf" = kwS b) || decide (Str.ofString "twins" = kwS b)) = true ∧ decide (kwS b = Str.ofString "twins") = b := by cases b <;> decide +kernel
theorem noH {d : Dt} (h : isH d = false) : isC d = false ∧ isS d = false := by
  unfold isH isHw at h
  unfold isC isS
  simp only [Bool.or_eq_false_iff] at h ⊢
  exact ⟨⟨h.1, h.2.1⟩, h.2.2⟩
theorem filt_C (h : p.Ok) : p.ps.filter isC = p.cs.map hpC := by
  unfold Pg.ps
  have h1 : (p.cs.map hpC).filter isC = p.cs.map hpC := List.filter_eq_self.mpr fun d hd => by
    obtain ⟨x, hx, rfl⟩ := List.mem_map.mp hd
    exact (kw_1 x.2.2).1
  have h2 : (p.ss.map hpS).filter isC = [] := List.filter_eq_nil_iff.mpr fun d hd => by
    obtain ⟨x, hx, rfl⟩ := List.mem_map.mp hd
    rw [show isC (hpS x) = false from (kw_2 x.2.2).1]
    simp
  have h3 : (bp atP p.gs (p.rs.map (·.2.2)) (p.rs.length + 1)).filter isC = [] := List.filter_eq_nil_iff.mpr fun d hd => by
    rw [(noH ((ps_mem h).2 d hd).2).1]
    simp
  rw [List.filter_append, List.filter_append, h1, h2, h3, List.append_nil, List.append_nil]
theorem filt_S (h : p.Ok) : p.ps.filter isS = p.ss.map hpS := by
  unfold Pg.ps
  have h1 : (p.cs.map hpC).filter isS = [] := List.filter_eq_nil_iff.mpr fun d hd => by
    obtain ⟨x, hx, rfl⟩ := List.mem_map.mp hd
    rw [show isS (hpC x) = false from (kw_1 x.2.2).2.1]
    simp
  have h2 : (p.ss.map hpS).filter isS = p.ss.map hpS := List.filter_eq_self.mpr fun d hd => by
    obtain ⟨x, hx, rfl⟩ := List.mem_map.mp hd
    exact (kw_2 x.2.2).2.1
  have h3 : (bp atP p.gs (p.rs.map (·.2.2)) (p.rs.length + 1)).filter isS = [] := List.filter_eq_nil_iff.mpr fun d hd => by
    rw [(noH ((ps_mem h).2 d hd).2).2]
    simp
  rw [List.filter_append, List.filter_append, h1, h2, h3, List.append_nil, List.nil_append]
theorem tr_C (h : Hx) : trD (Str.ofString "twin") (hpC h) = hdD h := by
  show Dt.tup [.str h.1, .int h.2.1, .bl (decide (kwC h.2.2 = Str.ofString "twin"))] = _
  rw [(kw_1 h.2.2).2.2]
  rfl
theorem tr_S (h : Hx) : trD (Str.ofString "twins") (hpS h) = hdD h := by
  show Dt.tup [.str h.1, .int h.2.1, .bl (decide (kwS h.2.2 = Str.ofString "twins"))] = _
  rw [(kw_2 h.2.2).2.2]
  rfl
theorem hr_C (h : p.Ok) : y26 [.lst p.ps, c_CELLS] = some (.leaf (.tup (p.cs.map hdD))) := by
  have e : compL (bName 0) z18 y18 [none, some (.leaf c_CELLS)] p.ps = some (p.cs.map hdD) := by
    rw [compL_filter (bb := bName 0) (ft := z18) (fe := y18) (δ := [none, some (.leaf c_CELLS)]) (ds := p.ps) (p := isC) (f := trD (Str.ofString "twin")) fun d hd => ⟨_, rfl, hc_C (ps_lk h d hd), fun z => ?_⟩, filt_C h, List.map_map]
    · exact congrArg some (List.map_congr_left fun x _ => tr_C x)
    · have : d ∈ p.ps.filter isC := List.mem_filter.mpr ⟨hd, z⟩
      rw [filt_C h] at this
      obtain ⟨x, hx, rfl⟩ := List.mem_map.mp this
      exact he_C _ _ _
  have hl := h.lc
  unfold y26
  walk_at "d"
  rw [e, Option.bind_some, mkL_of (by simp; omega)]
  walk_at "d"
theorem hr_S (h : p.Ok) : y26 [.lst p.ps, c_SHELVES] = some (.leaf (.tup (p.ss.map hdD))) := by
  have e : compL (bName 0) z18 y18 [none, some (.leaf c_SHELVES)] p.ps = some (p.ss.map hdD) := by
    rw [compL_filter (bb := bName 0) (ft := z18) (fe := y18) (δ := [none, some (.leaf c_SHELVES)]) (ds := p.ps) (p := isS) (f := trD (Str.ofString "twins")) fun d hd => ⟨_, rfl, hc_S (ps_lk h d hd), fun z => ?_⟩, filt_S h, List.map_map]
    · exact congrArg some (List.map_congr_left fun x _ => tr_S x)
    · have : d ∈ p.ps.filter isS := List.mem_filter.mpr ⟨hd, z⟩
      rw [filt_S h] at this
      obtain ⟨x, hx, rfl⟩ := List.mem_map.mp this
      exact he_S _ _ _
  have hl := h.ls
  unfold y26
  walk_at "d"
  rw [e, Option.bind_some, mkL_of (by simp; omega)]
  walk_at "d"
theorem read_ok (h : p.Ok) (h0 : p.rs ≠ []) : F_read [.str p.txt] = some (.leaf p.d) := by
  have hlr := h.lr
  have hlc := h.lc
  have hls := h.ls
  have ha := ats_len p.gs (p.rs.length + 1)
  unfold F_read
  walk_at "d"
  rw [lines_ok h h0]
  walk_at "d"
  rw [comp_0 h, Option.bind_some, mkL_of (by simp; omega)]
  walk_at "d"
  rw [twice_ok h.nd (by simp; omega)]
  walk_at "d"
  rw [comp_1 h, Option.bind_some, mkL_of (by simp; omega)]
  walk_at "d"
  rw [twice_ok (labs_nd p.gs (by omega)) (by simp; omega)]
  walk_at "d"
  rw [places_ok h]
  walk_at "d"
  have e2 := comp_2 h
  unfold plD at e2
  rw [e2, Option.bind_some, mkL_of (by simp; omega)]
  walk_at "d"
  rw [hr_C h]
  walk_at "d"
  rw [hr_S h]
  walk_at "d"
  rfl
end P12
namespace P12
open PySem L2 PyProof.Rows
theorem cell_ok (ns : List Int) (k : Nat) (hk : k ≤ 1000) : ∃ v, z26 [.lst (ns.map .int), .int k] = some (.leaf (.int v)) := by
  unfold z26
  walk_at "d"
  rw [List.length_map]
  by_cases h : k < ns.length
  · rw [condO_p (by simpa using h)]
    walk_at "d"
    obtain ⟨v, e, hm⟩ := atI_in (xs := ns.map Dt.int) (i := k) (by omega) (by rw [List.length_map]; omega)
    obtain ⟨x, _, rfl⟩ := List.mem_map.mp hm
    rw [e]
    exact ⟨x, rfl⟩
  · rw [condO_n (by simpa using h)]
    walk_at "d"
    rw [List.length_map]
    by_cases h0 : 0 < ns.length
    · rw [condO_p (by simpa using h0)]
      walk_at "d"
      rw [List.length_map, gMod_i (by omega)]
      walk_at "d"
      obtain ⟨v, e, hm⟩ := atI_in (xs := ns.map Dt.int) (i := (k : Int) % (ns.length : Nat)) (Int.emod_nonneg _ (by omega)) (by rw [List.length_map]; exact Int.emod_lt_of_pos _ (by omega))
      obtain ⟨x, _, rfl⟩ := List.mem_map.mp hm
      rw [e]
      walk_at "d"
      have m0 := Int.emod_nonneg x (show (999983 : Int) ≠ 0 by decide)
      have m1 := Int.emod_lt_of_pos x (show (0 : Int) < 999983 by decide)
      rw [gMul_r (by omega) (by omega)]
      walk_at "d"
      exact ⟨_, rfl⟩
    · rw [condO_n (by simpa using h0)]
      walk_at "d"
      rw [gMul_r (by omega) (by omega)]
      walk_at "d"
      exact ⟨_, rfl⟩
noncomputable def part (c j m : Int) : Int := match z6 [.int c, .int j, .int m] with | some (.leaf (.int v)) => v | _ => 0
theorem primes_at (j : Nat) : ∃ q : Int, atI [Dt.int 10007, .int 10009, .int 10037, .int 10039, .int 10061, .int 10067, .int 10069, .int 10079] ((j : Int) % 8) = some (.int q) ∧ 0 < q := by
  obtain ⟨k, hk, ek⟩ := emod_cases (j : Int) (n := 8) (by decide)
  rw [show ((8 : Nat) : Int) = 8 from rfl] at ek
  rw [ek]
  have q : k = 0 ∨ k = 1 ∨ k = 2 ∨ k = 3 ∨ k = 4 ∨ k = 5 ∨ k = 6 ∨ k = 7 := by omega
  rcases q with rfl | rfl | rfl | rfl | rfl | rfl | rfl | rfl <;> exact ⟨_, rfl, by decide⟩
theorem prt_ok (c : Int) (j : Nat) {m : Int} (hm : 0 < m) : z6 [.int c, .int j, .int m] = some (.leaf (.int (part c j m))) ∧ 0 ≤ part c j m ∧ part c j m < m := by
  obtain ⟨q, eq, hq⟩ := primes_at j
  have e : z6 [.int c, .int j, .int m] = some (.leaf (.int ((c * 48271 + 7919 * j) % q % m))) := by
    unfold z6
    walk_at "d"
    rw [eq]
    walk_at "d"
    rw [gMod_i hq]
    walk_at "d"
    rw [gMod_i hm]
    rfl
  have e2 : part c j m = (c * 48271 + 7919 * j) % q % m := by unfold part; rw [e]
  rw [e2]
  exact ⟨e, Int.emod_nonneg _ (by omega), Int.emod_lt_of_pos _ hm⟩
noncomputable def letters : Str := "abcdefghijklmnopqrstuvwxyz"
theorem letters_at (i : Nat) (h : i < 26) : gIxA (.str letters) (.int i) = some (.leaf (.str ⟨#[97 + i]⟩)) := by
  have key : ∀ i < 26, ([97, 98, 99, 100, 101, 102, 103, 104, 105, 106, 107, 108, 109, 110, 111, 112, 113, 114, 115, 116, 117, 118, 119, 120, 121, 122] : List Nat)[i]? = some (97 + i) := by decide
  rw [gIx_s (small (by decide +kernel)), atI_nat', show letters.cps.toList = _ from codes_L, key i h]
  rfl
noncomputable def like (b : Int) : Bool := decide (part b 5 4 = 1)
noncomputable def lkI (b : Int) : Int := if like b then 1 else 0
theorem lkI_is (b : Int) : lkI b = 0 ∨ lkI b = 1 := by
  unfold lkI
  split <;> simp
noncomputable def nsz (b : Int) : Nat := (1 + part b 7 (6 - lkI b)).toNat
theorem nsz_is (b : Int) : ((nsz b : Nat) : Int) = 1 + part b 7 (6 - lkI b) ∧ 1 ≤ nsz b ∧ (nsz b : Int) ≤ 6 - lkI b := by
  have h := prt_ok b 7 (m := 6 - lkI b) (by rcases lkI_is b with h | h <;> rw [h] <;> decide)
  unfold nsz
  have h1 := h.2.1
  have h2 := h.2.2
  have e : (((7 : Nat) : Int)) = 7 := rfl
  rw [e] at h1 h2
  omega
noncomputable def ncs (b : Int) : List Nat := (List.range (nsz b)).map fun i : Nat => 97 + (part b i 26).toNat
theorem ncs_len (b : Int) : (ncs b).length = nsz b := by simp [ncs]
noncomputable def npos (b : Int) : Nat := (part b 3 (nsz b)).toNat
noncomputable def nlet (b : Int) (k : Nat) : Nat := 97 + ((part b 4 26).toNat + k) % 26
noncomputable def nword (b : Int) (k : Nat) : Str := [Str.ofString "at", Str.ofString "cell", Str.ofString "twin", Str.ofString "shelf", Str.ofString "twins", Str.ofString "load", Str.ofString "store", Str.ofString "take", Str.ofString "lay", Str.ofString "hear", Str.ofString "say", Str.ofString "end", Str.ofString "if", Str.ofString "go"].getD ((k + (part b 6 14).toNat) % 14) (Str.ofString "at")
noncomputable def nfree (b : Int) (k : Nat) : Str := ⟨((ncs b).set (npos b) (nlet b k)).toArray⟩ ++ (if like b then Str.ofString "q" else Str.empty)
noncomputable def nam (b : Int) (k : Nat) : Str := if like b = true ∧ k < 12 then nword b k else nfree b k
theorem npos_lt (b : Int) : npos b < nsz b ∧ ((npos b : Nat) : Int) = part b 3 (nsz b) := by
  have h := prt_ok b 3 (m := nsz b) (by have := (nsz_is b).2.1; omega)
  have h1 := h.2.1
  have h2 := h.2.2
  have e : (((3 : Nat) : Int)) = 3 := rfl
  rw [e] at h1 h2
  unfold npos
  omega
theorem name_c (b : Int) : compL (bName 0) tYesD y53 [none, some (.leaf (.int b)), some (.leaf (.str letters))] (rangeD 0 (nsz b)) = some (sgD (ncs b)) := by
  have key : ∀ n : Nat, compL (bName 0) tYesD y53 [none, some (.leaf (.int b)), some (.leaf (.str letters))] (rangeD 0 n) = some ((rangeD 0 n).map fun d => match d with | .int i => .str ⟨#[97 + (part b i 26).toNat]⟩ | d => d) := fun n => by
    refine compL_map fun d hd => ?_
    obtain ⟨i, hi, rfl⟩ := mem_range hd
    refine ⟨_, rfl, rfl, ?_⟩
    rw [Int.zero_add]
    unfold y53
    have h := prt_ok b i (m := 26) (by decide)
    walk_at "d"
    rw [h.1]
    walk_at "d"
    obtain ⟨v, hv⟩ : ∃ v : Nat, part b i 26 = v := ⟨(part b i 26).toNat, by omega⟩
    rw [hv, letters_at v (by omega)]
    rfl
  rw [key]
  unfold rangeD ncs sgD
  rw [List.map_map, List.map_map]
  exact congrArg some (List.map_congr_left fun i _ => by
    simp only [Function.comp_apply, Int.zero_add])
theorem words_at (w : Nat) (hw : w < 14) : atI [Dt.str (Str.ofString "at"), .str (Str.ofString "cell"), .str (Str.ofString "twin"), .str (Str.ofString "shelf"), .str (Str.ofString "twins"), .str (Str.ofString "load"), .str (Str.ofString "store"), .str (Str.ofString "take"), .str (Str.ofString "lay"), .str (Str.ofString "hear"), .str (Str.ofString "say"), .str (Str.ofString "end"), .str (Str.ofString "if"), .str (Str.ofString "go")] (w : Int) = some (.str ([Str.ofString "at", Str.ofString "cell", Str.ofString "twin", Str.ofString "shelf", Str.ofString "twins", Str.ofString "load", Str.ofString "store", Str.ofString "take", Str.ofString "lay", Str.ofString "hear", Str.ofString "say", Str.ofString "end", Str.ofString "if", Str.ofString "go"].getD w (Str.ofString "at"))) := by
  rw [atI_nat']
  have q : w = 0 ∨ w = 1 ∨ w = 2 ∨ w = 3 ∨ w = 4 ∨ w = 5 ∨ w = 6 ∨ w = 7 ∨ w = 8 ∨ w = 9 ∨ w = 10 ∨ w = 11 ∨ w = 12 ∨ w = 13 := by omega
  rcases q with rfl | rfl | rfl | rfl | rfl | rfl | rfl | rfl | rfl | rfl | rfl | rfl | rfl | rfl <;> rfl
end P12
namespace P12
open PySem L2 PyProof.Rows
theorem sPut_lst {i j : Nat} {fk fe : De → Option Dt} {δ : De} {l : List Dt} {n : Int} {d : Dt} (h : δ[i]? = some (some (.lst l))) (hk : fk δ = some (.int n)) (he : fe δ = some d) (hn : n = j) (hj : j < l.length) :
    sPut i fk fe δ = some (.nx (δ.set i (some (.lst (l.set j d))))) := by
  unfold sPut
  rw [he, hk, h]
  show ((ixN l.length n).map fun j => Out.nx (δ.set i (some (.lst (l.set j d))))) = _
  subst hn
  unfold ixN
  rw [if_pos (by omega), if_pos (by omega)]
  rfl
theorem name_if {b : Int} {k : Nat} (h : ¬ (like b = true ∧ k < 12)) (X : De → Option Out) (s0 s2 s3 s4 s5 s6 : Option T) : condO (condO (some (like b)) (tB2 (gCmp fun i j => decide (i < j)) (vB 1) (kD (.int 12))) (kB false) [s0, some (.leaf (.int k)), s2, s3, s4, s5, s6]) X sNil [s0, some (.leaf (.int k)), s2, s3, s4, s5, s6] = some (.nx [s0, some (.leaf (.int k)), s2, s3, s4, s5, s6]) := by
  cases e : like b
  · walk_at "d"
  · walk_at "d"
    rw [condO_n (by have : ¬ k < 12 := fun z => h ⟨e, z⟩; simp; omega)]
    walk_at "d"
theorem name_ok (b : Int) (k : Nat) (hk : k ≤ 100) : z21 [.int b, .int k] = some (.leaf (.str (nam b k))) := by
  have h5 := prt_ok b 5 (m := 4) (by decide)
  have h6 := prt_ok b 6 (m := 14) (by decide)
  have h4 := prt_ok b 4 (m := 26) (by decide)
  rw [show ((5 : Nat) : Int) = 5 from rfl] at h5
  rw [show ((6 : Nat) : Int) = 6 from rfl] at h6
  rw [show ((4 : Nat) : Int) = 4 from rfl] at h4
  obtain ⟨z1, z2, z3⟩ := nsz_is b
  obtain ⟨p1, p2⟩ := npos_lt b
  have h7 := prt_ok b 7 (m := 6 - lkI b) (by rcases lkI_is b with h | h <;> rw [h] <;> decide)
  have h3 := prt_ok b 3 (m := nsz b) (by omega)
  rw [show ((7 : Nat) : Int) = 7 from rfl] at h7
  rw [show ((3 : Nat) : Int) = 3 from rfl] at h3
  have hlk : decide (part b 5 4 = 1) = like b := rfl
  have hli : (if like b = true then (1 : Int) else 0) = lkI b := rfl
  unfold z21
  walk_at "d"
  rw [h5.1]
  walk_at "d"
  rw [hlk]
  by_cases hw : like b = true ∧ k < 12
  · rw [show nam b k = nword b k from if_pos hw, hw.1]
    walk_at "d"
    rw [condO_p (by simp; omega)]
    walk_at "d"
    rw [h6.1]
    walk_at "d"
    obtain ⟨v, hv⟩ : ∃ v : Nat, part b 6 14 = v := ⟨(part b 6 14).toNat, by omega⟩
    rw [hv, show ((k : Int) + (v : Int)) % 14 = (((k + v) % 14 : Nat) : Int) by omega, words_at _ (by omega)]
    walk_at "d"
    unfold nword
    rw [hv]
    rfl
  · rw [show nam b k = nfree b k from if_neg hw, name_if hw]
    walk_at "d"
    rw [hli, h7.1]
    walk_at "d"
    rw [← z1, rng1_n (by omega), Option.bind_some, show Str.ofString "abcdefghijklmnopqrstuvwxyz" = letters from rfl, name_c, Option.bind_some, mkL_of (by unfold sgD; rw [List.length_map, ncs_len]; omega)]
    obtain ⟨v, hv⟩ : ∃ v : Nat, part b 4 26 = v := ⟨(part b 4 26).toNat, by omega⟩
    rw [Option.map_some, thenO_nx, sSeq_d, sPut_lst (l := sgD (ncs b)) (n := part b 3 (nsz b)) (j := npos b) (d := .str ⟨#[nlet b k]⟩) ?a1 ?a2 ?a3 p2.symm ?a4]
    case a1 => rfl
    case a2 =>
      walk_at "d"
      rw [h3.1]
      rfl
    case a3 =>
      walk_at "d"
      rw [h4.1]
      walk_at "d"
      rw [hv, show ((v : Int) + (k : Int)) % 26 = (((v + k) % 26 : Nat) : Int) by omega, letters_at _ (by omega)]
      unfold nlet
      rw [hv]
      rfl
    case a4 =>
      unfold sgD
      rw [List.length_map, ncs_len]
      exact p1
    walk_at "d"
    rw [show (sgD (ncs b)).set (npos b) (.str ⟨#[nlet b k]⟩) = sgD ((ncs b).set (npos b) (nlet b k)) by unfold sgD; rw [List.map_set], show Str.ofString "" = ("" : Str) from rfl, join_sgD (by rw [List.length_set, ncs_len]; omega)]
    walk_at "d"
    have hl : (⟨((ncs b).set (npos b) (nlet b k)).toArray⟩ : Str).length ≤ 6 := by
      show ((ncs b).set (npos b) (nlet b k)).toArray.size ≤ 6
      simp [ncs_len]
      have := lkI_is b
      omega
    rw [hli]
    unfold nfree
    cases e : like b
    · rw [show lkI b = 0 by unfold lkI; rw [e]; rfl, show gMulS (.str (Str.ofString "q")) (.int 0) = some (.leaf (.str Str.empty)) from rfl]
      walk_at "d"
      rw [app_ok (by have : Str.empty.length = 0 := rfl; omega)]
      rfl
    · rw [show lkI b = 1 by unfold lkI; rw [e]; rfl, show gMulS (.str (Str.ofString "q")) (.int 1) = some (.leaf (.str (Str.ofString "q"))) from rfl]
      walk_at "d"
      have hq : (Str.ofString "q").length = 1 := by decide +kernel
      rw [app_ok (by omega)]
      rfl
noncomputable def nwords : List Str := [Str.ofString "at", Str.ofString "cell", Str.ofString "twin", Str.ofString "shelf", Str.ofString "twins", Str.ofString "load", Str.ofString "store", Str.ofString "take", Str.ofString "lay", Str.ofString "hear", Str.ofString "say", Str.ofString "end", Str.ofString "if", Str.ofString "go"]
theorem nwords_nm : ∀ w < 14, 1 ≤ (nwords.getD w (Str.ofString "at")).length ∧ (nwords.getD w (Str.ofString "at")).length ≤ 6 ∧ (∀ c ∈ (nwords.getD w (Str.ofString "at")).cps.toList, 97 ≤ c ∧ c ≤ 122) ∧ (nwords.getD w (Str.ofString "at")).cps.toList.getLast? ≠ some 113 := by decide +kernel
theorem nwords_inj : ∀ w < 14, ∀ v < 14, nwords.getD w (Str.ofString "at") = nwords.getD v (Str.ofString "at") → w = v := by decide +kernel
theorem nword_is (b : Int) (k : Nat) : nword b k = nwords.getD ((k + (part b 6 14).toNat) % 14) (Str.ofString "at") := rfl
theorem nfree_codes (b : Int) (k : Nat) : (nfree b k).cps.toList = (ncs b).set (npos b) (nlet b k) ++ (if like b then [113] else []) := by
  unfold nfree
  rw [cps_app]
  congr 1
  split
  · decide +kernel
  · rfl
theorem nlet_low (b : Int) (k : Nat) : Low (nlet b k) := by
  unfold nlet Low
  omega
theorem ncs_low (b : Int) : ∀ c ∈ ncs b, Low c := fun c hc => by
  unfold ncs at hc
  obtain ⟨i, _, rfl⟩ := List.mem_map.mp hc
  have h := prt_ok b i (m := 26) (by decide)
  unfold Low
  omega
theorem nam_nm (b : Int) (k : Nat) : Nm (nam b k) := by
  unfold nam
  split
  · rw [nword_is]
    have h := nwords_nm ((k + (part b 6 14).toNat) % 14) (by omega)
    exact ⟨h.1, h.2.1, h.2.2.1⟩
  · obtain ⟨z1, z2, z3⟩ := nsz_is b
    have hc := nfree_codes b k
    have hl : (nfree b k).length = nsz b + (if like b then 1 else 0) := by
      show (nfree b k).cps.size = _
      rw [← Array.length_toList, hc, List.length_append, List.length_set, ncs_len]
      split <;> rfl
    refine ⟨by omega, ?_, fun c hm => ?_⟩
    · rw [hl]
      unfold lkI at z3
      split <;> simp_all <;> omega
    · rw [hc] at hm
      rcases List.mem_append.mp hm with hm | hm
      · rcases List.mem_or_eq_of_mem_set hm with hm | rfl
        · exact ncs_low b c hm
        · exact nlet_low b k
      · split at hm
        · rw [List.mem_singleton.mp hm]
          exact ⟨by decide, by decide⟩
        · cases hm
theorem nam_inj (b : Int) {k j : Nat} (hk : 10 ≤ k) (hk2 : k ≤ 25) (hj : 10 ≤ j) (hj2 : j ≤ 25) (e : nam b k = nam b j) : k = j := by
  have hp := (npos_lt b).1
  have cross : ∀ {k j : Nat}, like b = true → nword b k = nfree b j → False := fun {k j} hl e => by
    have h := (nwords_nm ((k + (part b 6 14).toNat) % 14) (by omega)).2.2.2
    rw [← nword_is, e, nfree_codes, hl] at h
    exact h (by simp)
  unfold nam at e
  split at e <;> split at e <;> rename_i h1 h2
  · rw [nword_is, nword_is] at e
    have := nwords_inj _ (by omega) _ (by omega) e
    omega
  · exact (cross h1.1 e).elim
  · exact (cross h2.1 e.symm).elim
  · have e := congrArg (fun s : Str => s.cps.toList) e
    simp only [nfree_codes] at e
    have e := List.append_cancel_right e
    have e := congrArg (fun l : List Nat => l[npos b]?) e
    simp only [List.getElem?_set, ncs_len, hp, if_true] at e
    have e := Option.some.inj e
    unfold nlet at e
    omega
end P12
namespace P12
open PySem L2 PyProof.Rows
theorem gPow_39 : gPow (.int 2) (.int 39) = some (.leaf (.int 549755813888)) := by
  rw [gPow_i (by decide +kernel)]
  rfl
theorem atom_gen (c : Int) (j : Nat) (b : Int) : ∃ a s, q43 [.int c, .int j, .int b] = some (.leaf a) ∧ Atm a s := by
  have h := prt_ok c j (m := 5) (by decide)
  have h6 := prt_ok c (j + 1) (m := 6) (by decide)
  have h12 := prt_ok c (j + 1) (m := 12) (by decide)
  rw [show ((j + 1 : Nat) : Int) = (j : Int) + 1 from rfl] at h6 h12
  unfold q43
  walk_at "d"
  rw [h.1]
  walk_at "d"
  by_cases q : part c j 5 = 0
  · rw [condO_p (by simpa using q)]
    walk_at "d"
    rw [gPow_39]
    walk_at "d"
    rw [h6.1]
    walk_at "d"
    obtain ⟨v, hv⟩ : ∃ v : Nat, part c ((j : Int) + 1) 6 = v := ⟨(part c ((j : Int) + 1) 6).toNat, by omega⟩
    rw [hv, atI_nat', wide_eq]
    have q : v = 0 ∨ v = 1 ∨ v = 2 ∨ v = 3 ∨ v = 4 ∨ v = 5 := by omega
    rcases q with rfl | rfl | rfl | rfl | rfl | rfl
    · exact ⟨_, _, rfl, .vl ⟨by decide, by decide⟩⟩
    · exact ⟨_, _, rfl, .vl ⟨by decide, by decide⟩⟩
    · exact ⟨_, _, rfl, .vl ⟨by decide, by decide⟩⟩
    · exact ⟨_, _, rfl, .vl ⟨by decide, by decide⟩⟩
    · exact ⟨_, _, rfl, .vl ⟨by decide, by decide⟩⟩
    · exact ⟨_, _, rfl, .vl ⟨by decide, by decide⟩⟩
  · rw [condO_n (by simpa using q)]
    walk_at "d"
    by_cases q : part c j 5 = 1
    · rw [condO_p (by simpa using q)]
      walk_at "d"
      refine ⟨_, _, rfl, .vl ⟨?_, ?_⟩⟩
      · exact Int.emod_nonneg _ (by have := wide_pos; omega)
      · rw [← wide_eq]
        exact Int.emod_lt_of_pos _ wide_pos
    · rw [condO_n (by simpa using q)]
      walk_at "d"
      rw [h12.1]
      walk_at "d"
      obtain ⟨v, hv⟩ : ∃ v : Nat, part c ((j : Int) + 1) 12 = v := ⟨(part c ((j : Int) + 1) 12).toNat, by omega⟩
      rw [hv, name_ok b v (by omega)]
      exact ⟨_, _, rfl, .nm (nam_nm b v)⟩
theorem sg_at (v : Nat) (h : v < 8) : ∃ s, gIxA (.str (Str.ofString "+-*<=&|^")) (.int v) = some (.leaf (.str s)) ∧ Sg s := by
  have q : v = 0 ∨ v = 1 ∨ v = 2 ∨ v = 3 ∨ v = 4 ∨ v = 5 ∨ v = 6 ∨ v = 7 := by omega
  rcases q with rfl | rfl | rfl | rfl | rfl | rfl | rfl | rfl <;> exact ⟨_, rfl, by unfold Sg; decide +kernel⟩
theorem lead_no {k : Str} {r : List Dt} {P : Prop} (h : (decide (k = Str.ofString "if") || decide (k = Str.ofString "go")) = false) : lead (.tup (.str k :: r)) = true → P := fun z => by
  have z : (decide (k = Str.ofString "if") || decide (k = Str.ofString "go")) = true := z
  rw [h] at z
  cases z
theorem row_gen (c b : Int) (m : Nat) (hm : m ≤ 60) : ∃ r w q, q59 [.int c, .int b, .int m] = some (.leaf r) ∧ Rw r w q ∧ (lead r = true → ∃ g : Int, lastD r = .int g ∧ 0 ≤ g ∧ g ≤ m) := by
  have h2 := prt_ok c 2 (m := 12) (by decide)
  have h7 := prt_ok c 7 (m := 20) (by decide)
  have h0 := prt_ok c 0 (m := 12) (by decide)
  have h1 := prt_ok c 1 (m := 8) (by decide)
  have hg := prt_ok c 1 (m := (m : Int) + 1) (by omega)
  rw [show ((2 : Nat) : Int) = 2 from rfl] at h2
  rw [show ((7 : Nat) : Int) = 7 from rfl] at h7
  rw [show ((0 : Nat) : Int) = 0 from rfl] at h0
  rw [show ((1 : Nat) : Int) = 1 from rfl] at h1 hg
  obtain ⟨a, s, ea, ha⟩ := atom_gen c 3 b
  obtain ⟨a', s', ea', ha'⟩ := atom_gen c 5 b
  rw [show ((3 : Nat) : Int) = 3 from rfl] at ea
  rw [show ((5 : Nat) : Int) = 5 from rfl] at ea'
  obtain ⟨x, hx⟩ : ∃ v : Nat, part c 2 12 = v := ⟨(part c 2 12).toNat, by omega⟩
  obtain ⟨y, hy⟩ : ∃ v : Nat, part c 7 20 = v := ⟨(part c 7 20).toNat, by omega⟩
  obtain ⟨g, hgv⟩ : ∃ v : Int, part c 1 ((m : Int) + 1) = v := ⟨_, rfl⟩
  obtain ⟨sv, hsv⟩ : ∃ v : Nat, part c 1 8 = v := ⟨(part c 1 8).toNat, by omega⟩
  obtain ⟨sg, esg, hsg⟩ := sg_at sv (by omega)
  have nx := name_ok b x (by omega)
  have ny := name_ok b (4 + y) (by omega)
  have mx := nam_nm b x
  have my := nam_nm b (4 + y)
  generalize nam b x = X at nx mx
  generalize nam b (4 + y) = Y at ny my
  rw [show ((4 + y : Nat) : Int) = 4 + (y : Int) by omega] at ny
  unfold q59
  walk_at "d"
  rw [h2.1, hx]
  walk_at "d"
  rw [nx]
  walk_at "d"
  rw [ea]
  walk_at "d"
  rw [ea']
  walk_at "d"
  rw [h7.1, hy]
  walk_at "d"
  rw [ny]
  walk_at "d"
  rw [h0.1]
  have q : part c 0 12 = 0 ∨ part c 0 12 = 1 ∨ part c 0 12 = 2 ∨ part c 0 12 = 3 ∨ part c 0 12 = 4 ∨ part c 0 12 = 5 ∨ part c 0 12 = 6 ∨ part c 0 12 = 7 ∨ part c 0 12 = 8 ∨ part c 0 12 = 9 ∨ part c 0 12 = 10 ∨ part c 0 12 = 11 := by omega
  rcases q with q | q | q | q | q | q | q | q | q | q | q | q <;> rw [q] <;> walk_at "d"
  · exact ⟨_, _, _, rfl, .copy mx ha, lead_no (by decide +kernel)⟩
  · exact ⟨_, _, _, rfl, .copy mx ha, lead_no (by decide +kernel)⟩
  · rw [h1.1, hsv]
    walk_at "d"
    rw [esg]
    walk_at "d"
    exact ⟨_, _, _, rfl, .op mx hsg ha ha', lead_no (by decide +kernel)⟩
  · exact ⟨_, _, _, rfl, .load mx my, lead_no (by decide +kernel)⟩
  · exact ⟨_, _, _, rfl, .store my ha, lead_no (by decide +kernel)⟩
  · exact ⟨_, _, _, rfl, .take mx my ha, lead_no (by decide +kernel)⟩
  · exact ⟨_, _, _, rfl, .lay my ha ha', lead_no (by decide +kernel)⟩
  · exact ⟨_, _, _, rfl, .hear mx, lead_no (by decide +kernel)⟩
  · rw [show (8 : Int) - 8 = 0 from rfl]
    walk_at "d"
    exact ⟨_, _, _, rfl, .say ha, lead_no (by decide +kernel)⟩
  · rw [show (9 : Int) - 8 = 1 from rfl]
    walk_at "d"
    exact ⟨_, _, _, rfl, .fin ha, lead_no (by decide +kernel)⟩
  · rw [hg.1, hgv]
    walk_at "d"
    rw [show (10 : Int) - 10 = 0 from rfl]
    walk_at "d"
    exact ⟨_, _, _, rfl, .iff ha (by omega) (by omega), fun _ => ⟨g, rfl, by omega, by omega⟩⟩
  · rw [hg.1, hgv]
    walk_at "d"
    rw [show (11 : Int) - 10 = 1 from rfl]
    walk_at "d"
    exact ⟨_, _, _, rfl, .go (by omega) (by omega), fun _ => ⟨g, rfl, by omega, by omega⟩⟩
end P12
namespace P12
open PySem L2 PyProof.Rows
noncomputable def n1 (c : Int) : Int := if part c 3 4 = 1 then 8 else part c 1 4
noncomputable def n2 (c : Int) : Int := if part c 3 4 = 1 then 4 else part c 2 3
noncomputable def mm (c : Int) : Int := if part c 4 4 = 1 then 1 + part c 5 60 else 1 + part c 0 9
theorem if_sizes {c : Int} {s0 s1 s2 s3 s4 s6 s7 s8 s9 s10 s11 : Option T} : condO (some (decide (part c 3 4 = 1))) (sSet 5 (toT (toD (vLst (aCons (kD (.int 8)) (aCons (kD (.int 4)) aNil)))))) sNil [s0, s1, s2, s3, s4, some (.leaf (.lst [.int (part c 1 4), .int (part c 2 3)])), s6, s7, s8, s9, s10, s11]
    = some (.nx [s0, s1, s2, s3, s4, some (.leaf (.lst [.int (n1 c), .int (n2 c)])), s6, s7, s8, s9, s10, s11]) := by
  unfold n1 n2
  by_cases h : part c 3 4 = 1
  · rw [condO_p (by simpa using h), if_pos h, if_pos h]
    walk_at "d"
  · rw [condO_n (by simpa using h), if_neg h, if_neg h]
    walk_at "d"
theorem if_many {c : Int} {s0 s1 s3 s5 s6 s7 s8 s9 s10 s11 : Option T} : condO (some (decide (part c 4 4 = 1))) (sSet 4 (toT (toD (d2 gAdd (kD (.int 1)) (toD (vCall z6 (aCons (vL 2) (aCons (kD (.int 5)) (aCons (kD (.int 60)) aNil))))))))) sNil [s0, s1, some (.leaf (.int c)), s3, some (.leaf (.int (1 + part c 0 9))), s5, s6, s7, s8, s9, s10, s11]
    = some (.nx [s0, s1, some (.leaf (.int c)), s3, some (.leaf (.int (mm c))), s5, s6, s7, s8, s9, s10, s11]) := by
  unfold mm
  have h5 := prt_ok c 5 (m := 60) (by decide)
  rw [show ((5 : Nat) : Int) = 5 from rfl] at h5
  by_cases h : part c 4 4 = 1
  · rw [condO_p (by simpa using h), if_pos h]
    walk_at "d"
    rw [h5.1]
    walk_at "d"
  · rw [condO_n (by simpa using h), if_neg h]
    walk_at "d"
theorem n1_is (c : Int) : 0 ≤ n1 c ∧ n1 c ≤ 8 := by
  have h := prt_ok c 1 (m := 4) (by decide)
  rw [show ((1 : Nat) : Int) = 1 from rfl] at h
  unfold n1
  split <;> omega
theorem n2_is (c : Int) : 0 ≤ n2 c ∧ n2 c ≤ 4 := by
  have h := prt_ok c 2 (m := 3) (by decide)
  rw [show ((2 : Nat) : Int) = 2 from rfl] at h
  unfold n2
  split <;> omega
theorem mm_is (c : Int) : 1 ≤ mm c ∧ mm c ≤ 60 := by
  have h := prt_ok c 0 (m := 9) (by decide)
  have h5 := prt_ok c 5 (m := 60) (by decide)
  rw [show ((0 : Nat) : Int) = 0 from rfl] at h
  rw [show ((5 : Nat) : Int) = 5 from rfl] at h5
  unfold mm
  split <;> omega
theorem cell_turn (ns : List Int) {at0 : Nat} (ha : at0 ≤ 100) (b : Int) {k : Nat} (hk : k < 8) {L : List Dt} (hL : L.length ≤ 900) (s2 s4 s5 s8 s9 s10 s11 : Option T) :
    ∃ h : Hx, GC h ∧ h.1 = nam b (10 + k) ∧ ∃ y z, y32 [some (.leaf (.lst (ns.map .int))), some (.leaf (.int at0)), s2, some (.leaf (.int b)), s4, s5, some (.lst L), some (.leaf (.int k)), s8, s9, s10, s11] = some (.nx [some (.leaf (.lst (ns.map .int))), some (.leaf (.int at0)), s2, some (.leaf (.int b)), s4, s5, some (.lst (L ++ [hdD h])), some (.leaf (.int k)), y, z, s10, s11]) := by
  obtain ⟨v, ev⟩ := cell_ok ns (at0 + 2 + k) (by omega)
  rw [show ((at0 + 2 + k : Nat) : Int) = (at0 : Int) + 2 + (k : Int) by omega] at ev
  have h1 := prt_ok v 1 (m := 12) (by decide)
  have h2 := prt_ok v 2 (m := 2) (by decide)
  have h0 := prt_ok v 0 (m := 2) (by decide)
  rw [show ((1 : Nat) : Int) = 1 from rfl] at h1
  rw [show ((2 : Nat) : Int) = 2 from rfl] at h2
  rw [show ((0 : Nat) : Int) = 0 from rfl] at h0
  have hn := name_ok b (10 + k) (by omega)
  rw [show ((10 + k : Nat) : Int) = 10 + (k : Int) by omega] at hn
  have hc : ∃ st : Int, atI [Dt.int (part v 1 12), Dt.int (v * 94906267 % wide)] (part v 2 2) = some (.int st) ∧ InR st := by
    have q : part v 2 2 = 0 ∨ part v 2 2 = 1 := by omega
    rcases q with q | q <;> rw [q]
    · exact ⟨_, rfl, by omega, by omega⟩
    · refine ⟨_, rfl, Int.emod_nonneg _ (by have := wide_pos; omega), ?_⟩
      rw [← wide_eq]
      exact Int.emod_lt_of_pos _ wide_pos
  obtain ⟨st, est, hst⟩ := hc
  refine ⟨(nam b (10 + k), st, decide (part v 0 2 = 1)), ⟨nam_nm _ _, hst⟩, rfl, some (.leaf (.int v)), some (.leaf (.int st)), ?_⟩
  unfold y32
  walk_at "d"
  rw [ev]
  walk_at "d"
  rw [h1.1]
  walk_at "d"
  rw [h2.1]
  walk_at "d"
  rw [est]
  walk_at "d"
  rw [app_d rfl]
  walk_at "d"
  rw [hn]
  walk_at "d"
  rw [h0.1]
  walk_at "d"
  rw [appL_of (by omega)]
  rfl
theorem shelf_turn (ns : List Int) {at0 : Nat} (ha : at0 ≤ 100) (b : Int) {k : Nat} (hk : k < 4) {L : List Dt} (hL : L.length ≤ 900) (s2 s4 s5 s6 s8 s9 s11 : Option T) :
    ∃ h : Hx, GS h ∧ h.1 = nam b (18 + k) ∧ ∃ y, q31 [some (.leaf (.lst (ns.map .int))), some (.leaf (.int at0)), s2, some (.leaf (.int b)), s4, s5, s6, some (.leaf (.int k)), s8, s9, some (.lst L), s11] = some (.nx [some (.leaf (.lst (ns.map .int))), some (.leaf (.int at0)), s2, some (.leaf (.int b)), s4, s5, s6, some (.leaf (.int k)), y, s9, some (.lst (L ++ [hdD h])), s11]) := by
  obtain ⟨v, ev⟩ := cell_ok ns (at0 + 10 + k) (by omega)
  rw [show ((at0 + 10 + k : Nat) : Int) = (at0 : Int) + 10 + (k : Int) by omega] at ev
  have h1 := prt_ok v 1 (m := 8) (by decide)
  have h2 := prt_ok v 2 (m := 2) (by decide)
  rw [show ((1 : Nat) : Int) = 1 from rfl] at h1
  rw [show ((2 : Nat) : Int) = 2 from rfl] at h2
  have hn := name_ok b (18 + k) (by omega)
  rw [show ((18 + k : Nat) : Int) = 18 + (k : Int) by omega] at hn
  refine ⟨(nam b (18 + k), 1 + part v 1 8, decide (part v 2 2 = 1)), ⟨nam_nm _ _, by show 1 ≤ 1 + part v 1 8; omega, by show 1 + part v 1 8 ≤ 8; omega⟩, rfl, some (.leaf (.int v)), ?_⟩
  unfold q31
  walk_at "d"
  rw [ev]
  walk_at "d"
  rw [app_d rfl]
  walk_at "d"
  rw [hn]
  walk_at "d"
  rw [h1.1]
  walk_at "d"
  rw [h2.1]
  walk_at "d"
  rw [appL_of (by omega)]
  rfl
end P12
namespace P12
open PySem L2 PyProof.Rows
theorem cells_loop (ns : List Int) {at0 : Nat} (ha : at0 ≤ 100) (b : Int) (n : Nat) (hn : n ≤ 8) (s2 s4 s5 s7 s8 s9 s10 s11 : Option T) :
    ∃ cs : List Hx, (∀ h ∈ cs, GC h) ∧ cs.map (·.1) = (List.range n).map (fun i => nam b (10 + i)) ∧ ∃ x y z, forD (bName 7) y32 (rangeD 0 n) [some (.leaf (.lst (ns.map .int))), some (.leaf (.int at0)), s2, some (.leaf (.int b)), s4, s5, some (.lst []), s7, s8, s9, s10, s11] = some (.nx [some (.leaf (.lst (ns.map .int))), some (.leaf (.int at0)), s2, some (.leaf (.int b)), s4, s5, some (.lst (cs.map hdD)), x, y, z, s10, s11]) := by
  obtain ⟨δ', e, cs, x, y, z, h1, h2, rfl⟩ := forD_at (bb := bName 7) (g := y32) (all := rangeD 0 n)
    (P := fun done δ => ∃ (cs : List Hx) (x y z : Option T), (∀ h ∈ cs, GC h) ∧ cs.map (·.1) = (List.range done.length).map (fun i => nam b (10 + i)) ∧ δ = [some (.leaf (.lst (ns.map .int))), some (.leaf (.int at0)), s2, some (.leaf (.int b)), s4, s5, some (.lst (cs.map hdD)), x, y, z, s10, s11])
    (rangeD 0 n) [] [some (.leaf (.lst (ns.map .int))), some (.leaf (.int at0)), s2, some (.leaf (.int b)), s4, s5, some (.lst []), s7, s8, s9, s10, s11] rfl ⟨[], s7, s8, s9, by simp, by simp, rfl⟩ (fun done d r δ hd hP => by
      obtain ⟨rfl, hi⟩ := range_at hd
      obtain ⟨cs, x, y, z, h1, h2, rfl⟩ := hP
      rw [Int.zero_add]
      have hl : cs.length = done.length := by
        have := congrArg List.length h2
        simpa using this
      obtain ⟨h, g1, g2, y', z', e⟩ := cell_turn ns ha b (k := done.length) (by omega) (L := cs.map hdD) (by simp; omega) s2 s4 s5 y z s10 s11
      refine ⟨_, _, rfl, .inl e, cs ++ [h], _, y', z', fun a ha => ?_, ?_, by rw [List.map_append]; rfl⟩
      · rcases List.mem_append.mp ha with ha | ha
        · exact h1 a ha
        · rw [List.mem_singleton.mp ha]
          exact g1
      · rw [List.map_append, h2, List.length_append, List.length_singleton, List.range_succ, List.map_append]
        simp [g2])
  rw [range_len] at h2
  exact ⟨cs, h1, h2, x, y, z, e⟩
theorem shelves_loop (ns : List Int) {at0 : Nat} (ha : at0 ≤ 100) (b : Int) (n : Nat) (hn : n ≤ 4) (s2 s4 s5 s6 s7 s8 s9 s11 : Option T) :
    ∃ cs : List Hx, (∀ h ∈ cs, GS h) ∧ cs.map (·.1) = (List.range n).map (fun i => nam b (18 + i)) ∧ ∃ x y, forD (bName 7) q31 (rangeD 0 n) [some (.leaf (.lst (ns.map .int))), some (.leaf (.int at0)), s2, some (.leaf (.int b)), s4, s5, s6, s7, s8, s9, some (.lst []), s11] = some (.nx [some (.leaf (.lst (ns.map .int))), some (.leaf (.int at0)), s2, some (.leaf (.int b)), s4, s5, s6, x, y, s9, some (.lst (cs.map hdD)), s11]) := by
  obtain ⟨δ', e, cs, x, y, h1, h2, rfl⟩ := forD_at (bb := bName 7) (g := q31) (all := rangeD 0 n)
    (P := fun done δ => ∃ (cs : List Hx) (x y : Option T), (∀ h ∈ cs, GS h) ∧ cs.map (·.1) = (List.range done.length).map (fun i => nam b (18 + i)) ∧ δ = [some (.leaf (.lst (ns.map .int))), some (.leaf (.int at0)), s2, some (.leaf (.int b)), s4, s5, s6, x, y, s9, some (.lst (cs.map hdD)), s11])
    (rangeD 0 n) [] [some (.leaf (.lst (ns.map .int))), some (.leaf (.int at0)), s2, some (.leaf (.int b)), s4, s5, s6, s7, s8, s9, some (.lst []), s11] rfl ⟨[], s7, s8, by simp, by simp, rfl⟩ (fun done d r δ hd hP => by
      obtain ⟨rfl, hi⟩ := range_at hd
      obtain ⟨cs, x, y, h1, h2, rfl⟩ := hP
      rw [Int.zero_add]
      have hl : cs.length = done.length := by
        have := congrArg List.length h2
        simpa using this
      obtain ⟨h, g1, g2, y', e⟩ := shelf_turn ns ha b (k := done.length) (by omega) (L := cs.map hdD) (by simp; omega) s2 s4 s5 s6 y s9 s11
      refine ⟨_, _, rfl, .inl e, cs ++ [h], _, y', fun a ha => ?_, ?_, by rw [List.map_append]; rfl⟩
      · rcases List.mem_append.mp ha with ha | ha
        · exact h1 a ha
        · rw [List.mem_singleton.mp ha]
          exact g1
      · rw [List.map_append, h2, List.length_append, List.length_singleton, List.range_succ, List.map_append]
        simp [g2])
  rw [range_len] at h2
  exact ⟨cs, h1, h2, x, y, e⟩
theorem paired_rows {m : Nat} : ∀ {ds ys : List Dt}, Paired (fun _ y => ∃ w q, Rw y w q ∧ (lead y = true → ∃ g : Int, lastD y = .int g ∧ 0 ≤ g ∧ g ≤ m)) ds ys → ∃ (rs : List Rx) (gs : List Int), rs.map (·.1) = ys ∧ rs.length = ds.length ∧ (∀ r ∈ rs, GR r) ∧ (ys.filter lead).map lastD = gs.map .int ∧ ∀ g ∈ gs, 0 ≤ g ∧ g ≤ m
  | _, _, .nil => ⟨[], [], rfl, rfl, by simp, rfl, by simp⟩
  | _, _, .cons (b := y) ⟨w, q, hr, hl⟩ t => by
    obtain ⟨rs, gs, e1, e2, h1, h2, h3⟩ := paired_rows t
    cases hy : lead y
    · refine ⟨(y, w, q) :: rs, gs, by rw [List.map_cons, e1], by simp [e2], fun r hr' => ?_, ?_, h3⟩
      · rcases List.mem_cons.mp hr' with rfl | h
        · exact hr
        · exact h1 r h
      · rw [List.filter_cons_of_neg (by simp [hy]), h2]
    · obtain ⟨g, eg, g0, g1⟩ := hl hy
      refine ⟨(y, w, q) :: rs, g :: gs, by rw [List.map_cons, e1], by simp [e2], fun r hr' => ?_, ?_, fun a ha => ?_⟩
      · rcases List.mem_cons.mp hr' with rfl | h
        · exact hr
        · exact h1 r h
      · rw [List.filter_cons_of_pos hy, List.map_cons, eg, h2]
        rfl
      · rcases List.mem_cons.mp ha with rfl | h
        · exact ⟨g0, g1⟩
        · exact h3 a h
theorem rows_comp (ns : List Int) {at0 : Nat} (ha : at0 ≤ 100) (b : Int) (m : Nat) (hm : m ≤ 60) : ∃ (rs : List Rx) (gs : List Int), compL (bName 0) tYesD y41 [none, some (.leaf (.lst (ns.map .int))), some (.leaf (.int at0)), some (.leaf (.int b)), some (.leaf (.int m))] (rangeD 0 m) = some (rs.map (·.1)) ∧ rs.length = m ∧ (∀ r ∈ rs, GR r) ∧ ((rs.map (·.1)).filter lead).map lastD = gs.map .int ∧ ∀ g ∈ gs, 0 ≤ g ∧ g ≤ m := by
  obtain ⟨ys, e, hp⟩ := compL_ex (bb := bName 0) (ft := tYesD) (fe := y41) (ds := rangeD 0 m) (δ := [none, some (.leaf (.lst (ns.map .int))), some (.leaf (.int at0)), some (.leaf (.int b)), some (.leaf (.int m))]) (P := fun _ y => ∃ w q, Rw y w q ∧ (lead y = true → ∃ g : Int, lastD y = .int g ∧ 0 ≤ g ∧ g ≤ m)) fun d hd => by
    obtain ⟨i, hi, rfl⟩ := mem_range hd
    rw [Int.zero_add]
    obtain ⟨v, ev⟩ := cell_ok ns (at0 + 4 + i) (by omega)
    rw [show ((at0 + 4 + i : Nat) : Int) = (at0 : Int) + 4 + (i : Int) by omega] at ev
    obtain ⟨r, w, q, er, hr, hl⟩ := row_gen v b m hm
    refine ⟨_, r, rfl, rfl, ?_, w, q, hr, hl⟩
    unfold y41
    walk_at "d"
    rw [ev]
    walk_at "d"
    rw [er]
    rfl
  obtain ⟨rs, gs, rfl, h2, h3, h4, h5⟩ := paired_rows hp
  rw [range_len] at h2
  exact ⟨rs, gs, e, h2, h3, h4, h5⟩
end P12
namespace P12
open PySem L2 PyProof.Rows
theorem names_nd (b : Int) {i j : Nat} (hi : i ≤ 8) (hj : j ≤ 4) : ((List.range i).map (fun k => nam b (10 + k)) ++ (List.range j).map (fun k => nam b (18 + k))).Nodup := by
  have one : ∀ (a n : Nat), 10 ≤ a → a + n ≤ 25 → ((List.range n).map (fun k => nam b (a + k))).Nodup := fun a n h1 h2 => by
    unfold List.Nodup
    rw [List.pairwise_map]
    refine List.nodup_range.imp_of_mem fun {x y} hx hy hn z => hn ?_
    rw [List.mem_range] at hx hy
    have := nam_inj b (by omega) (by omega) (by omega) (by omega) z
    omega
  rw [List.nodup_append]
  refine ⟨one 10 i (by omega) (by omega), one 18 j (by omega) (by omega), fun x hx y hy z => ?_⟩
  obtain ⟨k, hk, rfl⟩ := List.mem_map.mp hx
  obtain ⟨l, hl, rfl⟩ := List.mem_map.mp hy
  rw [List.mem_range] at hk hl
  have := nam_inj b (by omega) (by omega) (by omega) (by omega) z
  omega
theorem prog_ok (ns : List Int) {at0 : Nat} (ha : at0 ≤ 100) : ∃ p : Pg, p.Ok ∧ p.rs ≠ [] ∧ q30 [.lst (ns.map .int), .int at0] = some (.leaf p.d) := by
  obtain ⟨c, ec⟩ := cell_ok ns at0 (by omega)
  obtain ⟨b, eb⟩ := cell_ok ns (at0 + 1) (by omega)
  rw [show ((at0 + 1 : Nat) : Int) = (at0 : Int) + 1 by omega] at eb
  have g0 := prt_ok c 0 (m := 9) (by decide)
  have g1 := prt_ok c 1 (m := 4) (by decide)
  have g2 := prt_ok c 2 (m := 3) (by decide)
  have g3 := prt_ok c 3 (m := 4) (by decide)
  have g4 := prt_ok c 4 (m := 4) (by decide)
  rw [show ((0 : Nat) : Int) = 0 from rfl] at g0
  rw [show ((1 : Nat) : Int) = 1 from rfl] at g1
  rw [show ((2 : Nat) : Int) = 2 from rfl] at g2
  rw [show ((3 : Nat) : Int) = 3 from rfl] at g3
  rw [show ((4 : Nat) : Int) = 4 from rfl] at g4
  have b1 := n1_is c
  have b2 := n2_is c
  have bm := mm_is c
  obtain ⟨i, hi⟩ : ∃ v : Nat, n1 c = v := ⟨(n1 c).toNat, by omega⟩
  obtain ⟨j, hj⟩ : ∃ v : Nat, n2 c = v := ⟨(n2 c).toNat, by omega⟩
  obtain ⟨m, hm⟩ : ∃ v : Nat, mm c = v := ⟨(mm c).toNat, by omega⟩
  obtain ⟨cs, c1, c2, x, y, z, e1⟩ := cells_loop ns ha b i (by omega) (some (.leaf (.int c))) (some (.leaf (.int m))) (some (.leaf (.lst [.int i, .int j]))) none none none none none
  obtain ⟨ss, d1, d2, x', y', e2⟩ := shelves_loop ns ha b j (by omega) (some (.leaf (.int c))) (some (.leaf (.int m))) (some (.leaf (.lst [.int i, .int j]))) (some (.lst (cs.map hdD))) x y z none
  obtain ⟨rs, gs, e3, r1, r2, r3, r4⟩ := rows_comp ns ha b m (by omega)
  have lc := congrArg List.length c2
  have ls := congrArg List.length d2
  simp only [List.length_map, List.length_range] at lc ls
  refine ⟨⟨cs, ss, rs, gs⟩, ⟨c1, d1, r2, r3, by show cs.length ≤ 8; omega, by show ss.length ≤ 4; omega, by show rs.length ≤ 60; omega, fun g hg => by rw [r1]; exact r4 g hg, ?_⟩, ?_, ?_⟩
  · show ((cs ++ ss).map (·.1)).Nodup
    rw [List.map_append, c2, d2]
    exact names_nd b (by omega) (by omega)
  · intro q
    have q : rs = [] := q
    rw [q] at r1
    simp at r1
    omega
  · unfold q30
    walk_at "d"
    rw [ec]
    walk_at "d"
    rw [eb]
    walk_at "d"
    rw [g0.1]
    walk_at "d"
    rw [g1.1]
    walk_at "d"
    rw [g2.1]
    walk_at "d"
    rw [g3.1]
    walk_at "d"
    rw [if_sizes, thenO_nx]
    walk_at "d"
    rw [g4.1]
    walk_at "d"
    rw [if_many, thenO_nx, hi, hj, hm]
    walk_at "d"
    rw [rng1_n (by omega), Option.bind_some, e1]
    walk_at "d"
    rw [rng1_n (by omega), Option.bind_some, e2]
    walk_at "d"
    rw [rng1_n (by omega), Option.bind_some, e3, Option.bind_some, mkL_of (by simp; omega)]
    walk_at "d"
    rfl
noncomputable def Flat : Dt → Prop
  | .str _ => True
  | .int _ => True
  | .bl _ => True
  | _ => False
theorem alike_str (F : List Dt → Option T) (x : Str) : y21 F [.str x, .str x] = some (.leaf (.bl true)) := by
  unfold y21
  walk_at "d"
theorem alike_int (F : List Dt → Option T) (x : Int) : y21 F [.int x, .int x] = some (.leaf (.bl true)) := by
  unfold y21
  walk_at "d"
theorem alike_bl (F : List Dt → Option T) (x : Bool) : y21 F [.bl x, .bl x] = some (.leaf (.bl true)) := by
  unfold y21
  walk_at "d"
end P12
namespace P12
open PySem L2 PyProof.Rows
variable {p : Pg}
theorem alike_tup {F : List Dt → Option T} {l : List Dt} (h : ∀ d ∈ l, F [d, d] = some (.leaf (.bl true))) (hl : l.length ≤ 1000) : y21 F [.tup l, .tup l] = some (.leaf (.bl true)) := by
  have e : compL (bName 0) tYesD (y64 F) [none, some (.leaf (.tup l)), some (.leaf (.tup l))] (rangeD 0 l.length) = some ((rangeD 0 l.length).map fun _ => .bl true) := by
    refine compL_map fun d hd => ?_
    obtain ⟨i, hi, rfl⟩ := mem_range hd
    refine ⟨_, rfl, rfl, ?_⟩
    rw [Int.zero_add]
    have g : atI l (i : Int) = some l[i] := by rw [atI_nat', List.getElem?_eq_getElem hi]
    unfold y64
    walk_at "d"
    rw [g]
    walk_at "d"
    rw [h _ (List.getElem_mem hi)]
    rfl
  unfold y21
  walk_at "d"
  rw [rng1_n (by omega), Option.bind_some, e, Option.bind_some, mkL_of (by simp [rangeD]; omega)]
  walk_at "d"
  rw [show gAll (fun bs => bs.all id) [.lst ((rangeD 0 l.length).map fun _ => Dt.bl true)] = some (.leaf (.bl true)) by
    show (asBls ((rangeD 0 l.length).map fun _ => Dt.bl true)).map (fun bs => T.leaf (.bl (bs.all id))) = _
    rw [asBls_map (fun _ => true)]
    simp]
  walk_at "d"
theorem alike_flat {d : Dt} (h : Flat d) (n : Nat) : y14 (n + 1) [d, d] = some (.leaf (.bl true)) := by
  cases d with
  | str x => exact alike_str _ x
  | int x => exact alike_int _ x
  | bl x => exact alike_bl _ x
  | _ => exact h.elim
theorem Atm.flat {a : Dt} {s : Str} (h : Atm a s) : Flat a := by cases h <;> trivial
theorem Rw.flat {r : Dt} {w : List Str} {q : Dt} (h : Rw r w q) : ∃ l : List Dt, r = .tup l ∧ l.length ≤ 10 ∧ ∀ d ∈ l, Flat d := by
  have key : ∀ {d : Dt} {l : List Dt}, Flat d → (∀ x ∈ l, Flat x) → ∀ x ∈ d :: l, Flat x := fun h1 h2 x hx => by
    rcases List.mem_cons.mp hx with rfl | hx
    · exact h1
    · exact h2 x hx
  have nil : ∀ x ∈ ([] : List Dt), Flat x := fun x hx => by cases hx
  cases h with
  | copy h1 h2 => exact ⟨_, rfl, by simp, key trivial (key trivial (key h2.flat nil))⟩
  | op h1 h2 h3 h4 => exact ⟨_, rfl, by simp, key trivial (key trivial (key trivial (key h3.flat (key h4.flat nil))))⟩
  | load h1 h2 => exact ⟨_, rfl, by simp, key trivial (key trivial (key trivial nil))⟩
  | store h1 h2 => exact ⟨_, rfl, by simp, key trivial (key trivial (key h2.flat nil))⟩
  | take h1 h2 h3 => exact ⟨_, rfl, by simp, key trivial (key trivial (key trivial (key h3.flat nil)))⟩
  | lay h1 h2 h3 => exact ⟨_, rfl, by simp, key trivial (key trivial (key h2.flat (key h3.flat nil)))⟩
  | hear h1 => exact ⟨_, rfl, by simp, key trivial (key trivial nil)⟩
  | say h1 => exact ⟨_, rfl, by simp, key trivial (key h1.flat nil)⟩
  | iff h1 h2 h3 => exact ⟨_, rfl, by simp, key trivial (key h1.flat (key trivial nil))⟩
  | go h2 h3 => exact ⟨_, rfl, by simp, key trivial (key trivial nil)⟩
  | fin h1 => exact ⟨_, rfl, by simp, key trivial (key h1.flat nil)⟩
theorem alike_row {l : List Dt} (hl : l.length ≤ 10) (h : ∀ d ∈ l, Flat d) (n : Nat) : y14 (n + 2) [.tup l, .tup l] = some (.leaf (.bl true)) := alike_tup (fun d hd => alike_flat (h d hd) n) (by omega)
theorem alike_head (h : Hx) (n : Nat) : y14 (n + 2) [hdD h, hdD h] = some (.leaf (.bl true)) := alike_row (by simp) (fun d hd => by
  simp at hd
  rcases hd with rfl | rfl | rfl <;> trivial) n
theorem alike_ok (h : p.Ok) : y14 6 [p.d, p.d] = some (.leaf (.bl true)) := by
  have hlr := h.lr
  have hlc := h.lc
  have hls := h.ls
  refine alike_tup (F := y14 5) (fun d hd => ?_) (by simp)
  simp only [List.mem_cons, List.not_mem_nil, or_false] at hd
  rcases hd with rfl | rfl | rfl
  · refine alike_tup (F := y14 4) (fun d hd => ?_) (by simp; omega)
    obtain ⟨x, _, rfl⟩ := List.mem_map.mp hd
    exact alike_head x 2
  · refine alike_tup (F := y14 4) (fun d hd => ?_) (by simp; omega)
    obtain ⟨x, _, rfl⟩ := List.mem_map.mp hd
    exact alike_head x 2
  · refine alike_tup (F := y14 4) (fun d hd => ?_) (by simp; omega)
    obtain ⟨x, hx, rfl⟩ := List.mem_map.mp hd
    obtain ⟨l, e, h1, h2⟩ := (h.gr x hx).flat
    rw [e]
    exact alike_row h1 h2 2
theorem right_ok (h : p.Ok) (h0 : p.rs ≠ []) : z31 [p.d] = some (.leaf (.bl true)) := by
  unfold z31
  walk_at "d"
  rw [text_ok h]
  walk_at "d"
  rw [write_ok h]
  walk_at "d"
  rw [read_ok h h0]
  walk_at "d"
  rw [alike_ok h]
  walk_at "d"
theorem main (ns : List Int) (hl : ns.length ≤ 63) : F_law [.lst (ns.map .int)] = some (.leaf (.bl true)) := by
  obtain ⟨p, h, h0, e⟩ := prog_ok ns (at0 := 0) (by omega)
  obtain ⟨q, k, k0, e'⟩ := prog_ok ns (at0 := 29) (by omega)
  rw [show ((0 : Nat) : Int) = 0 from rfl] at e
  rw [show ((29 : Nat) : Int) = 29 from rfl] at e'
  unfold F_law
  walk_at "d"
  rw [e]
  walk_at "d"
  rw [e']
  walk_at "d"
  rw [right_ok h h0]
  walk_at "d"
  rw [right_ok k k0]
  walk_at "d"
  rw [right_ok h h0]
  walk_at "d"
end P12
namespace P12
open PySem L2
noncomputable def sp_law (K : PySem.W.Frag) : Sp := fun vs H Q _ => ∃ (a : Addr) (ns : List Int), vs = [.ref a] ∧ SqL K H a (ns.map V.int) ∧ ns.length ≤ 63 ∧ Only H ∧ ∀ H', Q (.bl true) H'
theorem law_sp {K : PySem.W.Frag} {vs : List V} {H : Hp} {Q : VK} {E : XK} (h : sp_law K vs H Q E) : spD K 1 F_law vs H Q E := by
  obtain ⟨a, ns, rfl, hS, hl, hO, q⟩ := h
  refine ⟨H, [.lst (ns.map .int)], .leaf (.bl true), Same.refl H, rfl, ?_, main ns hl, fun v H' F' S st o _ => ?_⟩
  · simp only [Reps, Rep]
    exact ⟨_, [], rfl, ⟨a, _, rfl, hS, Reps.map (fun _ => rep_int) ns⟩, rfl⟩
  · have o : Rep K F' (.bl true) v := o
    simp only [Rep] at o
    subst o
    exact q H'
theorem all_mk {l : PySem.W.OpenLaw} {w : World} {K : PySem.W.Frag} {h : Heap} {mg : Str → Option Value} {fa : Addr} (X : K.In h) (G : h.Ns mainGlobals mg) (hfa : mg "law" = some (.ref fa))
    {f0 f1 f2 f3 f4 f5 f6 f7 f8 f9 f10 f11 f12 f13 f14 f15 f16 f17 f18 f19 f20 f21 f22 f23 f24 f25 f26 f27 f28 f29 f30 : Addr} {od0 an0 od1 an1 od2 an2 od3 an3 od4 an4 od5 an5 od6 an6 od7 an7 od8 an8 od9 an9 od10 an10 od11 an11 od12 an12 od13 an13 od14 an14 od15 an15 od16 an16 od17 an17 od18 an18 od19 an19 od20 an20 od21 an21 od22 an22 od23 an23 od24 an24 od25 an25 od26 an26 od27 an27 od28 an28 od29 an29 od30 an30 : Option Addr} {sl0 sl1 sl2 sl3 sl4 sl5 sl6 sl7 sl8 sl9 sl10 sl11 sl12 sl13 sl14 sl15 sl16 sl17 sl18 sl19 sl20 sl21 sl22 sl23 sl24 sl25 sl26 sl27 sl28 sl29 sl30 : Array (Option Value)} {oc0 kV0 dc0 pm0 cd0 ct0 oc1 kV1 dc1 pm1 cd1 ct1 oc2 kV2 dc2 pm2 cd2 ct2 oc3 kV3 dc3 pm3 cd3 ct3 oc4 kV4 dc4 pm4 cd4 ct4 oc5 kV5 dc5 pm5 cd5 ct5 oc6 kV6 dc6 pm6 cd6 ct6 oc7 kV7 dc7 pm7 cd7 ct7 oc8 kV8 dc8 pm8 cd8 ct8 oc9 kV9 dc9 pm9 cd9 ct9 oc10 kV10 dc10 pm10 cd10 ct10 oc11 kV11 dc11 pm11 cd11 ct11 oc12 kV12 dc12 pm12 cd12 ct12 oc13 kV13 dc13 pm13 cd13 ct13 oc14 kV14 dc14 pm14 cd14 ct14 oc15 kV15 dc15 pm15 cd15 ct15 oc16 kV16 dc16 pm16 cd16 ct16 oc17 kV17 dc17 pm17 cd17 ct17 oc18 kV18 dc18 pm18 cd18 ct18 oc19 kV19 dc19 pm19 cd19 ct19 oc20 kV20 dc20 pm20 cd20 ct20 oc21 kV21 dc21 pm21 cd21 ct21 oc22 kV22 dc22 pm22 cd22 ct22 oc23 kV23 dc23 pm23 cd23 ct23 oc24 kV24 dc24 pm24 cd24 ct24 oc25 kV25 dc25 pm25 cd25 ct25 oc26 kV26 dc26 pm26 cd26 ct26 oc27 kV27 dc27 pm27 cd27 ct27 oc28 kV28 dc28 pm28 cd28 ct28 oc29 kV29 dc29 pm29 cd29 ct29 oc30 kV30 dc30 pm30 cd30 ct30 : Value}
    (a0 : PySem.W.nsIn K mainGlobals "_law_cell" = some (some (.ref f0)))
    (l0 : K.lookup f0 = some ⟨oc0, od0, .func (PySem.W.fnOf "_law_cell" "_law_cell" (defArgs q21) (defBody q21) (defScope q21) .none kV0 dc0 pm0 an0 cd0 ct0), sl0⟩) (c0 : PySem.W.codeIn K cd0 "_law_cell" = true) (k0 : PySem.W.keepIn K (.ref f0) = true)
    (a1 : PySem.W.nsIn K mainGlobals "_law_part" = some (some (.ref f1)))
    (l1 : K.lookup f1 = some ⟨oc1, od1, .func (PySem.W.fnOf "_law_part" "_law_part" (defArgs z22) (defBody z22) (defScope z22) .none kV1 dc1 pm1 an1 cd1 ct1), sl1⟩) (c1 : PySem.W.codeIn K cd1 "_law_part" = true) (k1 : PySem.W.keepIn K (.ref f1) = true)
    (a2 : PySem.W.nsIn K mainGlobals "_law_name" = some (some (.ref f2)))
    (l2 : K.lookup f2 = some ⟨oc2, od2, .func (PySem.W.fnOf "_law_name" "_law_name" (defArgs z7) (defBody z7) (defScope z7) .none kV2 dc2 pm2 an2 cd2 ct2), sl2⟩) (c2 : PySem.W.codeIn K cd2 "_law_name" = true) (k2 : PySem.W.keepIn K (.ref f2) = true)
    (a3 : PySem.W.nsIn K mainGlobals "_law_atom" = some (some (.ref f3)))
    (l3 : K.lookup f3 = some ⟨oc3, od3, .func (PySem.W.fnOf "_law_atom" "_law_atom" (defArgs y16) (defBody y16) (defScope y16) .none kV3 dc3 pm3 an3 cd3 ct3), sl3⟩) (c3 : PySem.W.codeIn K cd3 "_law_atom" = true) (k3 : PySem.W.keepIn K (.ref f3) = true)
    (a4 : PySem.W.nsIn K mainGlobals "_law_row" = some (some (.ref f4)))
    (l4 : K.lookup f4 = some ⟨oc4, od4, .func (PySem.W.fnOf "_law_row" "_law_row" (defArgs z9) (defBody z9) (defScope z9) .none kV4 dc4 pm4 an4 cd4 ct4), sl4⟩) (c4 : PySem.W.codeIn K cd4 "_law_row" = true) (k4 : PySem.W.keepIn K (.ref f4) = true)
    (a5 : PySem.W.nsIn K mainGlobals "_law_program" = some (some (.ref f5)))
    (l5 : K.lookup f5 = some ⟨oc5, od5, .func (PySem.W.fnOf "_law_program" "_law_program" (defArgs y3) (defBody y3) (defScope y3) .none kV5 dc5 pm5 an5 cd5 ct5), sl5⟩) (c5 : PySem.W.codeIn K cd5 "_law_program" = true) (k5 : PySem.W.keepIn K (.ref f5) = true)
    (a6 : PySem.W.nsIn K mainGlobals "_law_alike" = some (some (.ref f6)))
    (l6 : K.lookup f6 = some ⟨oc6, od6, .func (PySem.W.fnOf "_law_alike" "_law_alike" (defArgs y8) (defBody y8) (defScope y8) .none kV6 dc6 pm6 an6 cd6 ct6), sl6⟩) (c6 : PySem.W.codeIn K cd6 "_law_alike" = true) (k6 : PySem.W.keepIn K (.ref f6) = true)
    (a7 : PySem.W.nsIn K mainGlobals "_law_line" = some (some (.ref f7)))
    (l7 : K.lookup f7 = some ⟨oc7, od7, .func (PySem.W.fnOf "_law_line" "_law_line" (defArgs q15) (defBody q15) (defScope q15) .none kV7 dc7 pm7 an7 cd7 ct7), sl7⟩) (c7 : PySem.W.codeIn K cd7 "_law_line" = true) (k7 : PySem.W.keepIn K (.ref f7) = true)
    (a8 : PySem.W.nsIn K mainGlobals "_law_text" = some (some (.ref f8)))
    (l8 : K.lookup f8 = some ⟨oc8, od8, .func (PySem.W.fnOf "_law_text" "_law_text" (defArgs y4) (defBody y4) (defScope y4) .none kV8 dc8 pm8 an8 cd8 ct8), sl8⟩) (c8 : PySem.W.codeIn K cd8 "_law_text" = true) (k8 : PySem.W.keepIn K (.ref f8) = true)
    (a9 : PySem.W.nsIn K mainGlobals "heads_read" = some (some (.ref f9)))
    (l9 : K.lookup f9 = some ⟨oc9, od9, .func (PySem.W.fnOf "heads_read" "heads_read" (defArgs z12) (defBody z12) (defScope z12) .none kV9 dc9 pm9 an9 cd9 ct9), sl9⟩) (c9 : PySem.W.codeIn K cd9 "heads_read" = true) (k9 : PySem.W.keepIn K (.ref f9) = true)
    (a10 : PySem.W.nsIn K mainGlobals "label_places" = some (some (.ref f10)))
    (l10 : K.lookup f10 = some ⟨oc10, od10, .func (PySem.W.fnOf "label_places" "label_places" (defArgs y11) (defBody y11) (defScope y11) .none kV10 dc10 pm10 an10 cd10 ct10), sl10⟩) (c10 : PySem.W.codeIn K cd10 "label_places" = true) (k10 : PySem.W.keepIn K (.ref f10) = true)
    (a11 : PySem.W.nsIn K mainGlobals "is_made_of" = some (some (.ref f11)))
    (l11 : K.lookup f11 = some ⟨oc11, od11, .func (PySem.W.fnOf "is_made_of" "is_made_of" (defArgs z13) (defBody z13) (defScope z13) .none kV11 dc11 pm11 an11 cd11 ct11), sl11⟩) (c11 : PySem.W.codeIn K cd11 "is_made_of" = true) (k11 : PySem.W.keepIn K (.ref f11) = true)
    (a12 : PySem.W.nsIn K mainGlobals "is_name" = some (some (.ref f12)))
    (l12 : K.lookup f12 = some ⟨oc12, od12, .func (PySem.W.fnOf "is_name" "is_name" (defArgs z29) (defBody z29) (defScope z29) .none kV12 dc12 pm12 an12 cd12 ct12), sl12⟩) (c12 : PySem.W.codeIn K cd12 "is_name" = true) (k12 : PySem.W.keepIn K (.ref f12) = true)
    (a13 : PySem.W.nsIn K mainGlobals "value_of" = some (some (.ref f13)))
    (l13 : K.lookup f13 = some ⟨oc13, od13, .func (PySem.W.fnOf "value_of" "value_of" (defArgs q18) (defBody q18) (defScope q18) .none kV13 dc13 pm13 an13 cd13 ct13), sl13⟩) (c13 : PySem.W.codeIn K cd13 "value_of" = true) (k13 : PySem.W.keepIn K (.ref f13) = true)
    (a14 : PySem.W.nsIn K mainGlobals "atom_of" = some (some (.ref f14)))
    (l14 : K.lookup f14 = some ⟨oc14, od14, .func (PySem.W.fnOf "atom_of" "atom_of" (defArgs y34) (defBody y34) (defScope y34) .none kV14 dc14 pm14 an14 cd14 ct14), sl14⟩) (c14 : PySem.W.codeIn K cd14 "atom_of" = true) (k14 : PySem.W.keepIn K (.ref f14) = true)
    (a15 : PySem.W.nsIn K mainGlobals "is_label" = some (some (.ref f15)))
    (l15 : K.lookup f15 = some ⟨oc15, od15, .func (PySem.W.fnOf "is_label" "is_label" (defArgs q24) (defBody q24) (defScope q24) .none kV15 dc15 pm15 an15 cd15 ct15), sl15⟩) (c15 : PySem.W.codeIn K cd15 "is_label" = true) (k15 : PySem.W.keepIn K (.ref f15) = true)
    (a16 : PySem.W.nsIn K mainGlobals "size_of" = some (some (.ref f16)))
    (l16 : K.lookup f16 = some ⟨oc16, od16, .func (PySem.W.fnOf "size_of" "size_of" (defArgs q27) (defBody q27) (defScope q27) .none kV16 dc16 pm16 an16 cd16 ct16), sl16⟩) (c16 : PySem.W.codeIn K cd16 "size_of" = true) (k16 : PySem.W.keepIn K (.ref f16) = true)
    (a17 : PySem.W.nsIn K mainGlobals "part_of" = some (some (.ref f17)))
    (l17 : K.lookup f17 = some ⟨oc17, od17, .func (PySem.W.fnOf "part_of" "part_of" (defArgs q17) (defBody q17) (defScope q17) .none kV17 dc17 pm17 an17 cd17 ct17), sl17⟩) (c17 : PySem.W.codeIn K cd17 "part_of" = true) (k17 : PySem.W.keepIn K (.ref f17) = true)
    (a18 : PySem.W.nsIn K mainGlobals "filled" = some (some (.ref f18)))
    (l18 : K.lookup f18 = some ⟨oc18, od18, .func (PySem.W.fnOf "filled" "filled" (defArgs q14) (defBody q14) (defScope q14) .none kV18 dc18 pm18 an18 cd18 ct18), sl18⟩) (c18 : PySem.W.codeIn K cd18 "filled" = true) (k18 : PySem.W.keepIn K (.ref f18) = true)
    (a19 : PySem.W.nsIn K mainGlobals "setting_of" = some (some (.ref f19)))
    (l19 : K.lookup f19 = some ⟨oc19, od19, .func (PySem.W.fnOf "setting_of" "setting_of" (defArgs z25) (defBody z25) (defScope z25) .none kV19 dc19 pm19 an19 cd19 ct19), sl19⟩) (c19 : PySem.W.codeIn K cd19 "setting_of" = true) (k19 : PySem.W.keepIn K (.ref f19) = true)
    (a20 : PySem.W.nsIn K mainGlobals "line_of" = some (some (.ref f20)))
    (l20 : K.lookup f20 = some ⟨oc20, od20, .func (PySem.W.fnOf "line_of" "line_of" (defArgs z23) (defBody z23) (defScope z23) .none kV20 dc20 pm20 an20 cd20 ct20), sl20⟩) (c20 : PySem.W.codeIn K cd20 "line_of" = true) (k20 : PySem.W.keepIn K (.ref f20) = true)
    (a21 : PySem.W.nsIn K mainGlobals "lines_of" = some (some (.ref f21)))
    (l21 : K.lookup f21 = some ⟨oc21, od21, .func (PySem.W.fnOf "lines_of" "lines_of" (defArgs q12) (defBody q12) (defScope q12) .none kV21 dc21 pm21 an21 cd21 ct21), sl21⟩) (c21 : PySem.W.codeIn K cd21 "lines_of" = true) (k21 : PySem.W.keepIn K (.ref f21) = true)
    (a22 : PySem.W.nsIn K mainGlobals "refuse_twice" = some (some (.ref f22)))
    (l22 : K.lookup f22 = some ⟨oc22, od22, .func (PySem.W.fnOf "refuse_twice" "refuse_twice" (defArgs z14) (defBody z14) (defScope z14) .none kV22 dc22 pm22 an22 cd22 ct22), sl22⟩) (c22 : PySem.W.codeIn K cd22 "refuse_twice" = true) (k22 : PySem.W.keepIn K (.ref f22) = true)
    (a23 : PySem.W.nsIn K mainGlobals "with_number" = some (some (.ref f23)))
    (l23 : K.lookup f23 = some ⟨oc23, od23, .func (PySem.W.fnOf "with_number" "with_number" (defArgs y15) (defBody y15) (defScope y15) .none kV23 dc23 pm23 an23 cd23 ct23), sl23⟩) (c23 : PySem.W.codeIn K cd23 "with_number" = true) (k23 : PySem.W.keepIn K (.ref f23) = true)
    (a24 : PySem.W.nsIn K mainGlobals "read" = some (some (.ref f24)))
    (l24 : K.lookup f24 = some ⟨oc24, od24, .func (PySem.W.fnOf "read" "read" (defArgs s_read) (defBody s_read) (defScope s_read) .none kV24 dc24 pm24 an24 cd24 ct24), sl24⟩) (c24 : PySem.W.codeIn K cd24 "read" = true) (k24 : PySem.W.keepIn K (.ref f24) = true)
    (a25 : PySem.W.nsIn K mainGlobals "heads_written" = some (some (.ref f25)))
    (l25 : K.lookup f25 = some ⟨oc25, od25, .func (PySem.W.fnOf "heads_written" "heads_written" (defArgs y9) (defBody y9) (defScope y9) .none kV25 dc25 pm25 an25 cd25 ct25), sl25⟩) (c25 : PySem.W.codeIn K cd25 "heads_written" = true) (k25 : PySem.W.keepIn K (.ref f25) = true)
    (a26 : PySem.W.nsIn K mainGlobals "label_of" = some (some (.ref f26)))
    (l26 : K.lookup f26 = some ⟨oc26, od26, .func (PySem.W.fnOf "label_of" "label_of" (defArgs q41) (defBody q41) (defScope q41) .none kV26 dc26 pm26 an26 cd26 ct26), sl26⟩) (c26 : PySem.W.codeIn K cd26 "label_of" = true) (k26 : PySem.W.keepIn K (.ref f26) = true)
    (a27 : PySem.W.nsIn K mainGlobals "words_of" = some (some (.ref f27)))
    (l27 : K.lookup f27 = some ⟨oc27, od27, .func (PySem.W.fnOf "words_of" "words_of" (defArgs z15) (defBody z15) (defScope z15) .none kV27 dc27 pm27 an27 cd27 ct27), sl27⟩) (c27 : PySem.W.codeIn K cd27 "words_of" = true) (k27 : PySem.W.keepIn K (.ref f27) = true)
    (a28 : PySem.W.nsIn K mainGlobals "write" = some (some (.ref f28)))
    (l28 : K.lookup f28 = some ⟨oc28, od28, .func (PySem.W.fnOf "write" "write" (defArgs y12) (defBody y12) (defScope y12) .none kV28 dc28 pm28 an28 cd28 ct28), sl28⟩) (c28 : PySem.W.codeIn K cd28 "write" = true) (k28 : PySem.W.keepIn K (.ref f28) = true)
    (a29 : PySem.W.nsIn K mainGlobals "_law_right" = some (some (.ref f29)))
    (l29 : K.lookup f29 = some ⟨oc29, od29, .func (PySem.W.fnOf "_law_right" "_law_right" (defArgs z11) (defBody z11) (defScope z11) .none kV29 dc29 pm29 an29 cd29 ct29), sl29⟩) (c29 : PySem.W.codeIn K cd29 "_law_right" = true) (k29 : PySem.W.keepIn K (.ref f29) = true)
    (a30 : PySem.W.nsIn K mainGlobals "law" = some (some (.ref f30)))
    (l30 : K.lookup f30 = some ⟨oc30, od30, .func (PySem.W.fnOf "law" "law" (defArgs s_law) (defBody s_law) (defScope s_law) .none kV30 dc30 pm30 an30 cd30 ct30), sl30⟩) (c30 : PySem.W.codeIn K cd30 "law" = true) (k30 : PySem.W.keepIn K (.ref f30) = true)
    (z_all : PySem.W.nsIn K mainGlobals "all" = some none)
    (z_bool : PySem.W.nsIn K mainGlobals "bool" = some none)
    (z_enumerate : PySem.W.nsIn K mainGlobals "enumerate" = some none)
    (z_int : PySem.W.nsIn K mainGlobals "int" = some none)
    (z_isinstance : PySem.W.nsIn K mainGlobals "isinstance" = some none)
    (z_len : PySem.W.nsIn K mainGlobals "len" = some none)
    (z_range : PySem.W.nsIn K mainGlobals "range" = some none)
    (z_str : PySem.W.nsIn K mainGlobals "str" = some none)
    (z_tuple : PySem.W.nsIn K mainGlobals "tuple" = some none)
    (z_zip : PySem.W.nsIn K mainGlobals "zip" = some none)
    {d_CELLS : Addr} {o_CELLS : Obj} {i_CELLS : Array Value} {m_CELLS : Nat} (b_CELLS : PySem.W.nsIn K mainGlobals "CELLS" = some (some (.ref d_CELLS))) (l_CELLS : K.lookup d_CELLS = some o_CELLS) (e_CELLS : o_CELLS.cls = .type "tuple") (f_CELLS : o_CELLS.data = .seq i_CELLS m_CELLS) (r_CELLS : Vals [V.str "cell", V.str "twin"] i_CELLS.toList)
    {u_FIGURES : Value} (b_FIGURES : PySem.W.nsIn K mainGlobals "FIGURES" = some (some u_FIGURES)) (r_FIGURES : RelV (.str "0123456789") u_FIGURES)
    {d_HEADS : Addr} {o_HEADS : Obj} {i_HEADS : Array Value} {m_HEADS : Nat} (b_HEADS : PySem.W.nsIn K mainGlobals "HEADS" = some (some (.ref d_HEADS))) (l_HEADS : K.lookup d_HEADS = some o_HEADS) (e_HEADS : o_HEADS.cls = .type "tuple") (f_HEADS : o_HEADS.data = .seq i_HEADS m_HEADS) (r_HEADS : Vals [V.str "cell", V.str "twin", V.str "shelf", V.str "twins"] i_HEADS.toList)
    {d_LEADING : Addr} {o_LEADING : Obj} {i_LEADING : Array Value} {m_LEADING : Nat} (b_LEADING : PySem.W.nsIn K mainGlobals "LEADING" = some (some (.ref d_LEADING))) (l_LEADING : K.lookup d_LEADING = some o_LEADING) (e_LEADING : o_LEADING.cls = .type "tuple") (f_LEADING : o_LEADING.data = .seq i_LEADING m_LEADING) (r_LEADING : Vals [V.str "if", V.str "go"] i_LEADING.toList)
    {u_LETTERS : Value} (b_LETTERS : PySem.W.nsIn K mainGlobals "LETTERS" = some (some u_LETTERS)) (r_LETTERS : RelV (.str "abcdefghijklmnopqrstuvwxyz") u_LETTERS)
    {u_MOST_OF_LABEL : Value} (b_MOST_OF_LABEL : PySem.W.nsIn K mainGlobals "MOST_OF_LABEL" = some (some u_MOST_OF_LABEL)) (r_MOST_OF_LABEL : RelV (.int 8) u_MOST_OF_LABEL)
    {u_MOST_OF_NAME : Value} (b_MOST_OF_NAME : PySem.W.nsIn K mainGlobals "MOST_OF_NAME" = some (some u_MOST_OF_NAME)) (r_MOST_OF_NAME : RelV (.int 6) u_MOST_OF_NAME)
    {u_MOST_OF_SIZE : Value} (b_MOST_OF_SIZE : PySem.W.nsIn K mainGlobals "MOST_OF_SIZE" = some (some u_MOST_OF_SIZE)) (r_MOST_OF_SIZE : RelV (.int 8) u_MOST_OF_SIZE)
    {u_MOST_OF_VALUE : Value} (b_MOST_OF_VALUE : PySem.W.nsIn K mainGlobals "MOST_OF_VALUE" = some (some u_MOST_OF_VALUE)) (r_MOST_OF_VALUE : RelV (.int 13) u_MOST_OF_VALUE)
    {d_SHELVES : Addr} {o_SHELVES : Obj} {i_SHELVES : Array Value} {m_SHELVES : Nat} (b_SHELVES : PySem.W.nsIn K mainGlobals "SHELVES" = some (some (.ref d_SHELVES))) (l_SHELVES : K.lookup d_SHELVES = some o_SHELVES) (e_SHELVES : o_SHELVES.cls = .type "tuple") (f_SHELVES : o_SHELVES.data = .seq i_SHELVES m_SHELVES) (r_SHELVES : Vals [V.str "shelf", V.str "twins"] i_SHELVES.toList)
    {d_SIGNS : Addr} {o_SIGNS : Obj} {i_SIGNS : Array Value} {m_SIGNS : Nat} (b_SIGNS : PySem.W.nsIn K mainGlobals "SIGNS" = some (some (.ref d_SIGNS))) (l_SIGNS : K.lookup d_SIGNS = some o_SIGNS) (e_SIGNS : o_SIGNS.cls = .type "tuple") (f_SIGNS : o_SIGNS.data = .seq i_SIGNS m_SIGNS) (r_SIGNS : Vals [V.str "+", V.str "-", V.str "*", V.str "<", V.str "=", V.str "&", V.str "|", V.str "^"] i_SIGNS.toList)
    {d_WANTED : Addr} {o_WANTED : Obj} {m_WANTED : Nat} {t0_WANTED : Tok} {t1_WANTED : Tok} {t2_WANTED : Tok} {t3_WANTED : Tok} {t4_WANTED : Tok} {t5_WANTED : Tok} {t6_WANTED : Tok} {t7_WANTED : Tok} {t8_WANTED : Tok} {t9_WANTED : Tok} {t10_WANTED : Tok} {t11_WANTED : Tok} {t12_WANTED : Tok} {t13_WANTED : Tok} {a0_WANTED : Addr} {a1_WANTED : Addr} {a2_WANTED : Addr} {a3_WANTED : Addr} {a4_WANTED : Addr} {a5_WANTED : Addr} {a6_WANTED : Addr} {a7_WANTED : Addr} {a8_WANTED : Addr} {a9_WANTED : Addr} {a10_WANTED : Addr} {a11_WANTED : Addr} {a12_WANTED : Addr} {a13_WANTED : Addr} (b_WANTED : PySem.W.nsIn K mainGlobals "WANTED" = some (some (.ref d_WANTED))) (l_WANTED : K.lookup d_WANTED = some o_WANTED) (e_WANTED : o_WANTED.ExactDict) (f_WANTED : o_WANTED.data = .dict #[⟨PyData.keyHash w.params "cell", .str "cell" t0_WANTED, .ref a0_WANTED⟩, ⟨PyData.keyHash w.params "twin", .str "twin" t1_WANTED, .ref a1_WANTED⟩, ⟨PyData.keyHash w.params "shelf", .str "shelf" t2_WANTED, .ref a2_WANTED⟩, ⟨PyData.keyHash w.params "twins", .str "twins" t3_WANTED, .ref a3_WANTED⟩, ⟨PyData.keyHash w.params "at", .str "at" t4_WANTED, .ref a4_WANTED⟩, ⟨PyData.keyHash w.params "load", .str "load" t5_WANTED, .ref a5_WANTED⟩, ⟨PyData.keyHash w.params "store", .str "store" t6_WANTED, .ref a6_WANTED⟩, ⟨PyData.keyHash w.params "take", .str "take" t7_WANTED, .ref a7_WANTED⟩, ⟨PyData.keyHash w.params "lay", .str "lay" t8_WANTED, .ref a8_WANTED⟩, ⟨PyData.keyHash w.params "hear", .str "hear" t9_WANTED, .ref a9_WANTED⟩, ⟨PyData.keyHash w.params "say", .str "say" t10_WANTED, .ref a10_WANTED⟩, ⟨PyData.keyHash w.params "if", .str "if" t11_WANTED, .ref a11_WANTED⟩, ⟨PyData.keyHash w.params "go", .str "go" t12_WANTED, .ref a12_WANTED⟩, ⟨PyData.keyHash w.params "end", .str "end" t13_WANTED, .ref a13_WANTED⟩] m_WANTED) (z_WANTED : (d_WANTED == sysModules) = false)
    {o0_WANTED : Obj} {i0_WANTED : Array Value} {m0_WANTED : Nat} (l0_WANTED : K.lookup a0_WANTED = some o0_WANTED) (e0_WANTED : o0_WANTED.cls = .type "tuple") (f0_WANTED : o0_WANTED.data = .seq i0_WANTED m0_WANTED) (r0_WANTED : Vals [V.str "name", V.str "value"] i0_WANTED.toList)
    {o1_WANTED : Obj} {i1_WANTED : Array Value} {m1_WANTED : Nat} (l1_WANTED : K.lookup a1_WANTED = some o1_WANTED) (e1_WANTED : o1_WANTED.cls = .type "tuple") (f1_WANTED : o1_WANTED.data = .seq i1_WANTED m1_WANTED) (r1_WANTED : Vals [V.str "name", V.str "value"] i1_WANTED.toList)
    {o2_WANTED : Obj} {i2_WANTED : Array Value} {m2_WANTED : Nat} (l2_WANTED : K.lookup a2_WANTED = some o2_WANTED) (e2_WANTED : o2_WANTED.cls = .type "tuple") (f2_WANTED : o2_WANTED.data = .seq i2_WANTED m2_WANTED) (r2_WANTED : Vals [V.str "name", V.str "size"] i2_WANTED.toList)
    {o3_WANTED : Obj} {i3_WANTED : Array Value} {m3_WANTED : Nat} (l3_WANTED : K.lookup a3_WANTED = some o3_WANTED) (e3_WANTED : o3_WANTED.cls = .type "tuple") (f3_WANTED : o3_WANTED.data = .seq i3_WANTED m3_WANTED) (r3_WANTED : Vals [V.str "name", V.str "size"] i3_WANTED.toList)
    {o4_WANTED : Obj} {i4_WANTED : Array Value} {m4_WANTED : Nat} (l4_WANTED : K.lookup a4_WANTED = some o4_WANTED) (e4_WANTED : o4_WANTED.cls = .type "tuple") (f4_WANTED : o4_WANTED.data = .seq i4_WANTED m4_WANTED) (r4_WANTED : Vals [V.str "label"] i4_WANTED.toList)
    {o5_WANTED : Obj} {i5_WANTED : Array Value} {m5_WANTED : Nat} (l5_WANTED : K.lookup a5_WANTED = some o5_WANTED) (e5_WANTED : o5_WANTED.cls = .type "tuple") (f5_WANTED : o5_WANTED.data = .seq i5_WANTED m5_WANTED) (r5_WANTED : Vals [V.str "name", V.str "name"] i5_WANTED.toList)
    {o6_WANTED : Obj} {i6_WANTED : Array Value} {m6_WANTED : Nat} (l6_WANTED : K.lookup a6_WANTED = some o6_WANTED) (e6_WANTED : o6_WANTED.cls = .type "tuple") (f6_WANTED : o6_WANTED.data = .seq i6_WANTED m6_WANTED) (r6_WANTED : Vals [V.str "name", V.str "atom"] i6_WANTED.toList)
    {o7_WANTED : Obj} {i7_WANTED : Array Value} {m7_WANTED : Nat} (l7_WANTED : K.lookup a7_WANTED = some o7_WANTED) (e7_WANTED : o7_WANTED.cls = .type "tuple") (f7_WANTED : o7_WANTED.data = .seq i7_WANTED m7_WANTED) (r7_WANTED : Vals [V.str "name", V.str "name", V.str "atom"] i7_WANTED.toList)
    {o8_WANTED : Obj} {i8_WANTED : Array Value} {m8_WANTED : Nat} (l8_WANTED : K.lookup a8_WANTED = some o8_WANTED) (e8_WANTED : o8_WANTED.cls = .type "tuple") (f8_WANTED : o8_WANTED.data = .seq i8_WANTED m8_WANTED) (r8_WANTED : Vals [V.str "name", V.str "atom", V.str "atom"] i8_WANTED.toList)
    {o9_WANTED : Obj} {i9_WANTED : Array Value} {m9_WANTED : Nat} (l9_WANTED : K.lookup a9_WANTED = some o9_WANTED) (e9_WANTED : o9_WANTED.cls = .type "tuple") (f9_WANTED : o9_WANTED.data = .seq i9_WANTED m9_WANTED) (r9_WANTED : Vals [V.str "name"] i9_WANTED.toList)
    {o10_WANTED : Obj} {i10_WANTED : Array Value} {m10_WANTED : Nat} (l10_WANTED : K.lookup a10_WANTED = some o10_WANTED) (e10_WANTED : o10_WANTED.cls = .type "tuple") (f10_WANTED : o10_WANTED.data = .seq i10_WANTED m10_WANTED) (r10_WANTED : Vals [V.str "atom"] i10_WANTED.toList)
    {o11_WANTED : Obj} {i11_WANTED : Array Value} {m11_WANTED : Nat} (l11_WANTED : K.lookup a11_WANTED = some o11_WANTED) (e11_WANTED : o11_WANTED.cls = .type "tuple") (f11_WANTED : o11_WANTED.data = .seq i11_WANTED m11_WANTED) (r11_WANTED : Vals [V.str "atom", V.str "label"] i11_WANTED.toList)
    {o12_WANTED : Obj} {i12_WANTED : Array Value} {m12_WANTED : Nat} (l12_WANTED : K.lookup a12_WANTED = some o12_WANTED) (e12_WANTED : o12_WANTED.cls = .type "tuple") (f12_WANTED : o12_WANTED.data = .seq i12_WANTED m12_WANTED) (r12_WANTED : Vals [V.str "label"] i12_WANTED.toList)
    {o13_WANTED : Obj} {i13_WANTED : Array Value} {m13_WANTED : Nat} (l13_WANTED : K.lookup a13_WANTED = some o13_WANTED) (e13_WANTED : o13_WANTED.cls = .type "tuple") (f13_WANTED : o13_WANTED.data = .seq i13_WANTED m13_WANTED) (r13_WANTED : Vals [V.str "atom"] i13_WANTED.toList)
    {u_WIDE : Value} (b_WIDE : PySem.W.nsIn K mainGlobals "WIDE" = some (some u_WIDE)) (r_WIDE : RelV (.int 1099511627776) u_WIDE)
    (x_tuple_NoneType : PySem.W.kitOne K (.type "NoneType") (.type "tuple") = some false)
    (x_tuple_bool : PySem.W.kitOne K (.type "bool") (.type "tuple") = some false)
    (x_tuple_int : PySem.W.kitOne K (.type "int") (.type "tuple") = some false)
    (x_tuple_str : PySem.W.kitOne K (.type "str") (.type "tuple") = some false)
    (x_tuple_tuple : PySem.W.kitOne K (.type "tuple") (.type "tuple") = some true)
    (x_tuple_list : PySem.W.kitOne K (.type "list") (.type "tuple") = some false)
    (x_tuple_dict : PySem.W.kitOne K (.type "dict") (.type "tuple") = some false)
    (x_bool_NoneType : PySem.W.kitOne K (.type "NoneType") (.type "bool") = some false)
    (x_bool_bool : PySem.W.kitOne K (.type "bool") (.type "bool") = some true)
    (x_bool_int : PySem.W.kitOne K (.type "int") (.type "bool") = some false)
    (x_bool_str : PySem.W.kitOne K (.type "str") (.type "bool") = some false)
    (x_bool_tuple : PySem.W.kitOne K (.type "tuple") (.type "bool") = some false)
    (x_bool_list : PySem.W.kitOne K (.type "list") (.type "bool") = some false)
    (x_bool_dict : PySem.W.kitOne K (.type "dict") (.type "bool") = some false)
    (x_int_NoneType : PySem.W.kitOne K (.type "NoneType") (.type "int") = some false)
    (x_int_bool : PySem.W.kitOne K (.type "bool") (.type "int") = some true)
    (x_int_int : PySem.W.kitOne K (.type "int") (.type "int") = some true)
    (x_int_str : PySem.W.kitOne K (.type "str") (.type "int") = some false)
    (x_int_tuple : PySem.W.kitOne K (.type "tuple") (.type "int") = some false)
    (x_int_list : PySem.W.kitOne K (.type "list") (.type "int") = some false)
    (x_int_dict : PySem.W.kitOne K (.type "dict") (.type "int") = some false)
    (x_str_NoneType : PySem.W.kitOne K (.type "NoneType") (.type "str") = some false)
    (x_str_bool : PySem.W.kitOne K (.type "bool") (.type "str") = some false)
    (x_str_int : PySem.W.kitOne K (.type "int") (.type "str") = some false)
    (x_str_str : PySem.W.kitOne K (.type "str") (.type "str") = some true)
    (x_str_tuple : PySem.W.kitOne K (.type "tuple") (.type "str") = some false)
    (x_str_list : PySem.W.kitOne K (.type "list") (.type "str") = some false)
    (x_str_dict : PySem.W.kitOne K (.type "dict") (.type "str") = some false)
    : ∃ fd : FuncData, (∀ (s : Shared) (v : Value), BindsTo s fd ⟨[v], []⟩ [("_law_script", v)]) ∧ ∀ base : Heap, K.In base → base.Ns mainGlobals mg → FnOk l.prog w K mg base CX0 11 fa fd ["_law_script"] (sp_law K) := by
  have e := hfa.symm.trans (PySem.W.mg_of X G a30)
  cases e
  have T : Txt l.prog w K mg := { n_all := PySem.W.mg_none_of X G z_all, n_bool := PySem.W.mg_none_of X G z_bool, n_enumerate := PySem.W.mg_none_of X G z_enumerate, n_int := PySem.W.mg_none_of X G z_int, n_isinstance := PySem.W.mg_none_of X G z_isinstance, n_len := PySem.W.mg_none_of X G z_len, n_range := PySem.W.mg_none_of X G z_range, n_str := PySem.W.mg_none_of X G z_str, n_tuple := PySem.W.mg_none_of X G z_tuple, n_zip := PySem.W.mg_none_of X G z_zip, g_CELLS := glob_tup (PySem.W.mg_of X G b_CELLS) l_CELLS e_CELLS f_CELLS r_CELLS (by decide) (fun F => by simp [Reps, Rep]), g_FIGURES := glob_str ⟨_, PySem.W.mg_of X G b_FIGURES, r_FIGURES⟩, g_HEADS := glob_tup (PySem.W.mg_of X G b_HEADS) l_HEADS e_HEADS f_HEADS r_HEADS (by decide) (fun F => by simp [Reps, Rep]), g_LEADING := glob_tup (PySem.W.mg_of X G b_LEADING) l_LEADING e_LEADING f_LEADING r_LEADING (by decide) (fun F => by simp [Reps, Rep]), g_LETTERS := glob_str ⟨_, PySem.W.mg_of X G b_LETTERS, r_LETTERS⟩, g_MOST_OF_LABEL := glob_int ⟨_, PySem.W.mg_of X G b_MOST_OF_LABEL, r_MOST_OF_LABEL⟩, g_MOST_OF_NAME := glob_int ⟨_, PySem.W.mg_of X G b_MOST_OF_NAME, r_MOST_OF_NAME⟩, g_MOST_OF_SIZE := glob_int ⟨_, PySem.W.mg_of X G b_MOST_OF_SIZE, r_MOST_OF_SIZE⟩, g_MOST_OF_VALUE := glob_int ⟨_, PySem.W.mg_of X G b_MOST_OF_VALUE, r_MOST_OF_VALUE⟩, g_SHELVES := glob_tup (PySem.W.mg_of X G b_SHELVES) l_SHELVES e_SHELVES f_SHELVES r_SHELVES (by decide) (fun F => by simp [Reps, Rep]), g_SIGNS := glob_tup (PySem.W.mg_of X G b_SIGNS) l_SIGNS e_SIGNS f_SIGNS r_SIGNS (by decide) (fun F => by simp [Reps, Rep]), g_WANTED := sdic_mk [("cell", t0_WANTED, .ref a0_WANTED, .ref a0_WANTED), ("twin", t1_WANTED, .ref a1_WANTED, .ref a1_WANTED), ("shelf", t2_WANTED, .ref a2_WANTED, .ref a2_WANTED), ("twins", t3_WANTED, .ref a3_WANTED, .ref a3_WANTED), ("at", t4_WANTED, .ref a4_WANTED, .ref a4_WANTED), ("load", t5_WANTED, .ref a5_WANTED, .ref a5_WANTED), ("store", t6_WANTED, .ref a6_WANTED, .ref a6_WANTED), ("take", t7_WANTED, .ref a7_WANTED, .ref a7_WANTED), ("lay", t8_WANTED, .ref a8_WANTED, .ref a8_WANTED), ("hear", t9_WANTED, .ref a9_WANTED, .ref a9_WANTED), ("say", t10_WANTED, .ref a10_WANTED, .ref a10_WANTED), ("if", t11_WANTED, .ref a11_WANTED, .ref a11_WANTED), ("go", t12_WANTED, .ref a12_WANTED, .ref a12_WANTED), ("end", t13_WANTED, .ref a13_WANTED, .ref a13_WANTED)] (PySem.W.mg_of X G b_WANTED) l_WANTED e_WANTED f_WANTED z_WANTED (show (["cell", "twin", "shelf", "twins", "at", "load", "store", "take", "lay", "hear", "say", "if", "go", "end"] : List Str).Nodup by decide +kernel) (by simp [RelV]) (fun F => reps_of (.cons (rep_stup l0_WANTED e0_WANTED f0_WANTED r0_WANTED (by decide) (by simp [Reps, Rep])) (.cons (rep_stup l1_WANTED e1_WANTED f1_WANTED r1_WANTED (by decide) (by simp [Reps, Rep])) (.cons (rep_stup l2_WANTED e2_WANTED f2_WANTED r2_WANTED (by decide) (by simp [Reps, Rep])) (.cons (rep_stup l3_WANTED e3_WANTED f3_WANTED r3_WANTED (by decide) (by simp [Reps, Rep])) (.cons (rep_stup l4_WANTED e4_WANTED f4_WANTED r4_WANTED (by decide) (by simp [Reps, Rep])) (.cons (rep_stup l5_WANTED e5_WANTED f5_WANTED r5_WANTED (by decide) (by simp [Reps, Rep])) (.cons (rep_stup l6_WANTED e6_WANTED f6_WANTED r6_WANTED (by decide) (by simp [Reps, Rep])) (.cons (rep_stup l7_WANTED e7_WANTED f7_WANTED r7_WANTED (by decide) (by simp [Reps, Rep])) (.cons (rep_stup l8_WANTED e8_WANTED f8_WANTED r8_WANTED (by decide) (by simp [Reps, Rep])) (.cons (rep_stup l9_WANTED e9_WANTED f9_WANTED r9_WANTED (by decide) (by simp [Reps, Rep])) (.cons (rep_stup l10_WANTED e10_WANTED f10_WANTED r10_WANTED (by decide) (by simp [Reps, Rep])) (.cons (rep_stup l11_WANTED e11_WANTED f11_WANTED r11_WANTED (by decide) (by simp [Reps, Rep])) (.cons (rep_stup l12_WANTED e12_WANTED f12_WANTED r12_WANTED (by decide) (by simp [Reps, Rep])) (.cons (rep_stup l13_WANTED e13_WANTED f13_WANTED r13_WANTED (by decide) (by simp [Reps, Rep])) .nil))))))))))))))), g_WIDE := glob_int ⟨_, PySem.W.mg_of X G b_WIDE, r_WIDE⟩, k_tuple := fun d hd => (by cases d <;> first | (cases hd; done) | exact x_tuple_NoneType | exact x_tuple_bool | exact x_tuple_int | exact x_tuple_str | exact x_tuple_tuple | exact x_tuple_list | exact x_tuple_dict), k_bool := fun d hd => (by cases d <;> first | (cases hd; done) | exact x_bool_NoneType | exact x_bool_bool | exact x_bool_int | exact x_bool_str | exact x_bool_tuple | exact x_bool_list | exact x_bool_dict), k_int := fun d hd => (by cases d <;> first | (cases hd; done) | exact x_int_NoneType | exact x_int_bool | exact x_int_int | exact x_int_str | exact x_int_tuple | exact x_int_list | exact x_int_dict), k_str := fun d hd => (by cases d <;> first | (cases hd; done) | exact x_str_NoneType | exact x_str_bool | exact x_str_int | exact x_str_str | exact x_str_tuple | exact x_str_list | exact x_str_dict) }
  have D0 : DefF K mg "_law_cell" q21 ["_law_script", "_law_k"] := DefF.mk' X G a0 l0 c0 k0 fun _ _ _ _ _ _ us hl => match us, hl with | [_, _], _ => rfl
  have D1 : DefF K mg "_law_part" z22 ["_law_cell_here", "_law_j", "_law_many"] := DefF.mk' X G a1 l1 c1 k1 fun _ _ _ _ _ _ us hl => match us, hl with | [_, _, _], _ => rfl
  have D2 : DefF K mg "_law_name" z7 ["_law_base", "_law_k"] := DefF.mk' X G a2 l2 c2 k2 fun _ _ _ _ _ _ us hl => match us, hl with | [_, _], _ => rfl
  have D3 : DefF K mg "_law_atom" y16 ["_law_cell_here", "_law_j", "_law_base"] := DefF.mk' X G a3 l3 c3 k3 fun _ _ _ _ _ _ us hl => match us, hl with | [_, _, _], _ => rfl
  have D4 : DefF K mg "_law_row" z9 ["_law_cell_here", "_law_base", "_law_many"] := DefF.mk' X G a4 l4 c4 k4 fun _ _ _ _ _ _ us hl => match us, hl with | [_, _, _], _ => rfl
  have D5 : DefF K mg "_law_program" y3 ["_law_script", "_law_at"] := DefF.mk' X G a5 l5 c5 k5 fun _ _ _ _ _ _ us hl => match us, hl with | [_, _], _ => rfl
  have D6 : DefF K mg "_law_alike" y8 ["_law_found", "_law_due"] := DefF.mk' X G a6 l6 c6 k6 fun _ _ _ _ _ _ us hl => match us, hl with | [_, _], _ => rfl
  have D7 : DefF K mg "_law_line" q15 ["_law_row_here"] := DefF.mk' X G a7 l7 c7 k7 fun _ _ _ _ _ _ us hl => match us, hl with | [_], _ => rfl
  have D8 : DefF K mg "_law_text" y4 ["_law_program_here"] := DefF.mk' X G a8 l8 c8 k8 fun _ _ _ _ _ _ us hl => match us, hl with | [_], _ => rfl
  have D9 : DefF K mg "heads_read" z12 ["lines", "words"] := DefF.mk' X G a9 l9 c9 k9 fun _ _ _ _ _ _ us hl => match us, hl with | [_, _], _ => rfl
  have D10 : DefF K mg "label_places" y11 ["lines"] := DefF.mk' X G a10 l10 c10 k10 fun _ _ _ _ _ _ us hl => match us, hl with | [_], _ => rfl
  have D11 : DefF K mg "is_made_of" z13 ["text", "signs", "most"] := DefF.mk' X G a11 l11 c11 k11 fun _ _ _ _ _ _ us hl => match us, hl with | [_, _, _], _ => rfl
  have D12 : DefF K mg "is_name" z29 ["text"] := DefF.mk' X G a12 l12 c12 k12 fun _ _ _ _ _ _ us hl => match us, hl with | [_], _ => rfl
  have D13 : DefF K mg "value_of" q18 ["word"] := DefF.mk' X G a13 l13 c13 k13 fun _ _ _ _ _ _ us hl => match us, hl with | [_], _ => rfl
  have D14 : DefF K mg "atom_of" y34 ["word"] := DefF.mk' X G a14 l14 c14 k14 fun _ _ _ _ _ _ us hl => match us, hl with | [_], _ => rfl
  have D15 : DefF K mg "is_label" q24 ["text"] := DefF.mk' X G a15 l15 c15 k15 fun _ _ _ _ _ _ us hl => match us, hl with | [_], _ => rfl
  have D16 : DefF K mg "size_of" q27 ["word"] := DefF.mk' X G a16 l16 c16 k16 fun _ _ _ _ _ _ us hl => match us, hl with | [_], _ => rfl
  have D17 : DefF K mg "part_of" q17 ["want", "word"] := DefF.mk' X G a17 l17 c17 k17 fun _ _ _ _ _ _ us hl => match us, hl with | [_, _], _ => rfl
  have D18 : DefF K mg "filled" q14 ["kind", "wants", "words"] := DefF.mk' X G a18 l18 c18 k18 fun _ _ _ _ _ _ us hl => match us, hl with | [_, _, _], _ => rfl
  have D19 : DefF K mg "setting_of" z25 ["words"] := DefF.mk' X G a19 l19 c19 k19 fun _ _ _ _ _ _ us hl => match us, hl with | [_], _ => rfl
  have D20 : DefF K mg "line_of" z23 ["line"] := DefF.mk' X G a20 l20 c20 k20 fun _ _ _ _ _ _ us hl => match us, hl with | [_], _ => rfl
  have D21 : DefF K mg "lines_of" q12 ["text"] := DefF.mk' X G a21 l21 c21 k21 fun _ _ _ _ _ _ us hl => match us, hl with | [_], _ => rfl
  have D22 : DefF K mg "refuse_twice" z14 ["words"] := DefF.mk' X G a22 l22 c22 k22 fun _ _ _ _ _ _ us hl => match us, hl with | [_], _ => rfl
  have D23 : DefF K mg "with_number" y15 ["row", "places"] := DefF.mk' X G a23 l23 c23 k23 fun _ _ _ _ _ _ us hl => match us, hl with | [_, _], _ => rfl
  have D24 : DefF K mg "read" s_read ["text"] := DefF.mk' X G a24 l24 c24 k24 fun _ _ _ _ _ _ us hl => match us, hl with | [_], _ => rfl
  have D25 : DefF K mg "heads_written" y9 ["heads", "words"] := DefF.mk' X G a25 l25 c25 k25 fun _ _ _ _ _ _ us hl => match us, hl with | [_, _], _ => rfl
  have D26 : DefF K mg "label_of" q41 ["number"] := DefF.mk' X G a26 l26 c26 k26 fun _ _ _ _ _ _ us hl => match us, hl with | [_], _ => rfl
  have D27 : DefF K mg "words_of" z15 ["row"] := DefF.mk' X G a27 l27 c27 k27 fun _ _ _ _ _ _ us hl => match us, hl with | [_], _ => rfl
  have D28 : DefF K mg "write" y12 ["program"] := DefF.mk' X G a28 l28 c28 k28 fun _ _ _ _ _ _ us hl => match us, hl with | [_], _ => rfl
  have D29 : DefF K mg "_law_right" z11 ["_law_program_here"] := DefF.mk' X G a29 l29 c29 k29 fun _ _ _ _ _ _ us hl => match us, hl with | [_], _ => rfl
  refine ⟨PySem.W.fnOf "law" "law" (defArgs s_law) (defBody s_law) (defScope s_law) .none kV30 dc30 pm30 an30 cd30 ct30, fun s v => .of_eq rfl, fun base _ _ => ?_⟩
  have y35 := z139 (P := l.prog) (w := w) (base := base) T D0
  have y6 := y137 (P := l.prog) (w := w) (base := base) T D1
  have q22 := z141 (P := l.prog) (w := w) (base := base) T D2 y6
  have z68 := q139 (P := l.prog) (w := w) (base := base) T D3 q22 y6
  have y92 := z143 (P := l.prog) (w := w) (base := base) T D4 z68 q22 y6
  have q48 := q118 (P := l.prog) (w := w) (base := base) T D5 y35 q22 y6 y92
  have q45 := y93 (P := l.prog) (w := w) (base := base) T D6  6
  have y84 := q140 (P := l.prog) (w := w) (base := base) T D7
  have z83 := z138 (P := l.prog) (w := w) (base := base) T D8 y84
  have y59 := q135 (P := l.prog) (w := w) (base := base) T D9
  have z64 := z118 (P := l.prog) (w := w) (base := base) T D10
  have y24 := y134 (P := l.prog) (w := w) (base := base) T D11
  have q57 := y145 (P := l.prog) (w := w) (base := base) T D12 y24
  have z28 := y143 (P := l.prog) (w := w) (base := base) T D13 y24
  have z101 := y147 (P := l.prog) (w := w) (base := base) T D14 q57 z28
  have z92 := q143 (P := l.prog) (w := w) (base := base) T D15 y24
  have z102 := y148 (P := l.prog) (w := w) (base := base) T D16 z28
  have y102 := q147 (P := l.prog) (w := w) (base := base) T D17 z101 z92 q57 z102 z28
  have q55 := q150 (P := l.prog) (w := w) (base := base) T D18 y102
  have y79 := z131 (P := l.prog) (w := w) (base := base) T D19 q55
  have y101 := q146 (P := l.prog) (w := w) (base := base) T D20 q55 y79
  have q93 := q144 (P := l.prog) (w := w) (base := base) T D21 y101
  have z46 := z117 (P := l.prog) (w := w) (base := base) T D22
  have q71 := y124 (P := l.prog) (w := w) (base := base) T D23
  have h_read := q152 (P := l.prog) (w := w) (base := base) T D24 y59 z64 q93 z46 q71
  have y43 := y115 (P := l.prog) (w := w) (base := base) T D25
  have q47 := z144 (P := l.prog) (w := w) (base := base) T D26
  have z91 := q145 (P := l.prog) (w := w) (base := base) T D27 q47
  have y125 := q151 (P := l.prog) (w := w) (base := base) T D28 y43 q47 z91
  have z45 := y135 (P := l.prog) (w := w) (base := base) T D29 q45 z83 h_read y125
  exact (ok_law T (fun_mk (st := s_law) l30 c30 k30) q48 z45).imp fun vs H Q E z => law_sp z
theorem walk {l : PySem.W.OpenLaw} {q : Program} {loose : List Str} {XP : (Str → Option Value) → Heap → Prop} {YP : World → Heap → Prop} {d : DefRec} {K : Params → PySem.W.Frag} (hn : l.most = some 63) (hdf : d.params.defaults = [])
    (hY : ∀ (w : World) (h : Heap), YP w h → (K w.params).In h)
    (F : ∀ (w : World) (mg : Str → Option Value) (fa : Addr) (h : Heap), (K w.params).In h → h.Ns mainGlobals mg → mg d.name = some (.ref fa) →
      ∃ fd : FuncData, (∀ (s : Shared) (u : Value), BindsTo s fd ⟨[u], []⟩ [("_law_script", u)]) ∧ ∀ base : Heap, (K w.params).In base → base.Ns mainGlobals mg → FnOk l.prog w (K w.params) mg base CX0 11 fa fd ["_law_script"] (sp_law (K w.params))) :
    PySem.W.WalkO q loose XP YP l.row.toRowW d [] (fun f vs => PySem.call f vs) :=
  L2.walk_of (n := 63) (k := 11) (x := "_law_script") (CX := fun _ => CX0) (sp := fun w => sp_law (K w.params)) hn (by decide) hdf ⟨rfl, by decide, by decide⟩ hY F (fun _ _ a ns hl hO hS => ⟨a, ns, rfl, hS, hl, hO, fun _ => rfl⟩) fun _ _ _ _ _ z => z
end P12
open PySem PySem.W PyProof.Rows
set_option maxRecDepth 100000 in
set_option maxHeartbeats 0 in
theorem PySem.Challenge.cw_dimhouse_k12_written_and_read_holds : PySem.Challenge.rw_dimhouse_k12_written_and_read.Holds := by
  w_on; o_law
  refine holds_open (q := P12.seen) (loose := [PySem.Str.ofString "WANTED"]) (Xt := fun s => xlAt P12.seen [] s && recOk (RowW.records (OpenRow.toRowW PySem.Challenge.rw_dimhouse_k12_written_and_read.row)) s) (XP := XL P12.seen []) (Yf := Hook.obs P12.hook) (Ya := Hook.val P12.hook) (YP := Hook.says P12.hook) (N := 4620) ?hl (Hook.of P12.hook) (Hook.keeps P12.hook) (fun s e => xl_of s (Bool.and_eq_true_iff.mp e).1) XL.keeps (by rfl) (by rfl) (by rfl) (fun s e => recFacts_of (Bool.and_eq_true_iff.mp e).2) (by rfl) (by first | assumption | decide +kernel) (by decide +kernel) ⟨rfl, rfl, rfl, rfl, rfl, by decide +kernel⟩ ?hw ?hc
  case hl => exact LeftO.of_split "special-get-raises" fun w => P12.map_two (P12.run_false w) (P12.run_true w)
  case hw => w_witness2
  delta P12.hook
  k_fill
  refine P12.walk (l := PySem.Challenge.rw_dimhouse_k12_written_and_read) rfl rfl (fun w h Y => PySem.W.kIn_of Y) ?F
  case F =>
    intro w mg fa h KX G hmg
    refine' P12.all_mk KX G hmg ?a0 ?l0 ?c0 ?k0 ?a1 ?l1 ?c1 ?k1 ?a2 ?l2 ?c2 ?k2 ?a3 ?l3 ?c3 ?k3 ?a4 ?l4 ?c4 ?k4 ?a5 ?l5 ?c5 ?k5 ?a6 ?l6 ?c6 ?k6 ?a7 ?l7 ?c7 ?k7 ?a8 ?l8 ?c8 ?k8 ?a9 ?l9 ?c9 ?k9 ?a10 ?l10 ?c10 ?k10 ?a11 ?l11 ?c11 ?k11 ?a12 ?l12 ?c12 ?k12 ?a13 ?l13 ?c13 ?k13 ?a14 ?l14 ?c14 ?k14 ?a15 ?l15 ?c15 ?k15 ?a16 ?l16 ?c16 ?k16 ?a17 ?l17 ?c17 ?k17 ?a18 ?l18 ?c18 ?k18 ?a19 ?l19 ?c19 ?k19 ?a20 ?l20 ?c20 ?k20 ?a21 ?l21 ?c21 ?k21 ?a22 ?l22 ?c22 ?k22 ?a23 ?l23 ?c23 ?k23 ?a24 ?l24 ?c24 ?k24 ?a25 ?l25 ?c25 ?k25 ?a26 ?l26 ?c26 ?k26 ?a27 ?l27 ?c27 ?k27 ?a28 ?l28 ?c28 ?k28 ?a29 ?l29 ?c29 ?k29 ?a30 ?l30 ?c30 ?k30 ?z_all ?z_bool ?z_enumerate ?z_int ?z_isinstance ?z_len ?z_range ?z_str ?z_tuple ?z_zip ?b_CELLS ?l_CELLS ?e_CELLS ?f_CELLS ?r_CELLS ?b_FIGURES ?r_FIGURES ?b_HEADS ?l_HEADS ?e_HEADS ?f_HEADS ?r_HEADS ?b_LEADING ?l_LEADING ?e_LEADING ?f_LEADING ?r_LEADING ?b_LETTERS ?r_LETTERS ?b_MOST_OF_LABEL ?r_MOST_OF_LABEL ?b_MOST_OF_NAME ?r_MOST_OF_NAME ?b_MOST_OF_SIZE ?r_MOST_OF_SIZE ?b_MOST_OF_VALUE ?r_MOST_OF_VALUE ?b_SHELVES ?l_SHELVES ?e_SHELVES ?f_SHELVES ?r_SHELVES ?b_SIGNS ?l_SIGNS ?e_SIGNS ?f_SIGNS ?r_SIGNS ?b_WANTED ?l_WANTED ?e_WANTED ?f_WANTED ?z_WANTED ?l0_WANTED ?e0_WANTED ?f0_WANTED ?r0_WANTED ?l1_WANTED ?e1_WANTED ?f1_WANTED ?r1_WANTED ?l2_WANTED ?e2_WANTED ?f2_WANTED ?r2_WANTED ?l3_WANTED ?e3_WANTED ?f3_WANTED ?r3_WANTED ?l4_WANTED ?e4_WANTED ?f4_WANTED ?r4_WANTED ?l5_WANTED ?e5_WANTED ?f5_WANTED ?r5_WANTED ?l6_WANTED ?e6_WANTED ?f6_WANTED ?r6_WANTED ?l7_WANTED ?e7_WANTED ?f7_WANTED ?r7_WANTED ?l8_WANTED ?e8_WANTED ?f8_WANTED ?r8_WANTED ?l9_WANTED ?e9_WANTED ?f9_WANTED ?r9_WANTED ?l10_WANTED ?e10_WANTED ?f10_WANTED ?r10_WANTED ?l11_WANTED ?e11_WANTED ?f11_WANTED ?r11_WANTED ?l12_WANTED ?e12_WANTED ?f12_WANTED ?r12_WANTED ?l13_WANTED ?e13_WANTED ?f13_WANTED ?r13_WANTED ?b_WIDE ?r_WIDE ?x_tuple_NoneType ?x_tuple_bool ?x_tuple_int ?x_tuple_str ?x_tuple_tuple ?x_tuple_list ?x_tuple_dict ?x_bool_NoneType ?x_bool_bool ?x_bool_int ?x_bool_str ?x_bool_tuple ?x_bool_list ?x_bool_dict ?x_int_NoneType ?x_int_bool ?x_int_int ?x_int_str ?x_int_tuple ?x_int_list ?x_int_dict ?x_str_NoneType ?x_str_bool ?x_str_int ?x_str_str ?x_str_tuple ?x_str_list ?x_str_dict
    (case a0 | l0 | c0 | k0 | a1 | l1 | c1 | k1 | a2 | l2 | c2 | k2 | a3 | l3 | c3 | k3 | a4 | l4 | c4 | k4 | a5 | l5 | c5 | k5 | a6 | l6 | c6 | k6 | a7 | l7 | c7 | k7 | a8 | l8 | c8 | k8 | a9 | l9 | c9 | k9 | a10 | l10 | c10 | k10 | a11 | l11 | c11 | k11 | a12 | l12 | c12 | k12 | a13 | l13 | c13 | k13 | a14 | l14 | c14 | k14 | a15 | l15 | c15 | k15 | a16 | l16 | c16 | k16 | a17 | l17 | c17 | k17 | a18 | l18 | c18 | k18 | a19 | l19 | c19 | k19 | a20 | l20 | c20 | k20 | a21 | l21 | c21 | k21 | a22 | l22 | c22 | k22 | a23 | l23 | c23 | k23 | a24 | l24 | c24 | k24 | a25 | l25 | c25 | k25 | a26 | l26 | c26 | k26 | a27 | l27 | c27 | k27 | a28 | l28 | c28 | k28 | a29 | l29 | c29 | k29 | a30 | l30 | c30 | k30 | z_all | z_bool | z_enumerate | z_int | z_isinstance | z_len | z_range | z_str | z_tuple | z_zip | b_CELLS | l_CELLS => k_is)
    (case e_CELLS => rfl)
    (case f_CELLS => rfl)
    (case r_CELLS => exact (.cons ⟨_, rfl⟩ (.cons ⟨_, rfl⟩ .nil)))
    (case b_FIGURES => k_is)
    (case r_FIGURES => exact ⟨_, rfl⟩)
    (case b_HEADS | l_HEADS => k_is)
    (case e_HEADS => rfl)
    (case f_HEADS => rfl)
    (case r_HEADS => exact (.cons ⟨_, rfl⟩ (.cons ⟨_, rfl⟩ (.cons ⟨_, rfl⟩ (.cons ⟨_, rfl⟩ .nil)))))
    (case b_LEADING | l_LEADING => k_is)
    (case e_LEADING => rfl)
    (case f_LEADING => rfl)
    (case r_LEADING => exact (.cons ⟨_, rfl⟩ (.cons ⟨_, rfl⟩ .nil)))
    (case b_LETTERS => k_is)
    (case r_LETTERS => exact ⟨_, rfl⟩)
    (case b_MOST_OF_LABEL => k_is)
    (case r_MOST_OF_LABEL => exact ⟨_, rfl⟩)
    (case b_MOST_OF_NAME => k_is)
    (case r_MOST_OF_NAME => exact ⟨_, rfl⟩)
    (case b_MOST_OF_SIZE => k_is)
    (case r_MOST_OF_SIZE => exact ⟨_, rfl⟩)
    (case b_MOST_OF_VALUE => k_is)
    (case r_MOST_OF_VALUE => exact ⟨_, rfl⟩)
    (case b_SHELVES | l_SHELVES => k_is)
    (case e_SHELVES => rfl)
    (case f_SHELVES => rfl)
    (case r_SHELVES => exact (.cons ⟨_, rfl⟩ (.cons ⟨_, rfl⟩ .nil)))
    (case b_SIGNS | l_SIGNS => k_is)
    (case e_SIGNS => rfl)
    (case f_SIGNS => rfl)
    (case r_SIGNS => exact (.cons ⟨_, rfl⟩ (.cons ⟨_, rfl⟩ (.cons ⟨_, rfl⟩ (.cons ⟨_, rfl⟩ (.cons ⟨_, rfl⟩ (.cons ⟨_, rfl⟩ (.cons ⟨_, rfl⟩ (.cons ⟨_, rfl⟩ .nil)))))))))
    (case b_WANTED | l_WANTED => k_is)
    (case e_WANTED => exact ⟨rfl, rfl, rfl⟩)
    (case f_WANTED => rfl)
    (case z_WANTED => rfl)
    (case l0_WANTED => k_is)
    (case e0_WANTED => rfl)
    (case f0_WANTED => rfl)
    (case r0_WANTED => exact (.cons ⟨_, rfl⟩ (.cons ⟨_, rfl⟩ .nil)))
    (case l1_WANTED => k_is)
    (case e1_WANTED => rfl)
    (case f1_WANTED => rfl)
    (case r1_WANTED => exact (.cons ⟨_, rfl⟩ (.cons ⟨_, rfl⟩ .nil)))
    (case l2_WANTED => k_is)
    (case e2_WANTED => rfl)
    (case f2_WANTED => rfl)
    (case r2_WANTED => exact (.cons ⟨_, rfl⟩ (.cons ⟨_, rfl⟩ .nil)))
    (case l3_WANTED => k_is)
    (case e3_WANTED => rfl)
    (case f3_WANTED => rfl)
    (case r3_WANTED => exact (.cons ⟨_, rfl⟩ (.cons ⟨_, rfl⟩ .nil)))
    (case l4_WANTED => k_is)
    (case e4_WANTED => rfl)
    (case f4_WANTED => rfl)
    (case r4_WANTED => exact (.cons ⟨_, rfl⟩ .nil))
    (case l5_WANTED => k_is)
    (case e5_WANTED => rfl)
    (case f5_WANTED => rfl)
    (case r5_WANTED => exact (.cons ⟨_, rfl⟩ (.cons ⟨_, rfl⟩ .nil)))
    (case l6_WANTED => k_is)
    (case e6_WANTED => rfl)
    (case f6_WANTED => rfl)
    (case r6_WANTED => exact (.cons ⟨_, rfl⟩ (.cons ⟨_, rfl⟩ .nil)))
    (case l7_WANTED => k_is)
    (case e7_WANTED => rfl)
    (case f7_WANTED => rfl)
    (case r7_WANTED => exact (.cons ⟨_, rfl⟩ (.cons ⟨_, rfl⟩ (.cons ⟨_, rfl⟩ .nil))))
    (case l8_WANTED => k_is)
    (case e8_WANTED => rfl)
    (case f8_WANTED => rfl)
    (case r8_WANTED => exact (.cons ⟨_, rfl⟩ (.cons ⟨_, rfl⟩ (.cons ⟨_, rfl⟩ .nil))))
    (case l9_WANTED => k_is)
    (case e9_WANTED => rfl)
    (case f9_WANTED => rfl)
    (case r9_WANTED => exact (.cons ⟨_, rfl⟩ .nil))
    (case l10_WANTED => k_is)
    (case e10_WANTED => rfl)
    (case f10_WANTED => rfl)
    (case r10_WANTED => exact (.cons ⟨_, rfl⟩ .nil))
    (case l11_WANTED => k_is)
    (case e11_WANTED => rfl)
    (case f11_WANTED => rfl)
    (case r11_WANTED => exact (.cons ⟨_, rfl⟩ (.cons ⟨_, rfl⟩ .nil)))
    (case l12_WANTED => k_is)
    (case e12_WANTED => rfl)
    (case f12_WANTED => rfl)
    (case r12_WANTED => exact (.cons ⟨_, rfl⟩ .nil))
    (case l13_WANTED => k_is)
    (case e13_WANTED => rfl)
    (case f13_WANTED => rfl)
    (case r13_WANTED => exact (.cons ⟨_, rfl⟩ .nil))
    (case b_WIDE => k_is)
    (case r_WIDE => exact ⟨_, rfl⟩)
    (case x_tuple_NoneType => first | k_is | rfl)
    (case x_tuple_bool => first | k_is | rfl)
    (case x_tuple_int => first | k_is | rfl)
    (case x_tuple_str => first | k_is | rfl)
    (case x_tuple_tuple => first | k_is | rfl)
    (case x_tuple_list => first | k_is | rfl)
    (case x_tuple_dict => first | k_is | rfl)
    (case x_bool_NoneType => first | k_is | rfl)
    (case x_bool_bool => first | k_is | rfl)
    (case x_bool_int => first | k_is | rfl)
    (case x_bool_str => first | k_is | rfl)
    (case x_bool_tuple => first | k_is | rfl)
    (case x_bool_list => first | k_is | rfl)
    (case x_bool_dict => first | k_is | rfl)
    (case x_int_NoneType => first | k_is | rfl)
    (case x_int_bool => first | k_is | rfl)
    (case x_int_int => first | k_is | rfl)
    (case x_int_str => first | k_is | rfl)
    (case x_int_tuple => first | k_is | rfl)
    (case x_int_list => first | k_is | rfl)
    (case x_int_dict => first | k_is | rfl)
    (case x_str_NoneType => first | k_is | rfl)
    (case x_str_bool => first | k_is | rfl)
    (case x_str_int => first | k_is | rfl)
    (case x_str_str => first | k_is | rfl)
    (case x_str_tuple => first | k_is | rfl)
    (case x_str_list => first | k_is | rfl)
    (case x_str_dict => first | k_is | rfl)
