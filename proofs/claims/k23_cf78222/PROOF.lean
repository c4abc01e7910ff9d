import PyProof.Rows.All
import Wide.All
import OpenK.AllK
import Wide.FinOn
import Lean
import PyProof.EqAt
import PyProof.EqKinds
import PyProof.TupleCall
import PySem.Challenge.RW_dimhouse_k23_cells_and_shelves
set_option Elab.async false
set_option linter.all false
namespace P23
open PySem PySem.W PyProof.Rows
section
local macro_rules | `(tactic| o_head $_) => `(tactic| exact (by assumption : ∀ p : Prop, p) _)
set_option maxRecDepth 100000 in
set_option maxHeartbeats 0 in
theorem pre (h0 : ∀ p : Prop, p) : PySem.Challenge.rw_dimhouse_k23_cells_and_shelves.row.Holds := by
  k_head
end
def seen : Program := { PySem.Challenge.pw_dimhouse_k23_cells_and_shelves with main := { PySem.Challenge.pw_dimhouse_k23_cells_and_shelves.main with body := [0, 1, 3, 4, 5, 6, 8, 10, 11, 12, 13, 14, 15, 16, 17, 18, 19, 20, 21].filterMap fun i => PySem.Challenge.pw_dimhouse_k23_cells_and_shelves.main.body[i]? } }
noncomputable abbrev hook : Hook := kHook P23.pre.heap_1 [2, 3, 15, 17, 18, 20, 21, 22, 24, 25, 27, 28, 29, 32, 33, 34, 36, 37, 39, 40, 41, 43, 44, 46, 47, 55, 58, 59, 60, 62, 63, 65, 66, 67, 69, 70, 72, 73, 74, 76, 77, 79, 80, 81, 83, 84, 86, 87, 88, 90, 91, 93, 94, 95, 97, 98, 100, 101, 102, 104, 105, 107, 108, 109, 111, 112, 114, 115, 116, 118, 119, 121, 122, 123, 125, 126, 128, 129, 130, 132, 133, 135, 136, 137, 139, 140, 142, 143, 144, 146, 147, 149, 150, 151, 153, 154, 156, 157, 158, 160, 161, 163, 164, 165, 166, 167, 168, 169, 172, 174, 175, 177, 178, 179, 181, 182, 184, 185, 186, 189, 190, 191, 193, 194, 196, 197, 198, 200, 201, 203, 204, 205, 207, 208, 210, 211, 212, 214, 215, 217, 218, 219, 221, 222, 224, 225, 226, 228, 229, 231, 232, 233, 235, 236, 238, 239, 240, 242, 243, 245, 246, 247, 250, 251] (fun _ => by kernel_rfl)
theorem map_two {α β γ : Type} {x : Option α} {f : α → β} {g : α → γ} {a : β} {b : γ} (h : x.map f = some a) (h' : x.map g = some b) : x.map (fun s => (f s, g s)) = some (a, b) := by
  cases x with
  | none => cases h
  | some s => simp only [Option.map_some, Option.some.injEq] at h h' ⊢; rw [h, h']
set_option maxRecDepth 100000 in
set_option maxHeartbeats 0 in
theorem run_false (w : World) : (fencedOpening treeTable PySem.Challenge.rw_dimhouse_k23_cells_and_shelves.row.prog w 2644).map (fun s₀ => (topFrom treeTable PySem.Challenge.rw_dimhouse_k23_cells_and_shelves.row.prog (w.withFollow "special-get-raises" false) 2644 s₀).map (fun s => (openSeen seen [] (importedModules PySem.Challenge.rw_dimhouse_k23_cells_and_shelves.row.prog.main.body) (fun s => xlAt seen [] s && recOk (RowW.records (OpenRow.toRowW PySem.Challenge.rw_dimhouse_k23_cells_and_shelves.row)) s) true s, Hook.obs hook s))) = some (some (openGood seen [], Hook.val hook (w.withFollow "special-get-raises" false))) := by
  kernel_rfl
set_option maxRecDepth 100000 in
set_option maxHeartbeats 0 in
theorem run_true (w : World) : (fencedOpening treeTable PySem.Challenge.rw_dimhouse_k23_cells_and_shelves.row.prog w 2644).map (fun s₀ => (topFrom treeTable PySem.Challenge.rw_dimhouse_k23_cells_and_shelves.row.prog (w.withFollow "special-get-raises" true) 2644 s₀).map (fun s => (openSeen seen [] (importedModules PySem.Challenge.rw_dimhouse_k23_cells_and_shelves.row.prog.main.body) (fun s => xlAt seen [] s && recOk (RowW.records (OpenRow.toRowW PySem.Challenge.rw_dimhouse_k23_cells_and_shelves.row)) s) true s, Hook.obs hook s))) = some (some (openGood seen [], Hook.val hook (w.withFollow "special-get-raises" true))) := by
  kernel_rfl
end P23
set_option maxRecDepth 100000
set_option maxHeartbeats 4000000
noncomputable section
def bS {α β : Type _} {o : Option α} {f : α -> Option β} {b : β} (h : o.bind f = some b) : ∃ a, o = some a /\ f a = some b := Option.bind_eq_some_iff.mp h
def mS {α β : Type _} {o : Option α} {f : α -> β} {b : β} (h : o.map f = some b) : ∃ a, o = some a /\ f a = b := Option.map_eq_some_iff.mp h
def gX {α : Type _} {l : List α} {i : Nat} {a : α} (h : l[i]? = some a) : ∃ z : i < l.length, l[i] = a := List.getElem?_eq_some_iff.mp h
open PySem PySem.Spec PyProof.Rows in abbrev gN := @List.getElem?_set_ne
open PySem PySem.Spec PyProof.Rows in abbrev gP := @Heap.get?_push_of_some
open PySem PySem.Spec PyProof.Rows in abbrev wB := @wpAny_bind
open PySem PySem.Spec PyProof.Rows in abbrev gL := @List.getElem?_append_left
open PySem PySem.Spec PyProof.Rows in abbrev gR := @List.getElem?_append_right
open PySem PySem.Spec PyProof.Rows in abbrev gQ := @List.getElem?_eq_getElem
open PySem PySem.Spec PyProof.Rows in abbrev nL := @Nat.le_refl
set_option maxRecDepth 100000
namespace L2
open PySem PySem.Spec PyProof.Rows
abbrev Key := Sum Int Str
def iC : Key -> Value -> Bool
 | .inl k, v => Value.isInt k v
 | .inr x, v => Value.isStrOf x v
def keyH (w : World) : Key -> Int
 | .inl k => hashInt k
 | .inr x => hashStr w x
def bu : ∀ {k : Key} {v : Value}, iC k v = true -> (∃ i t, k = Sum.inl i /\ v = Value.int i t) ∨ (∃ x t, k = Sum.inr x /\ v = Value.str x t)
 | .inl i, v, h => by
  obtain ⟨t, e⟩ := Value.isInt_shape (k := i) (v := v) h
  exact .inl ⟨i, t, rfl, e⟩
 | .inr x, v, h => by
  obtain ⟨t, e⟩ := Value.isStrOf_shape (x := x) (v := v) h
  exact .inr ⟨x, t, rfl, e⟩
def oK (i : Int) (t : Tok) : iC (.inl i) (.int i t) = true := by simp [iC, Value.isInt]
def oM (x : Str) (t : Tok) : iC (.inr x) (.str x t) = true := by simp [iC, Value.isStrOf]
def u5 (a b : Int) : decide ((Sum.inl a : Key) = Sum.inl b) = (a == b) := by
 by_cases e : a = b
 · subst e; simp
 · have h : ¬ (Sum.inl a : Key) = Sum.inl b := fun q => e (Sum.inl.inj q)
   rw [decide_eq_false h]
   exact (beq_eq_false_iff_ne.mpr e).symm
def u6 (a b : Str) : decide ((Sum.inr a : Key) = Sum.inr b) = decide (a = b) := by
 by_cases e : a = b
 · subst e; simp
 · have h : ¬ (Sum.inr a : Key) = Sum.inr b := fun q => e (Sum.inr.inj q)
   rw [decide_eq_false h, decide_eq_false e]
def u7 (a : Int) (b : Str) : decide ((Sum.inl a : Key) = Sum.inr b) = false := decide_eq_false (fun q => nomatch q)
def u8 (a : Str) (b : Int) : decide ((Sum.inr a : Key) = Sum.inl b) = false := decide_eq_false (fun q => nomatch q)
noncomputable def aQ (prog : Program) (w : World) : PySem.KeyKind prog w Key where
 is := iC
 hash := keyH w
 inj := fun v a b ha hb => by
  rcases bu ha with ⟨i, t, rfl, rfl⟩ | ⟨x, t, rfl, rfl⟩
  · rcases bu hb with ⟨j, u, rfl, e⟩ | ⟨y, u, rfl, e⟩
    · injection e with e1 _; rw [e1]
    · exact nomatch e
  · rcases bu hb with ⟨j, u, rfl, e⟩ | ⟨y, u, rfl, e⟩
    · exact nomatch e
    · injection e with e1 _; rw [e1]
 byValue := fun k v h => by
  rcases bu h with ⟨i, t, rfl, rfl⟩ | ⟨x, t, rfl, rfl⟩ <;> rfl
 pyHash := fun hv h => by
  rcases bu hv with ⟨i, t, rfl, rfl⟩ | ⟨x, t, rfl, rfl⟩
  · exact wpAny_pyHash_int h
  · exact wpAny_pyHash_str h
 eqBool := fun hu hv h => by
  rcases bu hu with ⟨i, t, rfl, rfl⟩ | ⟨x, t, rfl, rfl⟩
  · rcases bu hv with ⟨j, u, rfl, rfl⟩ | ⟨y, u, rfl, rfl⟩
    · rw [u5] at h; exact wpAny_eqBool_int h
    · rw [u7] at h; exact SeqAt.EqAt.int_str i t y u _ _ _ _ h
  · rcases bu hv with ⟨j, u, rfl, rfl⟩ | ⟨y, u, rfl, rfl⟩
    · rw [u8] at h; exact SeqAt.EqAt.str_int x t j u _ _ _ _ h
    · rw [u6] at h; exact wpAny_eqBool_str h
 «strs» := fun k x t v h => by
  rcases bu h with ⟨i, u, rfl, e⟩ | ⟨y, u, rfl, e⟩
  · exact nomatch e
  · injection e with e1 _
    subst e1
    cases v <;> rfl
def kR (prog : Program) (w : World) (i : Int) (t : Tok) : (aQ prog w).is (.inl i) (.int i t) = true := oK i t
def kS (prog : Program) (w : World) (x : Str) (t : Tok) : (aQ prog w).is (.inr x) (.str x t) = true := oM x t
inductive V where
 | non | bl (b : Bool) | int (i : Int) | str (x : Str) | byt (b : Array UInt8) | flt (b : UInt64) | ref (a : Addr) | ty (n : String)
 deriving DecidableEq
noncomputable def RelV : V -> Value -> Prop
 | .non, u => u = Value.none
 | .bl b, u => u = Value.bool b
 | .int i, u => ∃ t, u = Value.int i t
 | .str x, u => ∃ t, u = Value.str x t
 | .byt b, u => ∃ t, u = Value.bytes b t
 | .flt b, u => ∃ t, u = Value.float b t
 | .ref a, u => u = Value.ref a
 | .ty n, u => u = Value.type n
abbrev Vals : List V -> List Value -> Prop := Paired RelV
def Vals.length {xs : List V} {us : List Value} (r : Vals xs us) : xs.length = us.length := Paired.length r
def Vals.get : ∀ {xs : List V} {us : List Value} {i : Nat} {x : V}, Vals xs us -> xs[i]? = some x -> ∃ u, us[i]? = some u /\ RelV x u
 | _, _, _, _, .nil, e => by simp at e
 | _, _, 0, _, .cons r _, e => by simp at e; subst e; exact ⟨_, rfl, r⟩
 | _, _, i + 1, x, .cons _ t, e => by
  obtain ⟨u, h1, h2⟩ := Vals.get (i := i) (x := x) t (by simpa using e)
  exact ⟨u, by simpa using h1, h2⟩
def Vals.set {x : V} {u : Value} (r : RelV x u) : ∀ {xs : List V} {us : List Value} (i : Nat), Vals xs us -> Vals (xs.set i x) (us.set i u)
 | _, _, _, .nil => .nil
 | _, _, 0, .cons _ t => .cons r t
 | _, _, i + 1, .cons q t => .cons q (Vals.set r i t)
def Vals.append : ∀ {xs ys : List V} {us ws : List Value}, Vals xs us -> Vals ys ws -> Vals (xs ++ ys) (us ++ ws)
 | _, _, _, _, .nil, s => s
 | _, _, _, _, .cons r t, s => .cons r (Vals.append t s)
def Vals.take : ∀ {xs : List V} {us : List Value} (n : Nat), Vals xs us -> Vals (xs.take n) (us.take n)
 | _, _, 0, _ => .nil
 | _, _, _ + 1, .nil => .nil
 | _, _, n + 1, .cons r t => .cons r (Vals.take n t)
def Vals.drop : ∀ {xs : List V} {us : List Value} (n : Nat), Vals xs us -> Vals (xs.drop n) (us.drop n)
 | _, _, 0, r => r
 | _, _, _ + 1, .nil => .nil
 | _, _, n + 1, .cons _ t => Vals.drop n t
def RelO : Option V -> Option Value -> Prop
 | some v, some u => RelV v u
 | none, none => True
 | _, _ => False
def KV {κ : Type} : List (κ × V) -> List (κ × Value) -> Prop := Paired fun (p : κ × V) (q : κ × Value) => p.1 = q.1 /\ RelV p.2 q.2
def kV : Key -> V
 | .inl i => .int i
 | .inr x => .str x
inductive HO where
 | lst (xs : List V)
 | tup (xs : List V)
 | dK (kvs : List (Key × V)) | dT (kvs : List (List Key × V))
 | set (S : Int -> Bool) (n : Nat)
 | ins (C dx : Addr) (fs : List (Str × V))
 | own (x : Addr)
 | xd (fs : List (Str × V))
 | met (f x : Addr)
 | rng (lo hi : Int)
 | frz (o : Obj) (u : HO)
 | tbl (ps : Array Value)
 | ext (φ : Heap -> Prop)
abbrev Hp := Addr -> Option HO
def upd (H : Hp) (a : Addr) (o : HO) : Hp := fun b => if b = a then some o else H b
def az {H : Hp} {a : Addr} {o : HO} : upd H a o a = some o := by unfold upd; rw [if_pos rfl]
def ay {H : Hp} {a b : Addr} {o : HO} (h : b ≠ a) : upd H a o b = H b := by unfold upd; rw [if_neg h]
def xg {H : Hp} {a b : Addr} {o u : HO} (h : H a = some o) (h' : H b = some u) (d : o ≠ u) : a ≠ b := by
 intro e; subst e; rw [h] at h'; exact d (Option.some.inj h')
def bJ {H : Hp} {a b : Addr} {o : HO} (h : H a = some o) (h' : H b = none) : a ≠ b := by
 intro e; subst e; rw [h] at h'; cases h'
section
variable (P : Program) (w : World)
noncomputable def ObjOk (H : Hp) (h : Heap) (a : Addr) : HO -> Prop
 | .lst xs => xs.length <= sizeLine /\ ∃ (its : List Value) (n : Nat), Vals xs its /\ h.get? a = some { cls := .type "list", data := .seq its.toArray n }
 | .tup xs => xs.length <= sizeLine /\ ∃ its : List Value, Vals xs its /\ IsTup h a its.toArray
 | .dK kvs => kvs.length <= sizeLine /\ (a == sysModules) = false /\ ∃ vs, KV kvs vs /\ h.DictOf (aQ P w) a vs
 | .dT kvs => kvs.length <= sizeLine /\ (a == sysModules) = false /\ ∃ xs : List (List Key × Addr × Value),
     Paired (fun (p : List Key × V) (q : List Key × Addr × Value) => p.1 = q.1 /\ H q.2.1 = some (.tup (p.1.map kV)) /\ RelV p.2 q.2.2) kvs xs ∧
     ∃ o es ep, h.get? a = some o /\ o.ExactDict /\ o.data = .dict es ep /\ es.toList = xs.map (entryOfKey (tupleKind (aQ P w))) /\ (xs.map (·.1)).Nodup
 | .set S n => h.SetOf (intKind P w) a S n
 | .ins C dx fs => H dx = some (.own a) /\ fs.length <= 1000 /\ dx ≠ a /\ h.get? a = some (PySem.W.instObj C dx) ∧
     ∃ mA, h.Ns1 dx mA /\ (∀ f, RelO (fs.lookup f) (mA f)) /\ PySem.Within mA (fs.map (·.1))
 | .own _ => ∃ o, h.get? a = some o
 | .xd fs => ∃ mA, h.Ns1 a mA /\ ∀ f, RelO (fs.lookup f) (mA f)
 | .rng lo hi => ∃ t u v, h.get? a = some { cls := .type "range", data := .fields #[.int lo t, .int hi u, .int 1 v] }
 | .frz o u => h.get? a = some o /\ ObjOk H h a u
 | .tbl ps => h.get? a = some { cls := .none, data := .fields ps }
 | .met f x => h.get? a = some (PySem.W.methodObj (.ref f) (.ref x))
 | .ext φ => φ h /\ (∃ o, h.get? a = some o) /\ ∀ h1 h2 : Heap, φ h1 -> (∀ o, h1.get? a = some o -> h2.get? a = some o) -> φ h2
def HOk (H : Hp) (h : Heap) : Prop := ∀ a o, H a = some o -> ObjOk P w H h a o
end
section
variable {P : Program} {w : World} {H H' : Hp} {h h' : Heap} {a : Addr} {o : HO}
def ObjOk.lt (x : ObjOk P w H h a o) : a < h.objs.size := by
 cases o with
 | lst xs => obtain ⟨_, _, _, _, e⟩ := x; exact Heap.lt_size e
 | tup xs => obtain ⟨_, _, _, p⟩ := x; exact p.lt
 | dK kvs => obtain ⟨_, _, _, _, o, _, _, e, _⟩ := x; exact Heap.lt_size e
 | dT kvs => obtain ⟨_, _, _, _, o, _, _, e, _⟩ := x; exact Heap.lt_size e
 | set S n => obtain ⟨o, _, _, _, e, _⟩ := x; exact Heap.lt_size e
 | ins C dx fs => obtain ⟨_, _, _, e, _⟩ := x; exact Heap.lt_size e
 | own y => obtain ⟨_, e⟩ := x; exact Heap.lt_size e
 | xd fs => obtain ⟨_, ⟨_, _, _, e, _⟩, _⟩ := x; exact Heap.lt_size e
 | rng lo hi => obtain ⟨_, _, _, e⟩ := x; exact Heap.lt_size e
 | frz ob u => obtain ⟨e, _⟩ := x; exact Heap.lt_size e
 | tbl ps => exact Heap.lt_size (show h.get? a = some _ from x)
 | met f y => exact Heap.lt_size (show h.get? a = some _ from x)
 | ext φ => obtain ⟨_, ⟨_, e⟩, _⟩ := x; exact Heap.lt_size e
def Paired.mapP {α β : Type} {F G : α -> β -> Prop} : ∀ {l₁ : List α} {l₂ : List β}, Paired F l₁ l₂ -> (∀ a b, F a b -> G a b) -> Paired G l₁ l₂
 | _, _, .nil, _ => .nil
 | _, _, .cons r t, f => .cons (f _ _ r) (Paired.mapP t f)
def ObjOk.stay (x : ObjOk P w H h a o) (k : ∀ b u, (b = a ∨ H b = some (.own a)) -> h.get? b = some u -> h'.get? b = some u)
  (ho : ∀ b, H b = some (.own a) -> H' b = some (.own a)) (ht : ∀ b xs, H b = some (.tup xs) -> H' b = some (.tup xs)) : ObjOk P w H' h' a o := by
 induction o with
 | lst xs => obtain ⟨z, its, n, r, e⟩ := x; exact ⟨z, its, n, r, k _ _ (.inl rfl) e⟩
 | tup xs => obtain ⟨z, its, r, ob, e, c⟩ := x; exact ⟨z, its, r, ob, k _ _ (.inl rfl) e, c⟩
 | dK kvs => obtain ⟨z, y, vs, r, ob, es, ep, e, c⟩ := x; exact ⟨z, y, vs, r, ob, es, ep, k _ _ (.inl rfl) e, c⟩
 | dT kvs =>
  obtain ⟨z, y, xs, r, ob, es, ep, e, c⟩ := x
  exact ⟨z, y, xs, Paired.mapP r fun p q z => ⟨z.1, ht _ _ z.2.1, z.2.2⟩, ob, es, ep, k _ _ (.inl rfl) e, c⟩
 | set S n => obtain ⟨ob, es, ep, t, e, c⟩ := x; exact ⟨ob, es, ep, t, k _ _ (.inl rfl) e, c⟩
 | ins C dx fs =>
  obtain ⟨d, z, ne, e, mA, ⟨od, es, ep, e2, c⟩, r⟩ := x
  exact ⟨ho _ d, z, ne, k _ _ (.inl rfl) e, mA, ⟨od, es, ep, k _ _ (.inr d) e2, c⟩, r⟩
 | own y => obtain ⟨ob, e⟩ := x; exact ⟨ob, k _ _ (.inl rfl) e⟩
 | xd fs => obtain ⟨mA, ⟨od, es, ep, e, c⟩, r⟩ := x; exact ⟨mA, ⟨od, es, ep, k _ _ (.inl rfl) e, c⟩, r⟩
 | rng lo hi => obtain ⟨t, u, v, e⟩ := x; exact ⟨t, u, v, k _ _ (.inl rfl) e⟩
 | frz ob u ih => obtain ⟨e, q⟩ := x; exact ⟨k _ _ (.inl rfl) e, ih q⟩
 | tbl ps =>
  have e : h.get? a = some { cls := .none, data := .fields ps } := x
  show h'.get? a = some { cls := .none, data := .fields ps }
  exact k a _ (.inl rfl) e
 | met f y =>
  have e : h.get? a = some (PySem.W.methodObj (.ref f) (.ref y)) := x
  show h'.get? a = some (PySem.W.methodObj (.ref f) (.ref y))
  exact k a _ (.inl rfl) e
 | ext φ => obtain ⟨p, ⟨o, e⟩, st⟩ := x; exact ⟨st _ _ p fun o q => k _ _ (.inl rfl) q, ⟨o, k _ _ (.inl rfl) e⟩, st⟩
def HOk.lt (x : HOk P w H h) (e : H a = some o) : a < h.objs.size := (x a o e).lt
def HOk.fresh (x : HOk P w H h) (e : h.objs.size <= a) : H a = none := by
 cases q : H a with
 | none => rfl
 | some u => exact absurd (Nat.lt_of_lt_of_le (x.lt q) e) (Nat.lt_irrefl _)
def HOk.kept (x : HOk P w H h) (k : ∀ b u, h.get? b = some u -> h'.get? b = some u) : HOk P w H h' := fun a o e =>
 (x a o e).stay (fun b u _ q => k b u q) (fun _ q => q) fun _ _ q => q
def HOk.laid (x : HOk P w H h) (k : ∀ b u, h.get? b = some u -> h'.get? b = some u) (hp : h.objs.size <= a) (new : ObjOk P w (upd H a o) h' a o) : HOk P w (upd H a o) h' := fun b u e => by
 have hn := x.fresh hp
 by_cases hb : b = a
 · subst hb; rw [az] at e; cases e; exact new
 · rw [ay hb] at e
   exact (x b u e).stay (fun c v _ q => k c v q) (fun c q => by rw [ay (bJ q hn)]; exact q) fun c xs q => by rw [ay (bJ q hn)]; exact q
end
def Rd (H : Hp) (a : Addr) (u : HO) : Prop := H a = some u ∨ ∃ o, H a = some (.frz o u)
def Rd.ok {P : Program} {w : World} {H : Hp} {h : Heap} {a : Addr} {u : HO} (r : Rd H a u) (x : HOk P w H h) : ObjOk P w H h a u := by
 rcases r with r | ⟨o, r⟩
 · exact x a u r
 · obtain ⟨_, q⟩ := x a _ r
   exact q
def Mut : Option HO -> Prop
 | some (.lst _) => True
 | some (.dK _) => True
 | some (.dT _) => True
 | some (.set _ _) => True
 | some (.ins _ _ _) => True
 | some (.ext _) => True
 | _ => False
section
variable {P : Program} {w : World} {H : Hp} {h h' : Heap} {x e : Addr} {o' : HO}
def HOk.write (ok : HOk P w H h) (mu : Mut (H x)) (he : e = x ∨ H e = some (.own x)) (k : ∀ b u, b ≠ e -> h.get? b = some u -> h'.get? b = some u) (heo : ∃ u, h'.get? e = some u)
  (new : ObjOk P w (upd H x o') h' x o') : HOk P w (upd H x o') h' := fun b u q => by
 have nown : ∀ c y, H c = some (.own y) -> c ≠ x := fun c y r z => by subst z; rw [r] at mu; exact mu
 have ntup : ∀ c xs, H c = some (.tup xs) -> c ≠ x := fun c xs r z => by subst z; rw [r] at mu; exact mu
 by_cases hb : b = x
 · subst hb; rw [az] at q; cases q; exact new
 · rw [ay hb] at q
   by_cases hbe : b = e
   · have q' : H b = some (.own x) := by
      rcases he with z | z
      · exact absurd (hbe.trans z) hb
      · rw [hbe]; exact z
     rw [q] at q'; cases q'
     obtain ⟨v, hv⟩ := heo
     exact ⟨v, by rw [hbe]; exact hv⟩
   · refine (ok b u q).stay (fun c v hc r => k c v ?_ r) (fun c r => by rw [ay (nown c b r)]; exact r) fun c xs r => by rw [ay (ntup c xs r)]; exact r
     rcases hc with rfl | hc
     · exact hbe
     · rintro rfl
       rcases he with z | z
       · exact nown c b hc z
       · rw [hc] at z; cases z; exact hb rfl
end
structure Un (fs ex : List Addr) (H H' : Hp) (h h' : Heap) : Prop where
 keep : ∀ b o, h.get? b = some o -> H b = none -> b ∉ fs -> b ∉ ex -> h'.get? b = some o
 slot : ∀ b o, h.get? b = some o -> H b = none -> b ∈ fs -> b ∉ ex -> ∃ sl, h'.get? b = some { o with slots := sl }
 free : ∀ b o, h.get? b = some o -> H b = none -> b ∉ ex -> H' b = none
 there : ∀ b o, h.get? b = some o -> b ∉ ex -> ∃ o', h'.get? b = some o'
 tups : ∀ b xs, H b = some (.tup xs) -> H' b = some (.tup xs)
 frzs : ∀ b o u, H b = some (.frz o u) -> H' b = some (.frz o u)
 tbls : ∀ b ps, H b = some (.tbl ps) -> ∃ more, H' b = some (.tbl (ps ++ more))
section
variable {fs fs' ex ex' : List Addr} {H H1 H2 : Hp} {h h1 h2 h' : Heap} {a x e : Addr} {o : HO}
def Un.any (u : Un fs ex H H1 h h1) {b : Addr} {ob : Obj} (q : h.get? b = some ob) (n : H b = none) (hx : b ∉ ex) : ∃ sl, h1.get? b = some { ob with slots := sl } := by
 by_cases hb : b ∈ fs
 · exact u.slot b ob q n hb hx
 · exact ⟨ob.slots, u.keep b ob q n hb hx⟩
def Un.trans (a : Un fs ex H H1 h h1) (b : Un fs ex H1 H2 h1 h2) : Un fs ex H H2 h h2 where
 keep := fun c ob q n hc hx => b.keep c ob (a.keep c ob q n hc hx) (a.free c ob q n hx) hc hx
 slot := fun c ob q n hc hx => by
  obtain ⟨sl, e1⟩ := a.slot c ob q n hc hx
  obtain ⟨sl', e2⟩ := b.slot c _ e1 (a.free c ob q n hx) hc hx
  exact ⟨sl', e2⟩
 free := fun c ob q n hx => by
  obtain ⟨o', e1⟩ := a.there c ob q hx
  exact b.free c o' e1 (a.free c ob q n hx) hx
 there := fun c ob q hx => by
  obtain ⟨o', e1⟩ := a.there c ob q hx
  exact b.there c o' e1 hx
 tups := fun c xs q => b.tups c xs (a.tups c xs q)
 frzs := fun c ob xs q => b.frzs c ob xs (a.frzs c ob xs q)
 tbls := fun c ps q => by
  obtain ⟨m1, e1⟩ := a.tbls c ps q
  obtain ⟨m2, e2⟩ := b.tbls c _ e1
  exact ⟨m1 ++ m2, by rw [e2, Array.append_assoc]⟩
def Un.kept (k : ∀ b u, h.get? b = some u -> h'.get? b = some u) : Un fs ex H H h h' :=
 ⟨fun b ob q _ _ _ => k b ob q, fun b ob q _ _ _ => ⟨ob.slots, k b ob q⟩, fun _ _ _ n _ => n, fun b ob q _ => ⟨ob, k b ob q⟩, fun _ _ q => q, fun _ _ _ q => q, fun _ ps q => ⟨#[], by rw [q]; simp⟩⟩
def Un.refl : Un fs ex H H h h := Un.kept fun _ _ q => q
def Un.laid (k : ∀ b u, h.get? b = some u -> h'.get? b = some u) (hp : h.objs.size <= a) (hn : H a = none) : Un fs ex H (upd H a o) h h' where
 keep := fun b u q _ _ _ => k b u q
 slot := fun b u q _ _ _ => ⟨u.slots, k b u q⟩
 free := fun b u q n _ => by rw [ay (Nat.ne_of_lt (Nat.lt_of_lt_of_le (Heap.lt_size q) hp))]; exact n
 there := fun b u q _ => ⟨u, k b u q⟩
 tups := fun b xs q => by rw [ay (bJ q hn)]; exact q
 frzs := fun b u xs q => by rw [ay (bJ q hn)]; exact q
 tbls := fun b ps q => ⟨#[], by rw [ay (bJ q hn), q]; simp⟩
def Un.write (mu : Mut (H x)) (he : e = x ∨ H e = some (.own x)) (k : ∀ b u, b ≠ e -> h.get? b = some u -> h'.get? b = some u) (heo : ∃ u, h'.get? e = some u) : Un fs ex H (upd H x o) h h' := by
 have hx : ∀ b, H b = none -> b ≠ x := fun b n z => by subst z; rw [n] at mu; exact mu
 have hb : ∀ b, H b = none -> b ≠ e := fun b n z => by
  subst z
  rcases he with r | r
  · exact hx b n r
  · rw [n] at r; cases r
 have hm : ∀ b u, H b = some u -> ¬ Mut (some u) -> b ≠ x := fun b u q nm z => by subst z; rw [q] at mu; exact nm mu
 refine ⟨fun b u q n _ _ => k b u (hb b n) q, fun b u q n _ _ => ⟨u.slots, k b u (hb b n) q⟩, fun b u q n _ => by rw [ay (hx b n)]; exact n, fun b u q _ => ?_,
  fun b xs q => by rw [ay (hm b _ q fun z => z)]; exact q, fun b u xs q => by rw [ay (hm b _ q fun z => z)]; exact q, fun b ps q => ⟨#[], by rw [ay (hm b _ q fun z => z), q]; simp⟩⟩
 by_cases hbe : b = e
 · subst hbe; exact heo
 · exact ⟨u, k b u hbe q⟩
end
def trk (h : Heap) (H : Hp) : List Addr := (List.range h.objs.size).filter fun a => (H a).isSome
def jZ (h : Heap) (H : Hp) : Heap := PySem.W.hideAll h (trk h H)
def oN (h : Heap) (H : Hp) : (jZ h H).objs.size = h.objs.size := PySem.W.hideAll_size _ _
def pE {h : Heap} {H : Hp} {b : Addr} {o : Obj} (e : h.get? b = some o) (n : H b = none) : (jZ h H).get? b = some o :=
 PySem.W.hideAll_get _ e fun hm => by
  have q : (H b).isSome = true := (List.mem_filter.mp hm).2
  rw [n] at q; simp at q
def rR {h : Heap} {H : Hp} {b : Addr} {o : Obj} (e : (jZ h H).get? b = some o) : h.get? b = some o /\ H b = none := by
 have e' : h.get? b = some o := PySem.W.of_hideAll (trk h H) e
 refine ⟨e', ?_⟩
 cases q : H b with
 | none => rfl
 | some x =>
  have hm : b ∈ trk h H := List.mem_filter.mpr ⟨List.mem_range.mpr (Heap.lt_size e'), by simp [q]⟩
  have z : (jZ h H).get? b = none := PySem.W.hideAll_none (trk h H) hm
  rw [z] at e; cases e
def rS (g h : Heap) (L : Addr) : List (Addr × Obj) := (List.range h.objs.size).filterMap fun a => if a = L ∨ (g.get? a).isSome = true then none else (h.get? a).map fun o => (a, o)
def rest (g h : Heap) (L d : Addr) : List (Addr × Obj) := (rS g h L).filter fun p => decide (p.1 ≠ d)
structure Mod (K : PySem.W.Frag) (mg : Str -> Option Value) (base : Heap) : Prop where
 kin : K.In base
 glob : base.Ns mainGlobals mg
 blt : ∃ mb, base.Ns builtinsNs mb /\ ∀ x : Str, x ≠ "__name__" -> mb x = bootBuiltins x
 nolimit : base.NoLimit
structure Cx where
 prog : Program
 w : World
 K : PySem.W.Frag
 mg : Str -> Option Value
 base : Heap
 A : Around
 N : List Str
 s₀ : Shared
 H₀ : Hp
 env : Env
 outer : List Env
 stack : List Env
 ex : List Addr
 fn : Str -> Bool
 calm : Bool
 pn : List (Addr × Obj)
 xe : Value -> Shared -> Prop
def frs (l : List Env) : List Addr := l.filterMap (·.frame)
abbrev Cx.fs (X : Cx) : List Addr := frs X.outer
def Vis (sc : Scope) (x : Str) : Prop := sc.names.lookup x = some .local ∨ sc.names.lookup x = some .cell ∨ sc.names.lookup x = some .free
def Loc (sc : Scope) (x : Str) : Prop := sc.names.lookup x = some .local ∨ sc.names.lookup x = some .cell
noncomputable def Look (env : Env) (h : Heap) (m : Str -> Option Value) (x : Str) (u : Value) : Prop :=
 (env.kindOf x = some .local /\ m x = some u) ∨ ((env.kindOf x = some .cell ∨ env.kindOf x = some .free) /\ ∃ c, env.cells.lookup x = some c /\ h.IsCell c (some u))
structure Cx.Ok (X : Cx) : Prop where
 mod : Mod X.K X.mg X.base
 kind : X.env.scope.kind = .function
 glob : X.env.globals = mainGlobals
 blt : X.env.builtins = builtinsNs
 above : X.s₀.heap.objs.size <= X.env.locals
 inj : ∀ x y c, X.env.cells.lookup x = some c -> X.env.cells.lookup y = some c -> x = y
 has : ∀ x, (X.env.kindOf x = some .cell ∨ X.env.kindOf x = some .free) -> ∃ c, X.env.cells.lookup x = some c
 cab : ∀ x c, X.fn x = true -> X.env.cells.lookup x = some c -> X.s₀.heap.objs.size <= c
 hd : X.calm = true -> X.A.handled = none
 frames : X.A.frames = some X.stack
 stk : X.stack = X.outer ∨ (X.stack = X.env :: X.outer /\ X.env.frame = some X.env.locals)
 exf : ∀ b ∈ X.ex, b ≠ X.env.locals /\ ∀ x c, X.env.cells.lookup x = some c -> c ≠ b
 bs : ∀ b o, X.base.get? b = some o -> X.s₀.heap.get? b = some o /\ X.H₀ b = none
 bsz : X.base.objs.size <= X.s₀.heap.objs.size
 noex : ∀ b o, X.base.get? b = some o -> b ∉ X.ex
 exfs : ∀ b ∈ X.ex, b ∉ X.fs
 funs : X.s₀.heap.FunFrames X.base X.outer
 frf : ∀ b ∈ X.fs, X.H₀ b = none
structure Inv (X : Cx) (pins : List (Addr × Obj)) (σ : List (Option V)) (H : Hp) (s : Shared) : Prop where
 ok : X.Ok
 os : s.os = X.s₀.os
 bare : AllBare s.gens
 base : Un X.fs X.ex X.H₀ H X.s₀.heap s.heap
 loc : ∃ m, s.heap.Ns X.env.locals m /\ ∀ (i : Nat) (x : Str) (v : V), X.N[i]? = some x -> σ[i]? = some (some v) -> Vis X.env.scope x -> ∃ u, RelV v u /\ Look X.env s.heap m x u
 cell : ∀ x c, X.env.cells.lookup x = some c -> ∃ v, s.heap.IsCell c v
 free : H X.env.locals = none
 freeC : ∀ x c, X.env.cells.lookup x = some c -> H c = none
 pin : ∀ p ∈ X.pn ++ pins, s.heap.get? p.1 = some p.2 /\ H p.1 = none /\ p.1 ≠ X.env.locals /\ p.1 ∉ X.fs /\ ∀ v, p.2.data ≠ .cell v
 hok : HOk X.prog X.w H s.heap
 len : σ.length = X.N.length
section
variable {X : Cx} {pins : List (Addr × Obj)} {σ : List (Option V)} {H H' : Hp} {s : Shared} {h' : Heap}
def Cx.Ok.nofr (ok : X.Ok) {b : Addr} {o : Obj} (e : X.base.get? b = some o) : b ∉ X.fs := fun hb => by
 have := (ok.funs.mem hb).1
 rw [e] at this; cases this
def Inv.bs (I : Inv X pins σ H s) : ∀ b o, X.base.get? b = some o -> s.heap.get? b = some o /\ H b = none := fun b o e =>
 ⟨I.base.keep b o (I.ok.bs b o e).1 (I.ok.bs b o e).2 (I.ok.nofr e) (I.ok.noex b o e), I.base.free b o (I.ok.bs b o e).1 (I.ok.bs b o e).2 (I.ok.noex b o e)⟩
def Inv.bk (I : Inv X pins σ H s) : ∀ b o, X.base.get? b = some o -> s.heap.get? b = some o := fun b o e => (I.bs b o e).1
def Inv.mod (I : Inv X pins σ H s) : Mod X.K X.mg X.base := I.ok.mod
def Inv.kIn (I : Inv X pins σ H s) : X.K.In s.heap := I.ok.mod.kin.keeps I.bk
def Inv.fr (I : Inv X pins σ H s) : ∃ m, Fr X.base X.env.locals s.heap m :=
 let ⟨m, hn, _⟩ := I.loc
 ⟨m, hn, I.bk, Nat.le_trans I.ok.bsz I.ok.above⟩
def Inv.lt (I : Inv X pins σ H s) : X.env.locals < s.heap.objs.size := let ⟨_, hn, _⟩ := I.loc; hn.lt
def Inv.sz (I : Inv X pins σ H s) : X.s₀.heap.objs.size <= s.heap.objs.size := Nat.le_trans I.ok.above (Nat.le_of_lt I.lt)
def Inv.nofs (I : Inv X pins σ H s) {a : Addr} (h : s.heap.objs.size <= a) : a ∉ X.fs := fun hb => by
 obtain ⟨_, o, ho, _⟩ := I.ok.funs.mem hb
 exact absurd (Nat.lt_of_lt_of_le (Heap.lt_size ho) (Nat.le_trans I.sz h)) (Nat.lt_irrefl _)
def Inv.cne (I : Inv X pins σ H s) : ∀ x c, X.env.cells.lookup x = some c -> c ≠ X.env.locals := fun x c e z => by
 obtain ⟨v, o, ho, hd⟩ := I.cell x c e
 obtain ⟨m, ⟨o', es, ep, ho', hd', _⟩, _⟩ := I.loc
 rw [z, ho'] at ho; cases ho; rw [hd'] at hd; cases hd
def Inv.funs (I : Inv X pins σ H s) : s.heap.FunFrames X.base X.outer := by
 have all : ∀ (l : List Env), (∀ b ∈ frs l, b ∈ X.fs) -> X.s₀.heap.FunFrames X.base l -> s.heap.FunFrames X.base l := by
  intro l
  induction l with
  | nil => intro _ _; trivial
  | cons env r ih =>
   intro hs hl
   obtain ⟨hk, ⟨L, o, hf, hn, ho, hd⟩, hr⟩ := hl
   have hL : L ∈ X.fs := hs L (by unfold frs; rw [List.filterMap_cons, hf]; exact List.mem_cons_self)
   obtain ⟨sl, e⟩ := I.base.slot L o ho (I.ok.frf L hL) hL fun z => I.ok.exfs L z hL
   exact ⟨hk, ⟨L, _, hf, hn, e, hd⟩, ih (fun b hb => hs b (by unfold frs; rw [List.filterMap_cons, hf]; exact List.mem_cons_of_mem _ hb)) hr⟩
 exact all X.outer (fun _ hb => hb) I.ok.funs
def Inv.stack (I : Inv X pins σ H s) : s.heap.FunFrames X.base X.stack := by
 rcases I.ok.stk with e | ⟨e, hf⟩
 · rw [e]; exact I.funs
 · rw [e]
   obtain ⟨m, hn, _⟩ := I.loc
   refine .cons (by rw [I.ok.kind]; decide) hf hn ?_ I.funs
   exact Heap.get?_none_of_le (Nat.le_trans I.ok.bsz I.ok.above)
def Inv.stkSub (I : Inv X pins σ H s) : ∀ b ∈ frs X.stack, b ∈ X.env.locals :: X.fs := fun b hb => by
 rcases I.ok.stk with e | ⟨e, hf⟩
 · rw [e] at hb; exact List.mem_cons_of_mem _ hb
 · rw [e] at hb
   unfold frs at hb
   rw [List.filterMap_cons, hf] at hb
   exact hb
def Inv.stkFree (I : Inv X pins σ H s) : ∀ b ∈ frs X.stack, H b = none := fun b hb => by
 rcases List.mem_cons.mp (I.stkSub b hb) with e | hb
 · rw [e]; exact I.free
 · obtain ⟨_, o, ho, _⟩ := I.ok.funs.mem hb
   exact I.base.free b o ho (I.ok.frf b hb) fun z => I.ok.exfs b z hb
def Inv.step {g' : Array GenState} {t' : Nat} {d' : Drawn} {ch : List Addr} (I : Inv X pins σ H s)
  (hch : ∀ b ∈ ch, (b ∈ X.ex ∨ X.s₀.heap.objs.size <= b) /\ b ≠ X.env.locals /\ (∀ x c, X.env.cells.lookup x = some c -> c ≠ b) /\ ∀ p ∈ X.pn ++ pins, p.1 ≠ b)
  (keep : ∀ b o, b ≠ X.env.locals -> b ∉ X.fs -> b ∉ ch -> s.heap.get? b = some o -> H b = none -> h'.get? b = some o)
  (slot : ∀ b o, b ≠ X.env.locals -> b ∈ X.fs -> b ∉ ch -> s.heap.get? b = some o -> H b = none -> ∃ sl, h'.get? b = some { o with slots := sl }) (free : ∀ b o, b ∉ ch -> s.heap.get? b = some o -> H b = none -> H' b = none)
  (there : ∀ b o, b ∉ ch -> s.heap.get? b = some o -> ∃ o', h'.get? b = some o')
  (tups : ∀ b xs, H b = some (.tup xs) -> H' b = some (.tup xs)) (frzs : ∀ b o u, H b = some (.frz o u) -> H' b = some (.frz o u)) (tbls : ∀ b ps, H b = some (.tbl ps) -> ∃ more, H' b = some (.tbl (ps ++ more)))
  (ns : ∀ m, s.heap.Ns X.env.locals m -> h'.Ns X.env.locals m) (hok : HOk X.prog X.w H' h') (hg : AllBare g') :
  Inv X pins σ H' { s with heap := h', gens := g', drawn := d', toks := t' } := by
 have neL : ∀ b o, X.s₀.heap.get? b = some o -> b ≠ X.env.locals := fun b o e => Nat.ne_of_lt (Nat.lt_of_lt_of_le (Heap.lt_size e) I.ok.above)
 have neC : ∀ b o, X.s₀.heap.get? b = some o -> b ∉ X.ex -> b ∉ ch := fun b o e hx hb => by
  rcases (hch b hb).1 with z | z
  · exact hx z
  · exact absurd (Nat.lt_of_lt_of_le (Heap.lt_size e) z) (Nat.lt_irrefl _)
 have cellK : ∀ x c, X.env.cells.lookup x = some c -> ∀ v, s.heap.IsCell c v -> h'.IsCell c v := fun x c e v ⟨o, ho, hd⟩ => by
  have nch : c ∉ ch := fun z => (hch c z).2.2.1 x c e rfl
  by_cases hc : c ∈ X.fs
  · obtain ⟨sl, q⟩ := slot c o (I.cne x c e) hc nch ho (I.freeC x c e)
    exact ⟨_, q, hd⟩
  · exact ⟨o, keep c o (I.cne x c e) hc nch ho (I.freeC x c e), hd⟩
 refine ⟨I.ok, I.os, hg, ⟨fun b o e n hb hx => ?_, fun b o e n hb hx => ?_, fun b o e n hx => ?_, fun b o e hx => ?_, fun b xs e => tups b xs (I.base.tups b xs e), fun b o xs e => frzs b o xs (I.base.frzs b o xs e), fun b ps e => ?_⟩, ?_, fun x c e => ?_, ?_, fun x c e => ?_, fun p hp => ?_, hok, I.len⟩
 · exact keep b o (neL b o e) hb (neC b o e hx) (I.base.keep b o e n hb hx) (I.base.free b o e n hx)
 · obtain ⟨sl, e1⟩ := I.base.slot b o e n hb hx
   obtain ⟨sl', e2⟩ := slot b _ (neL b o e) hb (neC b o e hx) e1 (I.base.free b o e n hx)
   exact ⟨sl', e2⟩
 · obtain ⟨o', e1⟩ := I.base.there b o e hx
   exact free b o' (neC b o e hx) e1 (I.base.free b o e n hx)
 · obtain ⟨o', e1⟩ := I.base.there b o e hx
   exact there b o' (neC b o e hx) e1
 · obtain ⟨m1, e1⟩ := I.base.tbls b ps e
   obtain ⟨m2, e2⟩ := tbls b _ e1
   exact ⟨m1 ++ m2, by rw [e2, Array.append_assoc]⟩
 · obtain ⟨m, hn, hl⟩ := I.loc
   refine ⟨m, ns m hn, fun i x v e1 e2 e3 => ?_⟩
   obtain ⟨u, r, l⟩ := hl i x v e1 e2 e3
   refine ⟨u, r, ?_⟩
   rcases l with l | ⟨k, c, e, z⟩
   · exact .inl l
   · exact .inr ⟨k, c, e, cellK x c e _ z⟩
 · obtain ⟨v, z⟩ := I.cell x c e
   exact ⟨v, cellK x c e v z⟩
 · obtain ⟨m, ⟨o, _, _, ho, _⟩, _⟩ := I.loc
   exact free _ o (fun z => (hch _ z).2.1 rfl) ho I.free
 · obtain ⟨v, o, ho, hd⟩ := I.cell x c e
   exact free c o (fun z => (hch c z).2.2.1 x c e rfl) ho (I.freeC x c e)
 · obtain ⟨e, n, ne, nf, d⟩ := I.pin p hp
   have nch : p.1 ∉ ch := fun z => (hch p.1 z).2.2.2 p hp rfl
   exact ⟨keep p.1 p.2 ne nf nch e n, free p.1 p.2 nch e n, ne, nf, d⟩
def Inv.un {t' : Nat} (I : Inv X pins σ H s) (u : Un X.fs [] H H' s.heap h') (hok : HOk X.prog X.w H' h') : Inv X pins σ H' { s with heap := h', toks := t' } := by
 obtain ⟨m, ⟨o, es, ep, ho, r⟩, _⟩ := id I.loc
 obtain ⟨sl, hL⟩ := u.any ho I.free (by simp)
 exact I.step (g' := s.gens) (d' := s.drawn) (ch := []) (fun _ z => nomatch z) (fun b o _ hb _ e n => u.keep b o e n hb (by simp)) (fun b o _ hb _ e n => u.slot b o e n hb (by simp)) (fun b o _ e n => u.free b o e n (by simp)) (fun b o _ e => u.there b o e (by simp)) u.tups u.frzs u.tbls (fun m' hm => by
  obtain ⟨o', es', ep', ho', r'⟩ := hm
  rw [ho] at ho'; cases ho'
  exact ⟨_, es', ep', hL, r'⟩) hok I.bare
def Inv.call {g' : Array GenState} {t' : Nat} {d' : Drawn} {ch : List Addr} (I : Inv X pins σ H s) (u : Un (frs X.stack) ch H H' s.heap h') (hok : HOk X.prog X.w H' h') (hg : AllBare g')
  (hch : ∀ b ∈ ch, (b ∈ X.ex ∨ X.s₀.heap.objs.size <= b) /\ b ≠ X.env.locals /\ (∀ x c, X.env.cells.lookup x = some c -> c ≠ b) /\ ∀ p ∈ X.pn ++ pins, p.1 ≠ b) :
  Inv X pins σ H' { s with heap := h', gens := g', drawn := d', toks := t' } := by
 obtain ⟨m, ⟨o, es, ep, ho, r⟩, _⟩ := id I.loc
 obtain ⟨sl, hL⟩ := u.any ho I.free fun z => (hch _ z).2.1 rfl
 exact I.step (ch := ch) hch (fun b o hL hb hc e n => u.keep b o e n (fun z => (List.mem_cons.mp (I.stkSub b z)).elim hL hb) hc) (fun b o _ _ hc e n => u.any e n hc) (fun b o hc e n => u.free b o e n hc) (fun b o hc e => u.there b o e hc) u.tups u.frzs u.tbls (fun m' hm => by
  obtain ⟨o', es', ep', ho', r'⟩ := hm
  rw [ho] at ho'; cases ho'
  exact ⟨_, es', ep', hL, r'⟩) hok hg
def Inv.turned {t' : Nat} {it : Addr} (I : Inv X pins σ H s) (k : ∀ b o, b ≠ it -> s.heap.get? b = some o -> h'.get? b = some o) (hn : H it = none) (hL : it ≠ X.env.locals)
  (h1 : it ∈ X.ex ∨ X.s₀.heap.objs.size <= it) (h2 : ∀ x c, X.env.cells.lookup x = some c -> c ≠ it) (h3 : ∀ p ∈ X.pn ++ pins, p.1 ≠ it) : Inv X pins σ H { s with heap := h', toks := t' } := by
 have nit : ∀ b u, H b = some u -> b ≠ it := fun b u e z => by rw [z, hn] at e; cases e
 refine I.step (g' := s.gens) (d' := s.drawn) (ch := [it]) (fun b hb => ?_) (fun b o _ _ hc e _ => k b o (fun z => hc (by simp [z])) e) (fun b o _ _ hc e _ => ⟨o.slots, k b o (fun z => hc (by simp [z])) e⟩) (fun _ _ _ _ n => n)
  (fun b o hc e => ⟨o, k b o (fun z => hc (by simp [z])) e⟩) (fun _ _ e => e) (fun _ _ _ e => e) (fun b ps e => ⟨#[], by rw [e]; simp⟩) (fun m hm => ?_) (fun b u e => ?_) I.bare
 · have e : b = it := by simpa using hb
   subst e
   exact ⟨h1, hL, h2, h3⟩
 · obtain ⟨o, es, ep, ho, r⟩ := hm
   exact ⟨o, es, ep, k _ o (Ne.symm hL) ho, r⟩
 · refine (I.hok b u e).stay (fun c v hc q => k c v ?_ q) (fun _ q => q) fun _ _ q => q
   rcases hc with z | z
   · rw [z]; exact nit b u e
   · exact nit c _ z
def Inv.tok (I : Inv X pins σ H s) (t : Nat) : Inv X pins σ H { s with toks := t } := I.un (h' := s.heap) (t' := t) Un.refl I.hok
def Inv.kept {t' : Nat} (I : Inv X pins σ H s) (k : ∀ b u, s.heap.get? b = some u -> h'.get? b = some u) : Inv X pins σ H { s with heap := h', toks := t' } := I.un (Un.kept k) (I.hok.kept k)
def Inv.laid {a : Addr} {o : HO} {t' : Nat} (I : Inv X pins σ H s) (k : ∀ b u, s.heap.get? b = some u -> h'.get? b = some u) (hp : s.heap.objs.size <= a) (new : ObjOk X.prog X.w (upd H a o) h' a o) :
  Inv X pins σ (upd H a o) { s with heap := h', toks := t' } := I.un (Un.laid k hp (I.hok.fresh hp)) (I.hok.laid k hp new)
def Inv.write {x e : Addr} {o : HO} {t' : Nat} (I : Inv X pins σ H s) (mu : Mut (H x)) (he : e = x ∨ H e = some (.own x)) (k : ∀ b u, b ≠ e -> s.heap.get? b = some u -> h'.get? b = some u) (heo : ∃ u, h'.get? e = some u)
  (new : ObjOk X.prog X.w (upd H x o) h' x o) : Inv X pins σ (upd H x o) { s with heap := h', toks := t' } := I.un (Un.write mu he k heo) (I.hok.write mu he k heo new)
def Inv.weak {σ' : List (Option V)} (I : Inv X pins σ H s) (hl : σ'.length = σ.length) (w : ∀ (i : Nat) v, σ'[i]? = some (some v) -> σ[i]? = some (some v)) : Inv X pins σ' H s :=
 ⟨I.ok, I.os, I.bare, I.base, let ⟨m, hn, hl'⟩ := I.loc; ⟨m, hn, fun i x v e1 e2 e3 => hl' i x v e1 (w i v e2) e3⟩, I.cell, I.free, I.freeC, I.pin, I.hok, hl.trans I.len⟩
def Inv.pins_of {pins' : List (Addr × Obj)} (I : Inv X pins σ H s) (h : ∀ p ∈ pins', s.heap.get? p.1 = some p.2 /\ H p.1 = none /\ p.1 ≠ X.env.locals /\ p.1 ∉ X.fs /\ ∀ v, p.2.data ≠ .cell v) : Inv X pins' σ H s :=
 ⟨I.ok, I.os, I.bare, I.base, I.loc, I.cell, I.free, I.freeC, fun p hp => (List.mem_append.mp hp).elim (fun z => I.pin p (List.mem_append_left _ z)) (h p), I.hok, I.len⟩
def kU {N : List Str} (hN : N.Nodup) {i j : Nat} {x : Str} (a : N[i]? = some x) (b : N[j]? = some x) : i = j := by
 obtain ⟨h1, e1⟩ := gX a
 obtain ⟨h2, e2⟩ := gX b
 exact (List.getElem_inj hN).mp (e1.trans e2.symm)
def jq {M : Model} {A : Around} {E : Value -> Shared -> Prop} {i : Nat} {x : Str} {v : V} {u : Value} {Q : Unit -> Shared -> Prop} (I : Inv X pins σ H s) (hN : X.N.Nodup) (hi : X.N[i]? = some x) (hx : Loc X.env.scope x) (r : RelV v u)
  (h : ∀ s', Inv X pins (σ.set i (some v)) H s' -> (∃ a, Heap.SameBut a s.heap s'.heap /\ (a = X.env.locals ∨ X.env.cells.lookup x = some a)) -> Q () s') (hf : X.fn x = true ∨ X.env.scope.names.lookup x = some .local := by first | exact .inl rfl | exact .inr rfl | assumption) : wpAny M A (storeName X.env x u) Q E s := by
 obtain ⟨m, hn, hl⟩ := id I.loc
 have hcls : (X.env.scope.kind == .class || (X.env.scope.kind == .module && X.env.locals != X.env.globals)) = false := by rw [I.ok.kind]; rfl
 have hiσ : i < σ.length := by rw [I.len]; exact (gX hi).1
 have cne := I.cne
 have tracked : ∀ {a : Addr} {h' : Heap}, (∃ o, s.heap.get? a = some o /\ H a = none) -> Heap.SameBut a s.heap h' -> HOk X.prog X.w H h' := fun {a h'} ha hs b ob e => by
  obtain ⟨_, _, hfree⟩ := ha
  refine (I.hok b ob e).stay (fun c w' hc q => (hs.2 c ?_).trans q) (fun _ q => q) fun _ _ q => q
  rintro rfl
  rcases hc with rfl | hc
  · rw [hfree] at e; cases e
  · rw [hfree] at hc; cases hc
 rcases hx with hk | hk
 · refine wpAny_storeName_local hk hn (fun h' hn' hs => ?_) hcls
   obtain ⟨oL, _, _, hoL, _⟩ := id hn
   refine h _ ⟨I.ok, I.os, I.bare, ⟨fun b o e n hb hx => ?_, fun b o e n hb hx => ?_, I.base.free, fun b o e hx => ?_, I.base.tups, I.base.frzs, I.base.tbls⟩, ⟨_, hn', fun j y v' e1 e2 e3 => ?_⟩, fun y c e => ?_, I.free, I.freeC, fun p hp => ?_, tracked ⟨oL, hoL, I.free⟩ hs, by simpa using I.len⟩ ⟨_, hs, .inl rfl⟩
   · exact (hs.2 b (Nat.ne_of_lt (Nat.lt_of_lt_of_le (Heap.lt_size e) I.ok.above))).trans (I.base.keep b o e n hb hx)
   · obtain ⟨sl, e1⟩ := I.base.slot b o e n hb hx
     exact ⟨sl, (hs.2 b (Nat.ne_of_lt (Nat.lt_of_lt_of_le (Heap.lt_size e) I.ok.above))).trans e1⟩
   · obtain ⟨o', e1⟩ := I.base.there b o e hx
     exact ⟨o', (hs.2 b (Nat.ne_of_lt (Nat.lt_of_lt_of_le (Heap.lt_size e) I.ok.above))).trans e1⟩
   · by_cases hj : j = i
     · subst hj
       rw [hi] at e1; cases e1
       rw [List.getElem?_set_self hiσ] at e2
       cases e2
       exact ⟨u, r, .inl ⟨hk, by simp⟩⟩
     · rw [gN (Ne.symm hj)] at e2
       obtain ⟨u', r', q⟩ := hl j y v' e1 e2 e3
       refine ⟨u', r', ?_⟩
       rcases q with ⟨k, e⟩ | ⟨k, c, e, z⟩
       · refine .inl ⟨k, ?_⟩
         have : y ≠ x := fun e => hj (kU hN e1 (e ▸ hi))
         simp [this, e]
       · exact .inr ⟨k, c, e, z.sameBut hs (cne y c e)⟩
   · obtain ⟨w', z⟩ := I.cell y c e
     exact ⟨w', z.sameBut hs (cne y c e)⟩
   · obtain ⟨e, n, ne, nf, d⟩ := I.pin p hp
     exact ⟨(hs.2 p.1 ne).trans e, n, ne, nf, d⟩
 · have hfn : X.fn x = true := by
    rcases hf with z | z
    · exact z
    · rw [z] at hk; cases hk
   obtain ⟨c, hc⟩ := I.ok.has x (.inl hk)
   obtain ⟨w', z⟩ := I.cell x c hc
   refine wpAny_storeName_cell I.ok.kind hk hc z (fun h' hc' hs => ?_)
   obtain ⟨oc, hoc, hocd⟩ := id z
   refine h { s with heap := h' } ⟨I.ok, I.os, I.bare, ⟨fun b o e n hb hx => ?_, fun b o e n hb hx => ?_, I.base.free, fun b o e hx => ?_, I.base.tups, I.base.frzs, I.base.tbls⟩, ⟨m, hn.sameBut hs (Ne.symm (cne x c hc)), fun j y v' e1 e2 e3 => ?_⟩, fun y c' e => ?_, I.free, I.freeC, fun p hp => ?_, tracked ⟨oc, hoc, I.freeC x c hc⟩ hs, by simpa using I.len⟩ ⟨c, hs, .inr hc⟩
   · exact (hs.2 b (Nat.ne_of_lt (Nat.lt_of_lt_of_le (Heap.lt_size e) (I.ok.cab x c hfn hc)))).trans (I.base.keep b o e n hb hx)
   · obtain ⟨sl, e1⟩ := I.base.slot b o e n hb hx
     exact ⟨sl, (hs.2 b (Nat.ne_of_lt (Nat.lt_of_lt_of_le (Heap.lt_size e) (I.ok.cab x c hfn hc)))).trans e1⟩
   · obtain ⟨o', e1⟩ := I.base.there b o e hx
     exact ⟨o', (hs.2 b (Nat.ne_of_lt (Nat.lt_of_lt_of_le (Heap.lt_size e) (I.ok.cab x c hfn hc)))).trans e1⟩
   · by_cases hj : j = i
     · subst hj
       rw [hi] at e1; cases e1
       rw [List.getElem?_set_self hiσ] at e2
       cases e2
       exact ⟨u, r, .inr ⟨.inl hk, c, hc, hc'⟩⟩
     · rw [gN (Ne.symm hj)] at e2
       obtain ⟨u', r', q⟩ := hl j y v' e1 e2 e3
       refine ⟨u', r', ?_⟩
       rcases q with q | ⟨k, c', e, z'⟩
       · exact .inl q
       · refine .inr ⟨k, c', e, z'.sameBut hs ?_⟩
         rintro rfl
         exact hj (kU hN e1 (I.ok.inj _ _ _ e hc ▸ hi))
   · by_cases hcc : c' = c
     · subst hcc; exact ⟨_, hc'⟩
     · obtain ⟨w2, z2⟩ := I.cell y c' e
       exact ⟨w2, z2.sameBut hs hcc⟩
   · obtain ⟨e, n, ne, nf, d⟩ := I.pin p hp
     refine ⟨(hs.2 p.1 ?_).trans e, n, ne, nf, d⟩
     intro q
     rw [q, hoc] at e
     have q' : oc = p.2 := Option.some.inj e
     exact d w' (by rw [<- q']; exact hocd)
def kW {M : Model} {A : Around} {E : Value -> Shared -> Prop} {i : Nat} {x : Str} {v : V} {u : Value} {Q : Unit -> Shared -> Prop} (I : Inv X pins σ H s) (hN : X.N.Nodup) (hi : X.N[i]? = some x) (hx : Loc X.env.scope x) (r : RelV v u)
  (h : ∀ s', Inv X pins (σ.set i (some v)) H s' -> Q () s') (hf : X.fn x = true ∨ X.env.scope.names.lookup x = some .local := by first | exact .inl rfl | exact .inr rfl | assumption) : wpAny M A (storeName X.env x u) Q E s :=
 jq I hN hi hx r (fun s' I' _ => h s' I') hf
def Inv.call' {s' : Shared} {ch : List Addr} (I : Inv X pins σ H s) (ho : s'.os = s.os) (u : Un (frs X.stack) ch H H' s.heap s'.heap) (hok : HOk X.prog X.w H' s'.heap) (hg : AllBare s'.gens)
  (hch : ∀ b ∈ ch, (b ∈ X.ex ∨ X.s₀.heap.objs.size <= b) /\ b ≠ X.env.locals /\ (∀ x c, X.env.cells.lookup x = some c -> c ≠ b) /\ ∀ p ∈ X.pn ++ pins, p.1 ≠ b) : Inv X pins σ H' s' := by
 obtain ⟨h', g', d', t', o'⟩ := s'
 have e : o' = s.os := ho
 subst e
 exact I.call (g' := g') (t' := t') (d' := d') u hok hg hch
end
abbrev XK := Value -> Option Addr -> Hp -> Prop
abbrev St := List (Option V)
abbrev VK := V -> Hp -> Prop
abbrev TE := St -> Hp -> VK -> Prop
abbrev TT := St -> Hp -> (Bool -> Hp -> Prop) -> Prop
abbrev TA := St -> Hp -> (List V -> Hp -> Prop) -> Prop
structure Ends where
 nx : St -> Hp -> Prop
 rt : VK
 bk : St -> Hp -> Prop := fun _ _ => False
 ct : St -> Hp -> Prop := fun _ _ => False
abbrev TS := Ends -> St -> Hp -> Prop
def EP (X : Cx) (pins : List (Addr × Obj)) (σ : St) (Q : VK) (u : Value) (s' : Shared) : Prop := ∃ v H', Inv X pins σ H' s' /\ RelV v u /\ Q v H'
def TP (X : Cx) (pins : List (Addr × Obj)) (σ : St) (Q : Bool -> Hp -> Prop) (b : Bool) (s' : Shared) : Prop := ∃ H', Inv X pins σ H' s' /\ Q b H'
def AP (X : Cx) (pins : List (Addr × Obj)) (σ : St) (Q : List V -> Hp -> Prop) (us : List Value) (s' : Shared) : Prop := ∃ vs H', Inv X pins σ H' s' /\ Vals vs us /\ Q vs H'
noncomputable def SP (X : Cx) (pins : List (Addr × Obj)) (D : Ends) (f : Flow) (s' : Shared) : Prop :=
 match f with
 | .next => ∃ σ' H', Inv X pins σ' H' s' /\ D.nx σ' H'
 | .brk => ∃ σ' H', Inv X pins σ' H' s' /\ D.bk σ' H'
 | .cont => ∃ σ' H', Inv X pins σ' H' s' /\ D.ct σ' H'
 | .ret u => ∃ v σ' H', Inv X pins σ' H' s' /\ RelV v u /\ D.rt v H'
def PE (X : Cx) (e : Expr) (t : TE) : Prop :=
 ∀ (pins : List (Addr × Obj)) (s : Shared) (σ : St) (H : Hp) (Q : VK), Inv X pins σ H s -> t σ H Q -> wpAny (model X.prog X.w) X.A (eval e X.env) (EP X pins σ Q) X.xe s
noncomputable def PT (X : Cx) (e : Expr) (t : TT) : Prop :=
 ∀ (pins : List (Addr × Obj)) (s : Shared) (σ : St) (H : Hp) (Q : Bool -> Hp -> Prop), Inv X pins σ H s -> t σ H Q -> wpAny (model X.prog X.w) X.A (isTrue e X.env (eval e X.env)) (TP X pins σ Q) X.xe s
noncomputable def PW (X : Cx) (e : Expr) (t : TT) : Prop :=
 ∀ (whole : Sem Value) (pins : List (Addr × Obj)) (s : Shared) (σ : St) (H : Hp) (Q : Bool -> Hp -> Prop), Inv X pins σ H s -> t σ H Q -> wpAny (model X.prog X.w) X.A (isTrue e X.env whole) (TP X pins σ Q) X.xe s
def PW.pt {X : Cx} {e : Expr} {t : TT} (h : PW X e t) : PT X e t := h _
noncomputable def PA (X : Cx) (es : List Expr) (t : TA) : Prop :=
 ∀ (pos : Pos) (pins : List (Addr × Obj)) (s : Shared) (σ : St) (H : Hp) (Q : List V -> Hp -> Prop), Inv X pins σ H s -> t σ H Q -> wpAny (model X.prog X.w) X.A (spliced (backTo pos (starEach es X.env))) (AP X pins σ Q) X.xe s
def PS (X : Cx) (st : Stmt) (t : TS) : Prop :=
 ∀ (pins : List (Addr × Obj)) (s : Shared) (σ : St) (H : Hp) (D : Ends), Inv X pins σ H s -> t D σ H -> wpAny (model X.prog X.w) X.A (exec st X.env) (SP X pins D) X.xe s
def PSs (X : Cx) (st : List Stmt) (t : TS) : Prop :=
 ∀ (pins : List (Addr × Obj)) (s : Shared) (σ : St) (H : Hp) (D : Ends), Inv X pins σ H s -> t D σ H -> wpAny (model X.prog X.w) X.A (execs st X.env) (SP X pins D) X.xe s
def thn {α : Type} {t : Sem α} {Q Q' : α -> Shared -> Prop} {M : Model} {A : Around} {E : Value -> Shared -> Prop} {s : Shared} (h : wpAny M A t Q E s) (hQ : ∀ a s, Q a s -> Q' a s) : wpAny M A t Q' E s := wpAny_mono h hQ fun _ _ x => x
section
variable {X : Cx}
def bin {a b : Expr} {ta tb : TE} (ha : PE X a ta) (hb : PE X b tb) {pins : List (Addr × Obj)} {s : Shared} {σ : St} {H : Hp} {R : V -> V -> Hp -> Prop} (I : Inv X pins σ H s) (h : ta σ H fun x H1 => tb σ H1 fun y H2 => R x y H2)
  {α : Type} {Q : α -> Shared -> Prop} {f : Value -> Value -> Sem α}
  (hf : ∀ v u s2 x y H2, Inv X pins σ H2 s2 -> RelV x v -> RelV y u -> R x y H2 -> wpAny (model X.prog X.w) X.A (f v u) Q X.xe s2) :
  wpAny (model X.prog X.w) X.A (eval a X.env) (fun v s₁ => wpAny (model X.prog X.w) X.A (eval b X.env) (fun u s₂ => wpAny (model X.prog X.w) X.A (f v u) Q X.xe s₂) X.xe s₁) X.xe s := by
 refine thn (ha pins s σ H _ I h) fun v s1 ⟨x, H1, I1, r1, q1⟩ => ?_
 refine thn (hb pins s1 σ H1 _ I1 q1) fun u s2 ⟨y, H2, I2, r2, q2⟩ => ?_
 exact hf v u s2 x y H2 I2 r1 r2 q2
def oO (i : Nat) : TE := fun σ H Q => ∃ v, σ[i]? = some (some v) /\ Q v H
def tC (v : V) : TE := fun _ H Q => Q v H
def u9 {i : Nat} {x : Str} {pos : Pos} (hN : X.N[i]? = some x) (hv : Vis X.env.scope x) (hd : (x == ("__debug__" : Str)) = false := by decide) (hcd : (x == ("__classdict__" : Str)) = false := by decide) : PE X (.Name x pos) (oO i) := by
 intro pins s σ H Q I h
 obtain ⟨v, e, h⟩ := h
 obtain ⟨m, hn, hl⟩ := I.loc
 obtain ⟨u, r, l⟩ := hl i x v hN e hv
 have fin : EP X pins σ Q u s := ⟨v, H, I, r, h⟩
 rcases l with ⟨hk, hm⟩ | ⟨hk, c, hc, hcell⟩
 · exact wpAny_Name (wpAny_loadName_local I.ok.kind hk hn hm fin) hd
 · rcases hk with hk | hk
   · exact wpAny_Name (wpAny_loadName_cell I.ok.kind hk hc hcell fin) hd
   · exact wpAny_Name (wpAny_loadName_free I.ok.kind hk hc hcell fin hcd) hd
def vc {i j pos} : PE X (.Constant (.int i) j pos) (tC (.int i)) := fun _ _ _ H _ I h => wpAny_Constant_int ⟨.int i, H, I.tok _, ⟨_, rfl⟩, h⟩
def xh {b j pos} : PE X (.Constant (.bool b) j pos) (tC (.bl b)) := fun _ _ _ H _ I h => Constant_bool ⟨.bl b, H, I, rfl, h⟩
def vd {j pos} : PE X (.Constant .none j pos) (tC .non) := fun _ _ _ H _ I h => Constant_none ⟨.non, H, I, rfl, h⟩
def ve {x j pos} : PE X (.Constant (.str x) j pos) (tC (.str x)) := fun _ _ _ H _ I h => Calls.Constant_str ⟨.str x, H, I.tok _, ⟨_, rfl⟩, h⟩
def Gl (X : Cx) (x : Str) : Prop := X.env.kindOf x = some .globalImplicit
def j0 {E : Value -> Shared -> Prop} {pins : List (Addr × Obj)} {s : Shared} {σ : St} {H : Hp} {x : Str} {u : Value} {pos : Pos} {Q : Value -> Shared -> Prop} (I : Inv X pins σ H s) (hg : Gl X x) (hm : X.mg x = some u) (h : Q u s)
  (hd : (x == ("__debug__" : Str)) = false := by decide) : wpAny (model X.prog X.w) X.A (eval (.Name x pos) X.env) Q E s :=
 Calls.Name_function_global I.ok.kind hg (Calls.loadGlobal_global (by rw [I.ok.glob]; exact I.mod.glob.keeps I.bk) hm h) hd
def iD {E : Value -> Shared -> Prop} {pins : List (Addr × Obj)} {s : Shared} {σ : St} {H : Hp} {x : Str} {u : Value} {pos : Pos} {Q : Value -> Shared -> Prop} (I : Inv X pins σ H s) (hg : Gl X x) (hm : X.mg x = none) (hv : bootBuiltins x = some u) (h : Q u s)
  (hn : x ≠ "__name__" := by decide) (hd : (x == ("__debug__" : Str)) = false := by decide) : wpAny (model X.prog X.w) X.A (eval (.Name x pos) X.env) Q E s := by
 obtain ⟨mb, h1, h2⟩ := I.mod.blt
 exact Calls.Name_function_global I.ok.kind hg (Calls.loadGlobal_builtin (by rw [I.ok.glob]; exact I.mod.glob.keeps I.bk) hm (by rw [I.ok.blt]; exact h1.keeps I.bk) ((h2 x hn).trans hv) h) hd
def rT {x : Str} {v : V} {u : Value} {pos : Pos} (hg : Gl X x) (hm : X.mg x = some u) (r : RelV v u) (hd : (x == ("__debug__" : Str)) = false := by decide) : PE X (.Name x pos) (tC v) :=
 fun _ _ _ H _ I h => j0 I hg hm ⟨v, H, I, r, h⟩ hd
def rV {x : Str} {v : V} {u : Value} {pos : Pos} (hg : Gl X x) (hm : X.mg x = none) (hv : bootBuiltins x = some u) (r : RelV v u) (hn : x ≠ "__name__" := by decide) (hd : (x == ("__debug__" : Str)) = false := by decide) : PE X (.Name x pos) (tC v) :=
 fun _ _ _ H _ I h => iD I hg hm hv ⟨v, H, I, r, h⟩ hn hd
variable {a b : Expr} {ta tb : TE} {pos : Pos}
variable {tA tB' : TT} {rest : List Expr}
def tAnd (t u : TT) : TT := fun σ H Q => t σ H fun c H1 => if c = true then u σ H1 Q else Q false H1
def tOr (t u : TT) : TT := fun σ H Q => t σ H fun c H1 => if c = true then Q true H1 else u σ H1 Q
def tNot (t : TT) : TT := fun σ H Q => t σ H fun c H1 => Q (!c) H1
def na (ha : PT X a tA) : PW X (.BoolOp .And [a] pos) tA := by
 intro wh pins s σ H Q I h
 refine isTrue_and (thn (ha pins s σ H Q I h) fun c s1 e => ?_)
 cases c with
 | true => exact isTrue_and_nil e
 | false => exact e
def vf (ha : PT X a tA) : PW X (.BoolOp .Or [a] pos) tA := by
 intro wh pins s σ H Q I h
 refine isTrue_or (thn (ha pins s σ H Q I h) fun c s1 e => ?_)
 cases c with
 | false => exact isTrue_or_nil e
 | true => exact e
def pF (ha : PT X a tA) (hb : PW X (.BoolOp .And (b :: rest) pos) tB') : PW X (.BoolOp .And (a :: b :: rest) pos) (tAnd tA tB') := by
 intro wh pins s σ H Q I h
 refine isTrue_and (thn (ha pins s σ H _ I h) fun c s1 ⟨H1, I1, q1⟩ => ?_)
 cases c with
 | true => exact hb wh pins s1 σ H1 Q I1 q1
 | false => exact ⟨H1, I1, q1⟩
def xi (ha : PT X a tA) (hb : PW X (.BoolOp .Or (b :: rest) pos) tB') : PW X (.BoolOp .Or (a :: b :: rest) pos) (tOr tA tB') := by
 intro wh pins s σ H Q I h
 refine isTrue_or (thn (ha pins s σ H _ I h) fun c s1 ⟨H1, I1, q1⟩ => ?_)
 cases c with
 | true => exact ⟨H1, I1, q1⟩
 | false => exact hb wh pins s1 σ H1 Q I1 q1
def pG (ha : PT X a tA) : PT X (.UnaryOp .Not a pos) (tNot tA) := by
 intro pins s σ H Q I h
 exact isTrue_not (ha pins s σ H (fun c H1 => Q (!c) H1) I h)
def xj (ta tb : TE) : TE := fun σ H Q => ta σ H fun x H1 => ∃ c, x = .bl c /\ if c = true then tb σ H1 Q else Q (.bl false) H1
def xk (ta : TE) : TE := fun σ H Q => ta σ H fun x H1 => ∃ c, x = .bl c /\ Q (.bl (!c)) H1
def pH {op} {t : TE} (h : PE X a t) : PE X (.BoolOp op [a] pos) t := fun pins s σ H Q I hw => BoolOp_one (h pins s σ H Q I hw)
def pI (ha : PE X a ta) (hb : PE X (.BoolOp .And (b :: rest) pos) tb) : PE X (.BoolOp .And (a :: b :: rest) pos) (xj ta tb) := by
 intro pins s σ H Q I h
 refine BoolOp_and (thn (ha pins s σ H _ I h) fun v s1 ⟨x, H1, I1, r1, q1⟩ => ?_)
 obtain ⟨c, rfl, q1⟩ := q1
 cases r1
 refine wpAny_truthy_bool ?_
 cases c with
 | true => exact hb pins s1 σ H1 Q I1 q1
 | false => exact ⟨.bl false, H1, I1, rfl, q1⟩
def vg (ha : PE X a ta) : PE X (.UnaryOp .Not a pos) (xk ta) := by
 intro pins s σ H Q I h
 refine UnaryOp_ (thn (ha pins s σ H _ I h) fun v s1 ⟨x, H1, I1, r1, q1⟩ => ?_)
 obtain ⟨c, rfl, q1⟩ := q1
 cases r1
 exact not_of (wpAny_truthy_bool ⟨.bl (!c), H1, I1, rfl, q1⟩)
def tIf (t : TT) (ta tb : TE) : TE := fun σ H Q => t σ H fun c H1 => if c = true then ta σ H1 Q else tb σ H1 Q
def kX {c : Expr} (hc : PT X c tA) (ha : PE X a ta) (hb : PE X b tb) : PE X (.IfExp c a b pos) (tIf tA ta tb) := by
 intro pins s σ H Q I h
 refine wpAny_IfExp (thn (hc pins s σ H _ I h) fun d s1 ⟨H1, I1, q1⟩ => ?_)
 cases d with
 | true => exact ha pins s1 σ H1 Q I1 q1
 | false => exact hb pins s1 σ H1 Q I1 q1
end
noncomputable def SqL (K : PySem.W.Frag) (H : Hp) (a : Addr) (xs : List V) : Prop :=
 Rd H a (.lst xs) ∨
  ∃ (o : Obj) (its : Array Value) (n : Nat), K.lookup a = some o /\ o.cls = .type "list" /\ o.dict = none /\ o.data = .seq its n /\ its.size <= sizeLine /\ Vals xs its.toList
noncomputable def SqT (K : PySem.W.Frag) (H : Hp) (a : Addr) (xs : List V) : Prop :=
 Rd H a (.tup xs) ∨
  ∃ (o : Obj) (its : Array Value) (n : Nat), K.lookup a = some o /\ o.cls = .type "tuple" /\ o.data = .seq its n /\ its.size <= sizeLine /\ Vals xs its.toList
noncomputable def absV : Value -> Option V
 | .none => some .non
 | .bool b => some (.bl b)
 | .int i _ => some (.int i)
 | .str x _ => some (.str x)
 | .bytes b _ => some (.byt b)
 | .float b _ => some (.flt b)
 | .ref a => some (.ref a)
 | .type n => some (.ty n)
 | _ => none
def RelV.abs {x : V} {u : Value} (r : RelV x u) : absV u = some x := by
 cases x with
 | non => cases r; rfl
 | bl _ => cases r; rfl
 | int _ => obtain ⟨t, rfl⟩ := r; rfl
 | str _ => obtain ⟨t, rfl⟩ := r; rfl
 | byt _ => obtain ⟨t, rfl⟩ := r; rfl
 | flt _ => obtain ⟨t, rfl⟩ := r; rfl
 | ref _ => cases r; rfl
 | ty _ => cases r; rfl
def RelV.inj {x y : V} {u : Value} (r : RelV x u) (q : RelV y u) : x = y := Option.some.inj (r.abs.symm.trans q.abs)
def Vals.inj : ∀ {xs ys : List V} {us : List Value}, Vals xs us -> Vals ys us -> xs = ys
 | _, _, _, .nil, .nil => rfl
 | _, _, _, .cons r t, .cons r' t' => by rw [r.inj r', Vals.inj t t']
section
variable {X : Cx} {pins : List (Addr × Obj)} {σ : St} {H : Hp} {s : Shared} {a : Addr} {xs ys : List V}
def SqL.of {K : PySem.W.Frag} (h : H a = some (.lst xs)) : SqL K H a xs := .inl (.inl h)
def SqT.of {K : PySem.W.Frag} (h : H a = some (.tup xs)) : SqT K H a xs := .inl (.inl h)
def Inv.list (I : Inv X pins σ H s) (h : SqL X.K H a xs) : ∃ its : List Value, Vals xs its /\ PlainL s.heap a its.toArray /\ xs.length <= sizeLine := by
 rcases h with h | ⟨o, its, n, hk, hc, hd, hs, hz, r⟩
 · obtain ⟨z, its, n, r, e⟩ := h.ok I.hok
   exact ⟨its, r, ⟨_, n, e, rfl, rfl, rfl⟩, z⟩
 · refine ⟨its.toList, r, ⟨o, n, I.kIn a o hk, hc, hd, by simpa using hs⟩, ?_⟩
   have e := r.length
   simp only [Array.length_toList] at e
   omega
def Inv.tuple (I : Inv X pins σ H s) (h : SqT X.K H a xs) : ∃ its : List Value, Vals xs its /\ IsTup s.heap a its.toArray /\ xs.length <= sizeLine := by
 rcases h with h | ⟨o, its, n, hk, hc, hs, hz, r⟩
 · obtain ⟨z, its, r, p⟩ := h.ok I.hok
   exact ⟨its, r, p, z⟩
 · refine ⟨its.toList, r, ⟨o, I.kIn a o hk, hc, n, by simpa using hs⟩, ?_⟩
   have e := r.length
   simp only [Array.length_toList] at e
   omega
def Inv.list_inj (I : Inv X pins σ H s) (h : SqL X.K H a xs) (h' : SqL X.K H a ys) : xs = ys := by
 obtain ⟨its, r, ⟨o, n, e, _, _, d⟩, _⟩ := I.list h
 obtain ⟨its', r', ⟨o', n', e', _, _, d'⟩, _⟩ := I.list h'
 rw [e] at e'; cases e'
 rw [d] at d'
 injection d' with d1 _
 have : its = its' := by simpa using congrArg Array.toList d1
 subst this
 exact r.inj r'
def Inv.tuple_inj (I : Inv X pins σ H s) (h : SqT X.K H a xs) (h' : SqT X.K H a ys) : xs = ys := by
 obtain ⟨its, r, ⟨o, e, _, n, d⟩, _⟩ := I.tuple h
 obtain ⟨its', r', ⟨o', e', _, n', d'⟩, _⟩ := I.tuple h'
 rw [e] at e'; cases e'
 rw [d] at d'
 injection d' with d1 _
 have : its = its' := by simpa using congrArg Array.toList d1
 subst this
 exact r.inj r'
end
abbrev Cx.wish (X : Cx) (E : Value -> Shared -> Prop) : Cx := { X with xe := E }
abbrev Cx.nox (X : Cx) : Cx := X.wish fun _ _ => False
def Cx.Ok.wish {X : Cx} (ok : X.Ok) (E : Value -> Shared -> Prop) : (X.wish E).Ok :=
 ⟨ok.mod, ok.kind, ok.glob, ok.blt, ok.above, ok.inj, ok.has, ok.cab, ok.hd, ok.frames, ok.stk, ok.exf, ok.bs, ok.bsz, ok.noex, ok.exfs, ok.funs, ok.frf⟩
def Cx.Ok.unwish {X : Cx} {E : Value -> Shared -> Prop} (ok : (X.wish E).Ok) : X.Ok :=
 ⟨ok.mod, ok.kind, ok.glob, ok.blt, ok.above, ok.inj, ok.has, ok.cab, ok.hd, ok.frames, ok.stk, ok.exf, ok.bs, ok.bsz, ok.noex, ok.exfs, ok.funs, ok.frf⟩
section
variable {X : Cx} {pins : List (Addr × Obj)} {σ : St} {H : Hp} {s : Shared} {E : Value -> Shared -> Prop}
def Inv.wish (I : Inv X pins σ H s) (E : Value -> Shared -> Prop) : Inv (X.wish E) pins σ H s := ⟨I.ok.wish E, I.os, I.bare, I.base, I.loc, I.cell, I.free, I.freeC, I.pin, I.hok, I.len⟩
def Inv.unwish (I : Inv (X.wish E) pins σ H s) : Inv X pins σ H s := ⟨I.ok.unwish, I.os, I.bare, I.base, I.loc, I.cell, I.free, I.freeC, I.pin, I.hok, I.len⟩
def SP.unwish {D : Ends} {f : Flow} {s' : Shared} (h : SP (X.wish E) pins D f s') : SP X pins D f s' := by
 cases f with
 | next => obtain ⟨σ', H', I, q⟩ := h; exact ⟨σ', H', I.unwish, q⟩
 | brk => obtain ⟨σ', H', I, q⟩ := h; exact ⟨σ', H', I.unwish, q⟩
 | cont => obtain ⟨σ', H', I, q⟩ := h; exact ⟨σ', H', I.unwish, q⟩
 | ret u => obtain ⟨v, σ', H', I, r, q⟩ := h; exact ⟨v, σ', H', I.unwish, r, q⟩
def PSs.nox {st : List Stmt} {t : TS} (h : PSs X.nox st t) : PSs X st t := fun pins s σ H D I hw =>
 wpAny_mono (h pins s σ H D (I.wish _) hw) (fun _ _ q => q.unwish) fun _ _ z => False.elim z
end
section
variable {X : Cx} {st : Stmt} {rest : List Stmt} {t u : TS} {e : Expr} {te : TE} {pos : Pos}
def xl : TS := fun D σ H => D.nx σ H
def tSeq (t u : TS) : TS := fun D σ H => t { D with nx := u D } σ H
def nc : PSs X [] xl := fun _ _ σ H _ I h => wpAny_execs_nil ⟨σ, H, I, h⟩
def kY (h1 : PS X st t) (h2 : PSs X rest u) : PSs X (st :: rest) (tSeq t u) := by
 intro pins s σ H D I h
 refine wpAny_execs_cons (thn (h1 pins s σ H { D with nx := u D } I h) fun f s1 q => ?_)
 cases f with
 | next =>
  obtain ⟨σ', H', I', q⟩ := q
  exact h2 pins s1 σ' H' D I' q
 | ret v => exact q
 | brk => exact q
 | cont => exact q
def ng (h1 : PS X st t) : PSs X [st] t := by
 intro pins s σ H D I h
 refine wpAny_execs_cons (thn (h1 pins s σ H D I h) fun f s1 q => ?_)
 cases f with
 | next => exact wpAny_execs_nil q
 | ret v => exact q
 | brk => exact q
 | cont => exact q
def Inv.quiet {pins : List (Addr × Obj)} {σ : St} {H : Hp} {s : Shared} (I : Inv X pins σ H s) : interactive X.env = false := by simp [interactive, I.ok.kind]
def xm (te : TE) : TS := fun D σ H => te σ H fun _ H1 => D.nx σ H1
def iq (he : PE X e te) (hs : swapsWith e none pos.line X.env = pure false := by rfl) : PS X (.Expr e pos) (xm te) := by
 intro pins s σ H D I h
 exact wpAny_Expr_any (thn (he pins s σ H _ I h) fun v s1 ⟨x, H1, I1, r1, q1⟩ => ⟨σ, H1, I1, q1⟩) I.quiet hs
def tRet (te : TE) : TS := fun D σ H => te σ H D.rt
def pJ (he : PE X e te) : PS X (.Return (some e) pos) (tRet te) := by
 intro pins s σ H D I h
 exact wpAny_Return_some (thn (he pins s σ H _ I h) fun v s1 ⟨x, H1, I1, r1, q1⟩ => ⟨x, σ, H1, I1, r1, q1⟩)
def xn : TS := fun D _ H => D.rt .non H
def rW : PS X (.Return none pos) xn := fun _ _ σ H _ I h => wpAny_Return_none ⟨.non, σ, H, I, rfl, h⟩
def tIfS (c : TT) (t u : TS) : TS := fun D σ H => c σ H fun b H1 => if b = true then t D σ H1 else u D σ H1
def uq {c : Expr} {a b : List Stmt} {tc : TT} (hc : PT X c tc) (ha : PSs X a t) (hb : PSs X b u) : PS X (.If c a b pos) (tIfS tc t u) := by
 intro pins s σ H D I h
 refine wpAny_If (thn (hc pins s σ H _ I h) fun d s1 ⟨H1, I1, q1⟩ => ?_)
 cases d with
 | true => exact ha pins s1 σ H1 D I1 q1
 | false => exact hb pins s1 σ H1 D I1 q1
end
abbrev TG := V -> St -> Hp -> (St -> Hp -> Prop) -> Prop
abbrev TGs := List V -> St -> Hp -> (St -> Hp -> Prop) -> Prop
noncomputable def PG (X : Cx) (target : Expr) (t : TG) : Prop :=
 ∀ (pins : List (Addr × Obj)) (s : Shared) (σ : St) (H : Hp) (v : V) (u : Value) (Q : St -> Hp -> Prop), Inv X pins σ H s -> RelV v u -> t v σ H Q →
  wpAny (model X.prog X.w) X.A (assign target X.env u) (fun _ s' => ∃ σ' H', Inv X pins σ' H' s' /\ Q σ' H') X.xe s
noncomputable def PGs (X : Cx) (ts : List Expr) (t : TGs) : Prop :=
 ∀ (pins : List (Addr × Obj)) (s : Shared) (σ : St) (H : Hp) (vs : List V) (us : List Value) (Q : St -> Hp -> Prop), Inv X pins σ H s -> Vals vs us -> t vs σ H Q →
  wpAny (model X.prog X.w) X.A (assignInOrder ((assignEach ts X.env).map (·.2)) us) (fun _ s' => ∃ σ' H', Inv X pins σ' H' s' /\ Q σ' H') X.xe s
abbrev vh := V -> V -> V -> Hp -> (Hp -> Prop) -> Prop
noncomputable def PSet (X : Cx) (t : vh) : Prop :=
 ∀ (pins : List (Addr × Obj)) (s : Shared) (σ : St) (H : Hp) (o i v : V) (ov iv u : Value) (Q : Hp -> Prop), Inv X pins σ H s -> RelV o ov -> RelV i iv -> RelV v u -> t o i v H Q →
  wpAny (model X.prog X.w) X.A (setItem ov iv u) (fun _ s' => ∃ H', Inv X pins σ H' s' /\ Q H') X.xe s
section
variable {X : Cx} {pos : Pos}
def iE (i : Nat) : TG := fun v σ H Q => Q (σ.set i (some v)) H
def nh {i : Nat} {x : Str} (hN : X.N.Nodup) (hi : X.N[i]? = some x) (hx : Loc X.env.scope x) (hf : X.fn x = true ∨ X.env.scope.names.lookup x = some .local := by first | exact .inl rfl | exact .inr rfl | assumption) : PG X (.Name x pos) (iE i) := by
 intro pins s σ H v u Q I r h
 exact wpAny_assign_Name (kW I hN hi hx r (fun s' I' => ⟨_, H, I', h⟩) hf)
def gNil : TGs := fun vs σ H Q => vs = [] /\ Q σ H
def xo (t : TG) (u : TGs) : TGs := fun vs σ H Q => ∃ v r, vs = v :: r /\ t v σ H fun σ' H' => u r σ' H' Q
def rX : PGs X [] gNil := by
 intro pins s σ H vs us Q I r h
 obtain ⟨e, h⟩ := h
 subst e
 cases r
 exact assignInOrder_nil ⟨σ, H, I, h⟩
def pK {e : Expr} {es : List Expr} {t : TG} {u : TGs} (h1 : PG X e t) (h2 : PGs X es u)
  (hs : (assignEach (e :: es) X.env).map (·.2) = assign e X.env :: (assignEach es X.env).map (·.2) := by rfl) : PGs X (e :: es) (xo t u) := by
 intro pins s σ H vs us Q I r h
 obtain ⟨v, vr, e1, h⟩ := h
 subst e1
 cases r with
 | cons r rr =>
  rw [hs]
  refine assignInOrder_cons (thn (h1 pins s σ H _ _ _ I r h) fun _ s1 ⟨σ1, H1, I1, q1⟩ => ?_)
  exact h2 pins s1 σ1 H1 _ _ Q I1 rr q1
def gTup (K : PySem.W.Frag) (n : Nat) (t : TGs) : TG := fun v σ H Q => ∃ a xs, v = .ref a /\ SqT K H a xs /\ xs.length = n /\ t xs σ H Q
def vi {es : List Expr} {k : Nat} {t : TGs} {n : Nat} (hc : X.calm = true) (h : PGs X es t)
  (hn : (assignEach es X.env).length = n := by rfl) (hst : (assignEach es X.env).findIdx? (·.1) = none := by rfl) : PG X (.Tuple es k pos) (gTup X.K n t) := by
 intro pins s σ H v u Q I r hw
 obtain ⟨a, xs, e1, hq, hl, hw⟩ := hw
 subst e1
 cases r
 obtain ⟨its, rv, ht, hz⟩ := I.tuple hq
 refine assign_Tuple_tuple (I.ok.hd hc) ht (by simp [hn, <- hl, rv.length]) hst fun h' hx => ?_
 have I1 : Inv X pins σ H { s with heap := h' } := I.kept (t' := s.toks) fun b o e => hx b o (Nat.ne_of_lt (Heap.lt_size e)) e
 exact h pins _ σ H xs _ Q I1 (by simpa using rv) hw
def gSub (to ti : TE) (t : vh) : TG := fun v σ H Q => to σ H fun o H1 => ti σ H1 fun i H2 => t o i v H2 fun H3 => Q σ H3
def vj {o i : Expr} {to ti : TE} {t : vh} (ho : PE X o to) (hi : PE X i ti) (hs : PSet X t)
  (ha : ∀ v, assign (.Subscript o i pos) X.env v = (do
   let ov <- holding [v] (eval o X.env)
   let iv <- holding [v, ov] (eval i X.env)
   standAt pos
   holding [v, ov, iv] (setItem ov iv v)
   release [v, ov, iv] []) := by intro _; rfl) : PG X (.Subscript o i pos) (gSub to ti t) := by
 intro pins s σ H v u Q I r h
 rw [ha]
 refine wB (wpAny_holding (thn (ho pins s σ H _ I h) fun ov s1 ⟨x, H1, I1, r1, q1⟩ => ?_))
 refine wB (wpAny_holding (thn (hi pins s1 σ H1 _ I1 q1) fun iv s2 ⟨y, H2, I2, r2, q2⟩ => ?_))
 refine wB (wpAny_standAt (wB (wpAny_holding (thn (hs pins s2 σ H2 x y v ov iv u _ I2 r1 r2 r q2) fun _ s3 ⟨H3, I3, q3⟩ => ?_))))
 exact wpAny_release ⟨σ, H3, I3, q3⟩
def rY (te : TE) (g : TG) : TS := fun D σ H => te σ H fun x H1 => g x σ H1 D.nx
def vk {tg e : Expr} {te : TE} {g : TG} (he : PE X e te) (hg : PG X tg g) (hs : swapsWithSole [tg] e pos.line X.env = pure false := by rfl) (hw : swappedStores [tg] e X.env = pure none := by rfl)
  (h1 : (assignEach [tg] X.env).map (·.2) = [assign tg X.env] := by rfl) : PS X (.Assign [tg] e pos) (rY te g) := by
 intro pins s σ H D I h
 refine wpAny_Assign_stores (thn (he pins s σ H _ I h) fun v s1 ⟨x, H1, I1, r1, q1⟩ => ?_) hs hw
 rw [h1]
 exact thn (hg pins s1 σ H1 x v _ I1 r1 q1) fun _ s2 q => q
def vm {i : Nat} {x : Str} {e : Expr} {te : TE} {pos' : Pos} (hN : X.N.Nodup) (hi : X.N[i]? = some x) (hx : Loc X.env.scope x) (he : PE X e te) (hs : swapsWith e (some (.Name x pos')) pos.line X.env = pure false := by rfl) (hf : X.fn x = true ∨ X.env.scope.names.lookup x = some .local := by first | exact .inl rfl | exact .inr rfl | assumption) :
  PS X (.Assign [.Name x pos'] e pos) (rY te (iE i)) := by
 intro pins s σ H D I h
 refine wpAny_Assign_Name (thn (he pins s σ H _ I h) fun v s1 ⟨y, H1, I1, r1, q1⟩ => ?_) hs
 exact kW I1 hN hi hx r1 (fun s2 I2 => ⟨_, H1, I2, q1⟩) hf
end
section
variable {X : Cx} {pos : Pos}
end
structure It where
 go : Nat -> Hp -> Prop
 yld : Nat -> Hp -> V -> Hp -> Prop
 stop : Nat -> Hp -> Prop
def fS (X : Cx) (pins : List (Addr × Obj)) (H : Hp) (b : Addr) : Prop :=
 H b = none /\ b ≠ X.env.locals /\ b ∉ X.fs /\ (b ∈ X.ex ∨ X.s₀.heap.objs.size <= b) /\ (∀ x c, X.env.cells.lookup x = some c -> c ≠ b) /\ ∀ p ∈ X.pn ++ pins, p.1 ≠ b
def Inv.fpOk {X : Cx} {pins : List (Addr × Obj)} {σ : St} {H H' : Hp} {s : Shared} {b : Addr} (I : Inv X pins σ H s) (hb : s.heap.objs.size <= b) (hn : H' b = none) : fS X pins H' b := by
 refine ⟨hn, Nat.ne_of_gt (Nat.lt_of_lt_of_le I.lt hb), I.nofs hb, .inr (Nat.le_trans I.sz hb), fun x c e z => ?_, fun p hp z => ?_⟩
 · obtain ⟨v, q⟩ := I.cell x c e
   exact absurd (Nat.lt_of_lt_of_le q.lt (by rw [z]; exact hb)) (Nat.lt_irrefl _)
 · exact absurd (Nat.lt_of_lt_of_le (Heap.lt_size (I.pin p hp).1) (by rw [z]; exact hb)) (Nat.lt_irrefl _)
structure Turn (P : Program) (w : World) (K : PySem.W.Frag) (tg : Expr) (J : It) (fp : List Addr) (it : Addr) (tn : Nat -> Heap -> Prop) : Prop where
 mem : it ∈ fp
 obj : ∀ i h, tn i h -> ∀ b ∈ fp, ∃ o, h.get? b = some o /\ ∀ v, o.data ≠ .cell v
 keep : ∀ i h h', tn i h -> (∀ b ∈ fp, ∀ o, h.get? b = some o -> h'.get? b = some o) -> tn i h'
 item : ∀ (X : Cx), X.prog = P -> X.w = w -> X.K = K -> X.calm = true -> ∀ (i : Nat) (pins : List (Addr × Obj)) (s : Shared) (σ : St) (H : Hp) (E : Value -> Shared -> Prop), Inv X pins σ H s -> (∀ b ∈ fp, fS X pins H b) -> tn i s.heap -> J.go i H →
  wpAny (model P w) X.A (pyNext (.ref it)) (fun r s1 => ∃ u, r = some u ∧
   wpAny (model P w) X.A (letOwnedTupleGo tg (.ref it) u) (fun _ s2 => ∃ x H', Inv X pins σ H' s2 /\ RelV x u /\ J.yld i H x H' /\ tn (i + 1) s2.heap /\ ∀ b ∈ fp, H' b = none) E s1) E s
 done : ∀ (X : Cx), X.prog = P -> X.w = w -> X.K = K -> X.calm = true -> ∀ (i : Nat) (pins : List (Addr × Obj)) (s : Shared) (σ : St) (H : Hp) (E : Value -> Shared -> Prop), Inv X pins σ H s -> (∀ b ∈ fp, fS X pins H b) -> tn i s.heap -> J.stop i H →
  wpAny (model P w) X.A (pyNext (.ref it)) (fun r s1 => r = none /\ Inv X pins σ H s1) E s
 self : ∀ (A : Around) (i : Nat) (s : Shared) (Q : Value -> Shared -> Prop) (E : Value -> Shared -> Prop), tn i s.heap -> Q (.ref it) s -> wpAny (model P w) A (pyIter (.ref it)) Q E s
abbrev TI := St -> Hp -> (It -> Hp -> Prop) -> Prop
noncomputable def PIE (X : Cx) (pins : List (Addr × Obj)) (σ : St) (tg : Expr) (R : It -> Hp -> Prop) (itv : Value) (s2 : Shared) : Prop :=
 ∃ (it : Addr) (fp : List Addr) (tn : Nat -> Heap -> Prop) (J : It) (H' : Hp), itv = .ref it /\ Inv X pins σ H' s2 /\ Turn X.prog X.w X.K tg J fp it tn /\ tn 0 s2.heap /\ (∀ b ∈ fp, fS X pins H' b) /\ R J H'
noncomputable def PI (X : Cx) (tg iter : Expr) (wi : TI) : Prop :=
 ∀ (pins : List (Addr × Obj)) (s : Shared) (σ : St) (H : Hp) (R : It -> Hp -> Prop), Inv X pins σ H s -> wi σ H R →
  wpAny (model X.prog X.w) X.A (eval iter X.env) (fun v s1 => wpAny (model X.prog X.w) X.A (pyIter v) (PIE X pins σ tg R) X.xe s1) X.xe s
def jr {M : Model} {A : Around} {E : Value -> Shared -> Prop} {s : Shared} {tg : Expr} {it : Addr} {u : Value} {o : Obj} {n : String} {vs : Array Value} {Q : Unit -> Shared -> Prop} (ho : s.heap.get? it = some o) (hc : o.cls = .type n) (hd : o.data = .fields vs)
  (hn : ["enumerate", "zip", "dict_itemiterator", "dict_reverseitemiterator", "odict_iterator", "itertools.zip_longest", "itertools.pairwise"].contains n = false) (hQ : Q () s) : wpAny M A (letOwnedTupleGo tg (.ref it) u) Q E s := by
 unfold letOwnedTupleGo
 cases tg <;> first
  | exact wpAny_pure hQ
  | (cases u <;> first
      | exact wpAny_pure hQ
      | (refine wB (wpAny_load ho ?_)
         rw [hc, hd]
         show wpAny M A (if (["enumerate", "zip", "dict_itemiterator", "dict_reverseitemiterator", "odict_iterator", "itertools.zip_longest", "itertools.pairwise"].contains n && vs[0]? == some (rawInt _)) = true then _ else _) Q E s
         rw [if_neg (by intro h; rw [hn, Bool.false_and] at h; cases h)]
         exact wpAny_pure hQ))
def Itl (K : PySem.W.Frag) (a : Addr) : It :=
 ⟨fun i H => ∃ xs x, SqL K H a xs /\ xs[i]? = some x, fun i H x H' => H' = H /\ ∀ xs, SqL K H a xs -> xs[i]? = some x, fun i H => ∃ xs, SqL K H a xs /\ xs.length <= i⟩
def Itt (K : PySem.W.Frag) (a : Addr) : It :=
 ⟨fun i H => ∃ xs x, SqT K H a xs /\ xs[i]? = some x, fun i H x H' => H' = H /\ ∀ xs, SqT K H a xs -> xs[i]? = some x, fun i H => ∃ xs, SqT K H a xs /\ xs.length <= i⟩
def Itr (lo : Int) (n : Nat) : It := ⟨fun i _ => i < n, fun i H x H' => H' = H /\ x = .int (lo + i), fun i _ => n <= i⟩
def oP {P : Program} {w : World} {K : PySem.W.Frag} {tg : Expr} (a it : Addr) : Turn P w K tg (Itl K a) [it] it (fun i h => h.IsListIter it a i) where
 mem := by simp
 obj := fun i h st b hb => by
  have e : b = it := by simpa using hb
  subst e
  obtain ⟨o, e, c, d⟩ := st
  exact ⟨o, e, fun v z => by rw [d] at z; cases z⟩
 keep := fun i h h' st k => st.at fun o e => k it (by simp) o e
 item := by
  intro X hP hw hK hc i pins s σ H E I hf st hg
  subst hP hw hK
  obtain ⟨xs, x, hq, hx⟩ := hg
  obtain ⟨its, rv, p, hz⟩ := I.list hq
  obtain ⟨u, hu, ru⟩ := rv.get hx
  obtain ⟨f0, f1, f2, f3, f4, f5⟩ := hf it (by simp)
  refine wpAny_pyNext_list_item st p.isList (x := u) (by simpa using hu) fun h' st' sb => ?_
  have I1 : Inv X pins σ H { s with heap := h' } := I.turned (t' := s.toks) (fun b o hb e => (sb.2 b hb).trans e) f0 f1 f3 f4 f5
  obtain ⟨o, e, c, d⟩ := id st'
  exact ⟨u, rfl, jr (s := { s with heap := h' }) e c d (by decide) ⟨x, H, I1, ru, ⟨rfl, fun ys hy => by rw [I.list_inj hy hq]; exact hx⟩, st', fun b hb => (hf b hb).1⟩⟩
 done := by
  intro X hP hw hK hc i pins s σ H E I hf st hg
  subst hP hw hK
  obtain ⟨xs, hq, hx⟩ := hg
  obtain ⟨its, rv, p, hz⟩ := I.list hq
  obtain ⟨f0, f1, f2, f3, f4, f5⟩ := hf it (by simp)
  have hl := rv.length
  exact wpAny_pyNext_list_end (I.ok.hd hc) st p.isList (by simp; omega) fun h' eb => ⟨rfl, I.turned (t' := s.toks) (fun b o hb e => eb b o hb e) f0 f1 f3 f4 f5⟩
 self := fun _ _ _ _ _ st h => wpAny_pyIter_listiter st h
def mh {P : Program} {w : World} {K : PySem.W.Frag} {tg : Expr} (a it : Addr) : Turn P w K tg (Itt K a) [it] it (fun i h => h.IsTupleIter it a i) where
 mem := by simp
 obj := fun i h st b hb => by
  have e : b = it := by simpa using hb
  subst e
  obtain ⟨o, e, c, d⟩ := st
  exact ⟨o, e, fun v z => by rw [d] at z; cases z⟩
 keep := fun i h h' st k => st.at fun o e => k it (by simp) o e
 item := by
  intro X hP hw hK hc i pins s σ H E I hf st hg
  subst hP hw hK
  obtain ⟨xs, x, hq, hx⟩ := hg
  obtain ⟨its, rv, p, hz⟩ := I.tuple hq
  obtain ⟨u, hu, ru⟩ := rv.get hx
  obtain ⟨f0, f1, f2, f3, f4, f5⟩ := hf it (by simp)
  refine wpAny_pyNext_tuple_item st (show s.heap.IsTuple a its.toArray from p) (x := u) (by simpa using hu) fun h' st' sb => ?_
  have I1 : Inv X pins σ H { s with heap := h' } := I.turned (t' := s.toks) (fun b o hb e => (sb.2 b hb).trans e) f0 f1 f3 f4 f5
  obtain ⟨o, e, c, d⟩ := id st'
  exact ⟨u, rfl, jr (s := { s with heap := h' }) e c d (by decide) ⟨x, H, I1, ru, ⟨rfl, fun ys hy => by rw [I.tuple_inj hy hq]; exact hx⟩, st', fun b hb => (hf b hb).1⟩⟩
 done := by
  intro X hP hw hK hc i pins s σ H E I hf st hg
  subst hP hw hK
  obtain ⟨xs, hq, hx⟩ := hg
  obtain ⟨its, rv, p, hz⟩ := I.tuple hq
  obtain ⟨f0, f1, f2, f3, f4, f5⟩ := hf it (by simp)
  have hl := rv.length
  exact wpAny_pyNext_tuple_end (I.ok.hd hc) st (show s.heap.IsTuple a its.toArray from p) (by simp; omega) fun h' eb => ⟨rfl, I.turned (t' := s.toks) (fun b o hb e => eb b o hb e) f0 f1 f3 f4 f5⟩
 self := fun _ _ _ _ _ st h => wpAny_pyIter_tupleiter st h
def mi {P : Program} {w : World} {K : PySem.W.Frag} {tg : Expr} (it : Addr) (lo : Int) (n : Nat) : Turn P w K tg (Itr lo n) [it] it (fun i h => IsRangeIter h it (lo + (i : Nat) * 1) ((n : Int) - (i : Nat)) 1) where
 mem := by simp
 obj := fun i h st b hb => by
  have e : b = it := by simpa using hb
  subst e
  exact ⟨_, st, fun v z => by
   have z' : Data.fields _ = Data.cell v := z
   cases z'⟩
 keep := fun i h h' st k => k it (by simp) _ st
 item := by
  intro X hP hw hK hc i pins s σ H E I hf st hg
  subst hP hw hK
  obtain ⟨f0, f1, f2, f3, f4, f5⟩ := hf it (by simp)
  have W := Walks.range (prog := X.prog) (w := X.w) (I.ok.hd hc) it lo 1 n
  refine W.item i s _ _ hg st fun v h' tk hv st' kk => ?_
  obtain ⟨t, rfl⟩ := hv
  have I1 : Inv X pins σ H { s with heap := h', toks := tk } := I.turned (fun b o hb e => kk b o (by simpa using hb) e) f0 f1 f3 f4 f5
  refine ⟨_, rfl, jr (s := { s with heap := h', toks := tk }) (n := "range_iterator") st' rfl rfl (by decide) ⟨.int (lo + i), H, I1, ⟨t, ?_⟩, ⟨rfl, rfl⟩, st', fun b hb => (hf b hb).1⟩⟩
  rw [Int.mul_one]
 done := by
  intro X hP hw hK hc i pins s σ H E I hf st hg
  subst hP hw hK
  obtain ⟨f0, f1, f2, f3, f4, f5⟩ := hf it (by simp)
  exact wpAny_pyNext_range_end (I.ok.hd hc) st (by have : n <= i := hg; omega) fun h' eb => ⟨rfl, I.turned (t' := s.toks) (fun b o hb e => eb b o hb e) f0 f1 f3 f4 f5⟩
 self := fun _ _ _ _ _ st h => wpAny_pyIter_rangeiter st h
section
variable {X : Cx} {tg : Expr}
def xp (K : PySem.W.Frag) (tl : TE) : TI := fun σ H R => tl σ H fun x H1 => ∃ a, x = .ref a /\ (∃ xs, SqL K H1 a xs) /\ R (Itl K a) H1
def iTup (K : PySem.W.Frag) (tl : TE) : TI := fun σ H R => tl σ H fun x H1 => ∃ a, x = .ref a /\ (∃ xs, SqT K H1 a xs) /\ R (Itt K a) H1
def ni {l : Expr} {tl : TE} (hl : PE X l tl) : PI X tg l (xp X.K tl) := by
 intro pins s σ H R I h
 refine thn (hl pins s σ H _ I h) fun v s1 ⟨x, H1, I1, r1, q1⟩ => ?_
 obtain ⟨a, e, ⟨xs, hq⟩, q⟩ := q1
 subst e
 cases r1
 obtain ⟨its, rv, p, hz⟩ := I1.list hq
 refine wpAny_pyIter_list p.isList ?_
 refine ⟨s1.heap.objs.size, [s1.heap.objs.size], _, _, H1, rfl, I1.kept (t' := s1.toks) fun b o e => gP _ e, oP a _, ⟨_, Heap.get?_push_size _ rfl, rfl, rfl⟩, fun b hb => ?_, q⟩
 have e : b = s1.heap.objs.size := by simpa using hb
 subst e
 exact I1.fpOk (nL _) (I1.hok.fresh (nL _))
def pL {l : Expr} {tl : TE} (hl : PE X l tl) : PI X tg l (iTup X.K tl) := by
 intro pins s σ H R I h
 refine thn (hl pins s σ H _ I h) fun v s1 ⟨x, H1, I1, r1, q1⟩ => ?_
 obtain ⟨a, e, ⟨xs, hq⟩, q⟩ := q1
 subst e
 cases r1
 obtain ⟨its, rv, p, hz⟩ := I1.tuple hq
 refine wpAny_pyIter_tuple (show s1.heap.IsTuple a its.toArray from p) ?_
 refine ⟨s1.heap.objs.size, [s1.heap.objs.size], _, _, H1, rfl, I1.kept (t' := s1.toks) fun b o e => gP _ e, mh a _, ⟨_, Heap.get?_push_size _ rfl, rfl, rfl⟩, fun b hb => ?_, q⟩
 have e : b = s1.heap.objs.size := by simpa using hb
 subst e
 exact I1.fpOk (nL _) (I1.hok.fresh (nL _))
def pM {pins : List (Addr × Obj)} {σ : St} {H : Hp} {s : Shared} {R : It -> Hp -> Prop} {E : Value -> Shared -> Prop} {lo hi : Int} {t u v : Tok} {tk : Nat} (I : Inv X pins σ H s) (h1 : -(2 ^ 62) <= lo) (h2 : lo < 2 ^ 62) (h3 : -(2 ^ 62) <= hi) (h4 : hi < 2 ^ 62)
  (q : R (Itr lo (hi - lo).toNat) H) : wpAny (model X.prog X.w) X.A (pyIter (.ref s.heap.objs.size)) (PIE X pins σ tg R) E { s with heap := s.heap.push { cls := .type "range", data := .fields #[.int lo t, .int hi u, .int 1 v] }, toks := tk } := by
 refine wpAny_pyIter_range (IsRange.new ..) (small_one h1 h2 h3 h4) ?_
 have I1 : Inv X pins σ H { s with heap := s.heap.push { cls := .type "range", data := .fields #[.int lo t, .int hi u, .int 1 v] }, toks := tk } := I.kept fun b o e => gP _ e
 refine ⟨(s.heap.push { cls := .type "range", data := .fields #[.int lo t, .int hi u, .int 1 v] }).objs.size, [(s.heap.push { cls := .type "range", data := .fields #[.int lo t, .int hi u, .int 1 v] }).objs.size], _, _, H, rfl,
  I1.kept (t' := tk) fun b o e => gP _ e, mi _ lo (hi - lo).toNat, ?_, fun b hb => ?_, q⟩
 · have e1 : lo + ((0 : Nat) : Int) * 1 = lo := by simp
   have e2 : (((hi - lo).toNat : Nat) : Int) - ((0 : Nat) : Int) = Builtin.Range.rangeSize lo hi 1 := by rw [rangeSize_one]; split <;> omega
   show IsRangeIter _ _ (lo + ((0 : Nat) : Int) * 1) ((((hi - lo).toNat : Nat) : Int) - ((0 : Nat) : Int)) 1
   rw [e1, e2]
   exact Heap.get?_push_size _ rfl
 · have e : b = (s.heap.push { cls := .type "range", data := .fields #[.int lo t, .int hi u, .int 1 v] }).objs.size := by simpa using hb
   subst e
   exact I1.fpOk (nL _) (I1.hok.fresh (nL _))
def ur (ta : TA) : TI := fun σ H R => ta σ H fun vs H1 => ∃ j : Int, vs = [.int j] /\ -(2 ^ 62) <= j /\ j < 2 ^ 62 /\ R (Itr 0 j.toNat) H1
def oQ {a : Expr} {ta : TA} {p pos : Pos} (hg : Gl X "range") (hm : X.mg "range" = none) (ha : PA X [a] ta) (hs : starEach [a] X.env = [(false, eval a X.env)] := by rfl) : PI X tg (.Call (.Name "range" p) [a] [] pos) (ur ta) := by
 intro pins s σ H R I h
 refine Call_ (iD I hg hm boot_range (PyProof.Rows.callWith_type1 (thn (ha pos pins s σ H _ I h) fun us s1 ⟨vs, H1, I1, r1, q1⟩ => ?_) hs rfl))
 obtain ⟨j, e, q1, q2, q⟩ := q1
 subst e
 cases r1 with
 | cons r rr =>
  cases rr
  obtain ⟨t, rfl⟩ := r
  exact call_range_1 (pM I1 (by omega) (by omega) q1 q2 (by simpa using q))
noncomputable def tFor (wi : TI) (g : TG) (tb : TS) : TS := fun D σ H => wi σ H fun J H1 => ∃ W : Nat -> Nat -> St -> Hp -> Prop, (∃ m, W 0 m σ H1) /\ ∀ i m σ H, W i m σ H →
 (J.stop i H /\ D.nx σ H) ∨ (J.go i H /\ ∃ N : St -> Hp -> Prop, (∀ σ' H', N σ' H' -> ∃ m', m' < m /\ W (i + 1) m' σ' H') /\ ∀ x H', J.yld i H x H' -> g x σ H' fun σ2 H2 => tb { D with nx := N, ct := N, bk := D.nx } σ2 H2)
def gG (fp : List Addr) (h : Heap) : List (Addr × Obj) := fp.filterMap fun b => (h.get? b).map fun o => (b, o)
def cE {fp : List Addr} {h : Heap} {b : Addr} {o : Obj} (hb : b ∈ fp) (e : h.get? b = some o) : (b, o) ∈ gG fp h := List.mem_filterMap.mpr ⟨b, hb, by rw [e]; rfl⟩
def oR {fp : List Addr} {h : Heap} {p : Addr × Obj} (hp : p ∈ gG fp h) : p.1 ∈ fp /\ h.get? p.1 = some p.2 := by
 obtain ⟨b, hb, e⟩ := List.mem_filterMap.mp hp
 cases q : h.get? b with
 | none => rw [q] at e; cases e
 | some o =>
  rw [q] at e
  have e' : (b, o) = p := Option.some.inj e
  subst e'
  exact ⟨hb, q⟩
def Inv.pinned {pins : List (Addr × Obj)} {σ : St} {H : Hp} {s : Shared} {fp : List Addr} (I : Inv X pins σ H s) (hf : ∀ b ∈ fp, fS X pins H b) (ho : ∀ b ∈ fp, ∃ o, s.heap.get? b = some o /\ ∀ v, o.data ≠ .cell v) : Inv X (pins ++ gG fp s.heap) σ H s :=
 I.pins_of fun p hp => (List.mem_append.mp hp).elim (fun z => I.pin p (List.mem_append_right _ z)) fun z => by
  obtain ⟨hb, e⟩ := oR z
  obtain ⟨f0, f1, f2, _⟩ := hf p.1 hb
  obtain ⟨o, e', d⟩ := ho p.1 hb
  rw [e] at e'; cases e'
  exact ⟨e, f0, f1, f2, d⟩
def Inv.unpinned {pins pl : List (Addr × Obj)} {σ : St} {H : Hp} {s : Shared} (I : Inv X (pins ++ pl) σ H s) : Inv X pins σ H s := I.pins_of fun p hp => I.pin p (List.mem_append_right _ (List.mem_append_left _ hp))
def mj {iter : Expr} {body : List Stmt} {wi : TI} {g : TG} {tb : TS} {pos : Pos} (hp : PassesOwn (model X.prog X.w) X.A X.env X.xe) (hc : X.calm = true) (hi : PI X tg iter wi) (hg : PG X tg g) (hb : PSs X body tb)
  (hs : ∀ x, foldedSetIterable iter X.env x = pure x := by intro _; rfl) : PS X (.For tg iter body [] pos) (tFor wi g tb) := by
 intro pins s σ H D I h
 refine wpAny_For (thn (hi pins s σ H _ I h) fun v s1 h1 => thn h1 fun itv s2 h2 => ?_) hs
 obtain ⟨it, fp, tn, J, H2, e, I2, T, st2, f2, W, ⟨m0, w0⟩, turn⟩ := h2
 subst e
 -- what stays true of the iterator's objects through the loop
 have stat : ∀ {H' : Hp}, (∀ b ∈ fp, H' b = none) -> ∀ b ∈ fp, fS X pins H' b := fun hn b hb => ⟨hn b hb, (f2 b hb).2⟩
 refine codeAny_forLoop_any (fun n s' => ∃ i σ' H', Inv X pins σ' H' s' /\ tn i s'.heap /\ (∀ b ∈ fp, H' b = none) /\ W i n σ' H') ?_ m0 ⟨0, σ, H2, I2, st2, fun b hb => (f2 b hb).1, w0⟩
 rintro n s3 ⟨i, σ3, H3, I3, st3, fr3, w3⟩
 rcases turn i n σ3 H3 w3 with ⟨stop, qn⟩ | ⟨go, N, hN, step⟩
 · refine wpAny_passesOwn hp (thn (T.done X rfl rfl rfl hc i pins s3 σ3 H3 X.xe I3 (stat fr3) st3 stop) fun r s4 ⟨hr, I4⟩ => ?_)
   subst hr
   exact wpAny_execs_nil ⟨σ3, H3, I4, qn⟩
 · refine wpAny_passesOwn hp (thn (T.item X rfl rfl rfl hc i pins s3 σ3 H3 X.xe I3 (stat fr3) st3 go) fun r s4 ⟨u, hr, h4⟩ => ?_)
   subst hr
   refine wpAny_passesOwn hp (thn h4 fun _ s5 ⟨x, H5, I5, r5, y5, st5, fr5⟩ => ?_)
   have I5' := I5.pinned (stat fr5) (T.obj _ _ st5)
   refine wpAny_passesOwn hp (thn (hg _ s5 σ3 H5 x u _ I5' r5 (step x H5 y5)) fun _ s6 ⟨σ6, H6, I6, q6⟩ => ?_)
   refine wpAny_passesOwn hp (thn (hb _ s6 σ6 H6 _ I6 q6) fun f s7 q7 => ?_)
   have again : ∀ {σ7 : St} {H7 : Hp}, Inv X (pins ++ gG fp s5.heap) σ7 H7 s7 -> N σ7 H7 -> ∃ m, m < n /\ ∃ i σ' H', Inv X pins σ' H' s7 /\ tn i s7.heap /\ (∀ b ∈ fp, H' b = none) /\ W i m σ' H' := fun {σ7 H7} I7 n7 => by
    obtain ⟨m', hm, w7⟩ := hN σ7 H7 n7
    refine ⟨m', hm, i + 1, σ7, H7, I7.unpinned, T.keep _ _ _ st5 fun b hb o e => (I7.pin (b, o) (List.mem_append_right _ (List.mem_append_right _ (cE hb e)))).1, fun b hb => ?_, w7⟩
    obtain ⟨o, e, d⟩ := T.obj _ _ st5 b hb
    exact (I7.pin (b, o) (List.mem_append_right _ (List.mem_append_right _ (cE hb e)))).2.1
   cases f with
   | next => obtain ⟨σ7, H7, I7, n7⟩ := q7; exact again I7 n7
   | cont => obtain ⟨σ7, H7, I7, n7⟩ := q7; exact again I7 n7
   | brk => obtain ⟨σ7, H7, I7, q7⟩ := q7; exact ⟨σ7, H7, I7.unpinned, q7⟩
   | ret v => obtain ⟨x7, σ7, H7, I7, r7, q7⟩ := q7; exact ⟨x7, σ7, H7, I7.unpinned, r7, q7⟩
end
abbrev R2 := V -> V -> Hp -> VK -> Prop
noncomputable def OpR (X : Cx) (f : Value -> Value -> Sem Value) (r : R2) : Prop :=
 ∀ (pins : List (Addr × Obj)) (s : Shared) (σ : St) (H : Hp) (x y : V) (v u : Value) (Q : VK), Inv X pins σ H s -> RelV x v -> RelV y u -> r x y H Q →
  wpAny (model X.prog X.w) X.A (f v u) (EP X pins σ Q) X.xe s
noncomputable def UnR (X : Cx) (f : Value -> Sem Value) (r : V -> Hp -> VK -> Prop) : Prop :=
 ∀ (pins : List (Addr × Obj)) (s : Shared) (σ : St) (H : Hp) (x : V) (v : Value) (Q : VK), Inv X pins σ H s -> RelV x v -> r x H Q →
  wpAny (model X.prog X.w) X.A (f v) (EP X pins σ Q) X.xe s
noncomputable def cX (X : Cx) (f : Value) (r : List V -> Hp -> VK -> Prop) : Prop :=
 ∀ (pins : List (Addr × Obj)) (s : Shared) (σ : St) (H : Hp) (xs : List V) (us : List Value) (Q : VK), Inv X pins σ H s -> Vals xs us -> r xs H Q →
  wpAny (model X.prog X.w) X.A (call f us) (EP X pins σ Q) X.xe s
noncomputable def TruR (X : Cx) (r : V -> Hp -> (Bool -> Hp -> Prop) -> Prop) : Prop :=
 ∀ (pins : List (Addr × Obj)) (s : Shared) (σ : St) (H : Hp) (x : V) (v : Value) (Q : Bool -> Hp -> Prop), Inv X pins σ H s -> RelV x v -> r x H Q →
  wpAny (model X.prog X.w) X.A (truthy v) (TP X pins σ Q) X.xe s
def tOp (r : R2) (ta tb : TE) : TE := fun σ H Q => ta σ H fun x H1 => tb σ H1 fun y H2 => r x y H2 Q
def tUn (r : V -> Hp -> VK -> Prop) (ta : TE) : TE := fun σ H Q => ta σ H fun x H1 => r x H1 Q
def rI (C : Int -> Int -> Prop) (g : Int -> Int -> V) : R2 := fun x y H Q => ∃ i j, x = .int i /\ y = .int j /\ C i j /\ Q (g i j) H
def rI0 (g : Int -> Int -> V) : R2 := fun x y H Q => ∃ i j, x = .int i /\ y = .int j /\ Q (g i j) H
def rU (g : Int -> V) : V -> Hp -> VK -> Prop := fun x H Q => ∃ i, x = .int i /\ Q (g i) H
section
variable {X : Cx} {a b c : Expr} {ta tb tc : TE} {pos : Pos}
def vn (ha : PE X a ta) (hb : PE X b tb) {pins : List (Addr × Obj)} {s : Shared} {σ : St} {H : Hp} {R : V -> V -> Hp -> Prop} (I : Inv X pins σ H s)
  (h : ta σ H fun x H1 => tb σ H1 fun y H2 => R x y H2) {Q : Value -> Shared -> Prop} {f : Value -> Value -> Sem Value}
  (hf : ∀ v u s2 x y H2, Inv X pins σ H2 s2 -> RelV x v -> RelV y u -> R x y H2 -> wpAny (model X.prog X.w) X.A (f v u) Q X.xe s2) :
  wpAny (model X.prog X.w) X.A (eval a X.env) (fun v s₁ => wpAny (model X.prog X.w) X.A (eval b X.env) (fun u s₂ => wpAny (model X.prog X.w) X.A (f v u) Q X.xe s₂) X.xe s₁) X.xe s := by
 refine thn (ha pins s σ H _ I h) fun v s1 ⟨x, H1, I1, r1, q1⟩ => ?_
 refine thn (hb pins s1 σ H1 _ I1 q1) fun u s2 ⟨y, H2, I2, r2, q2⟩ => ?_
 exact hf v u s2 x y H2 I2 r1 r2 q2
def pN {op : Operator} {r : R2} (ho : OpR X (binaryOp op) r) (ha : PE X a ta) (hb : PE X b tb) : PE X (.BinOp a op b pos) (tOp r ta tb) := by
 intro pins s σ H Q I h
 exact wpAny_BinOp (vn ha hb I h fun v u s2 x y H2 I2 rx ry q => ho pins s2 σ H2 x y v u Q I2 rx ry q)
def xq {op : UnaryOp} {r : V -> Hp -> VK -> Prop} (ho : UnR X (unaryOp op) r) (ha : PE X a ta) : PE X (.UnaryOp op a pos) (tUn r ta) := by
 intro pins s σ H Q I h
 exact UnaryOp_ (thn (ha pins s σ H _ I h) fun v s1 ⟨x, H1, I1, r1, q1⟩ => ho pins s1 σ H1 x v Q I1 r1 q1)
def opI {f : Value -> Value -> Sem Value} {C : Int -> Int -> Prop} {g : Int -> Int -> Int}
  (rule : ∀ (i j : Int) (t u : Tok) (s : Shared) (Q : Value -> Shared -> Prop) (E : Value -> Shared -> Prop), C i j -> Q (.int (g i j) s.toks) { s with toks := s.toks + 1 } -> wpAny (model X.prog X.w) X.A (f (.int i t) (.int j u)) Q E s) :
  OpR X f (rI C fun i j => .int (g i j)) := by
 intro pins s σ H x y v u Q I rx ry h
 obtain ⟨i, j, rfl, rfl, hc, q⟩ := h
 obtain ⟨t, rfl⟩ := rx
 obtain ⟨t', rfl⟩ := ry
 exact rule i j t t' s _ _ hc ⟨.int (g i j), H, I.tok _, ⟨_, rfl⟩, q⟩
def pO {f : Value -> Value -> Sem Value} {g : Int -> Int -> Int}
  (rule : ∀ (i j : Int) (t u : Tok) (s : Shared) (Q : Value -> Shared -> Prop) (E : Value -> Shared -> Prop), Q (.int (g i j) s.toks) { s with toks := s.toks + 1 } -> wpAny (model X.prog X.w) X.A (f (.int i t) (.int j u)) Q E s) :
  OpR X f (rI0 fun i j => .int (g i j)) := by
 intro pins s σ H x y v u Q I rx ry h
 obtain ⟨i, j, rfl, rfl, q⟩ := h
 obtain ⟨t, rfl⟩ := rx
 obtain ⟨t', rfl⟩ := ry
 exact rule i j t t' s _ _ ⟨.int (g i j), H, I.tok _, ⟨_, rfl⟩, q⟩
def opB0 {f : Value -> Value -> Sem Value} {g : Int -> Int -> Bool}
  (rule : ∀ (i j : Int) (t u : Tok) (s : Shared) (Q : Value -> Shared -> Prop) (E : Value -> Shared -> Prop), Q (.bool (g i j)) s -> wpAny (model X.prog X.w) X.A (f (.int i t) (.int j u)) Q E s) :
  OpR X f (rI0 fun i j => .bl (g i j)) := by
 intro pins s σ H x y v u Q I rx ry h
 obtain ⟨i, j, rfl, rfl, q⟩ := h
 obtain ⟨t, rfl⟩ := rx
 obtain ⟨t', rfl⟩ := ry
 exact rule i j t t' s _ _ ⟨.bl (g i j), H, I, rfl, q⟩
def vo (i j : Int) : Prop := 0 < j /\ j < 1073741824
def vp (i j : Int) : Prop := 0 <= j /\ j <= 1000000 /\ i.natAbs < 2 ^ 64
def CMul (i j : Int) : Prop := (-(2 ^ 64) < i /\ i < 2 ^ 64) ∨ (-(2 ^ 64) < j /\ j < 2 ^ 64)
def CMul.ok {i j : Int} (h : CMul i j) : IntMulOk i j := by
 rcases h with ⟨h1, h2⟩ | ⟨h1, h2⟩
 · exact .of_left (intBits_le_64 h1 h2)
 · exact .of_right (intBits_le_64 h1 h2)
def vq : OpR X (binaryOp .Add) (rI0 fun i j => .int (i + j)) := pO fun _ _ _ _ _ _ _ q => add_int q
def ml : OpR X (binaryOp .Sub) (rI0 fun i j => .int (i - j)) := pO fun _ _ _ _ _ _ _ q => sub_int q
def fT : OpR X (binaryOp .Mult) (rI CMul fun i j => .int (i * j)) := opI fun _ _ _ _ _ _ _ hc q => mul_int q hc.ok
def cG : OpR X (binaryOp .FloorDiv) (rI vo fun i j => .int (i / j)) := opI fun i j _ _ _ _ _ hc q => by
 have h1 : (0 : Int) < j := hc.1
 have h2 : j < 1073741824 := hc.2
 exact floordiv_int (by omega) (by rw [Int.fdiv_eq_ediv_of_nonneg i (by omega)]; exact q) (.inl (PyProof.noPylong_small (by omega)))
def aW : OpR X (binaryOp .Mod) (rI (fun _ j => 0 < j) fun i j => .int (i % j)) := opI fun i j _ _ _ _ _ hc q => by
 have h1 : (0 : Int) < j := hc
 exact mod_int' (by omega) (by rw [Int.fmod_eq_emod_of_nonneg i (by omega)]; exact q)
def pP : OpR X (binaryOp .Pow) (rI vp fun i j => .int (i ^ j.toNat)) := opI fun _ _ _ _ _ _ _ hc q => pow_int_small hc.1 hc.2.1 hc.2.2 q
def vt : OpR X (binaryOp .BitAnd) (rI0 fun i j => .int (Builtin.bitAnd i j)) := pO fun _ _ _ _ _ _ _ q => and_int q
def xr : OpR X (binaryOp .BitOr) (rI0 fun i j => .int (Builtin.bitOr i j)) := pO fun _ _ _ _ _ _ _ q => or_int q
def vv : OpR X (binaryOp .BitXor) (rI0 fun i j => .int (Builtin.bitXor i j)) := pO fun _ _ _ _ _ _ _ q => xor_int q
def unI {f : Value -> Sem Value} {g : Int -> Int}
  (rule : ∀ (i : Int) (t : Tok) (s : Shared) (Q : Value -> Shared -> Prop) (E : Value -> Shared -> Prop), Q (.int (g i) s.toks) { s with toks := s.toks + 1 } -> wpAny (model X.prog X.w) X.A (f (.int i t)) Q E s) :
  UnR X f (rU fun i => .int (g i)) := by
 intro pins s σ H x v Q I rx h
 obtain ⟨i, rfl, q⟩ := h
 obtain ⟨t, rfl⟩ := rx
 exact rule i t s _ _ ⟨.int (g i), H, I.tok _, ⟨_, rfl⟩, q⟩
def vz : UnR X (unaryOp .USub) (rU fun i => .int (-i)) := unI fun _ _ _ _ _ q => neg_int q
end
noncomputable def vA : V -> V -> Bool
 | .non, .non => true | .non, .int _ => true | .int _, .non => true | .non, .bl _ => true | .bl _, .non => true | .non, .str _ => true | .str _, .non => true
 | .int _, .int _ => true | .bl _, .bl _ => true | .str _, .str _ => true | .byt _, .byt _ => true
 | .int _, .str _ => true | .str _, .int _ => true | .bl _, .str _ => true | .str _, .bl _ => true
 | _, _ => false
def rEq : R2 := fun x y H Q => vA x y = true /\ Q (.bl (decide (x = y))) H
def rNe : R2 := fun x y H Q => vA x y = true /\ Q (.bl (!decide (x = y))) H
def nj {i j : Int} : decide (V.int i = V.int j) = (i == j) := by
 rw [Bool.eq_iff_iff]
 simp
def pQ {i j : Bool} : decide (V.bl i = V.bl j) = (i == j) := by
 rw [Bool.eq_iff_iff]
 simp
def nl {i j : Str} : decide (V.str i = V.str j) = (i == j) := by
 rw [Bool.eq_iff_iff]
 simp
def nn {i j : Array UInt8} : decide (V.byt i = V.byt j) = (i.toList == j.toList) := by
 rw [Bool.eq_iff_iff]
 cases i
 cases j
 simp
section
variable {X : Cx} {a b c : Expr} {ta tb tc : TE} {pos : Pos}
def aZ {pins : List (Addr × Obj)} {σ : St} {H : Hp} {s : Shared} {Q : VK} {k k' : Bool} (I : Inv X pins σ H s) (q : Q (.bl k) H) (e : k = k') : EP X pins σ Q (.bool k') s := by
 subst e
 exact ⟨.bl k, H, I, rfl, q⟩
def xt : OpR X (compareOp .Eq) rEq := by
 intro pins s σ H x y v u Q I rx ry h
 obtain ⟨hs, q⟩ := h
 cases x with
 | non =>
  cases rx
  cases y with
  | non => cases ry; exact PySem.EqNone.eq_none_none (aZ I q (by simp))
  | bl j => cases ry; exact PySem.EqNone.eq_none_bool (aZ I q (by simp))
  | int j => obtain ⟨t', rfl⟩ := ry; exact PySem.EqNone.eq_none_int (aZ I q (by simp))
  | str j => obtain ⟨t', rfl⟩ := ry; exact PySem.EqNone.eq_none_str (aZ I q (by simp))
  | _ => exact absurd (show false = true from hs) Bool.false_ne_true
 | bl i =>
  cases rx
  cases y with
  | non => cases ry; exact PySem.EqNone.eq_bool_none (aZ I q (by simp))
  | bl j => cases ry; exact eq_bool (aZ I q pQ)
  | str j => obtain ⟨t', rfl⟩ := ry; exact PySem.EqMixed.eq_bool_str (aZ I q (by simp))
  | _ => exact absurd (show false = true from hs) Bool.false_ne_true
 | int i =>
  obtain ⟨t, rfl⟩ := rx
  cases y with
  | non => cases ry; exact PySem.EqNone.eq_int_none (aZ I q (by simp))
  | int j => obtain ⟨t', rfl⟩ := ry; exact eq_int (aZ I q nj)
  | str j => obtain ⟨t', rfl⟩ := ry; exact PySem.EqMixed.eq_int_str (aZ I q (by simp))
  | _ => exact absurd (show false = true from hs) Bool.false_ne_true
 | str i =>
  obtain ⟨t, rfl⟩ := rx
  cases y with
  | non => cases ry; exact PySem.EqNone.eq_str_none (aZ I q (by simp))
  | bl j => cases ry; exact PySem.EqMixed.eq_str_bool (aZ I q (by simp))
  | int j => obtain ⟨t', rfl⟩ := ry; exact PySem.EqMixed.eq_str_int (aZ I q (by simp))
  | str j => obtain ⟨t', rfl⟩ := ry; exact eq_str (aZ I q nl)
  | _ => exact absurd (show false = true from hs) Bool.false_ne_true
 | byt i =>
  obtain ⟨t, rfl⟩ := rx
  cases y with
  | byt j => obtain ⟨t', rfl⟩ := ry; exact PySem.W.eq_bytes (aZ I q nn)
  | _ => exact absurd (show false = true from hs) Bool.false_ne_true
 | _ => cases y <;> exact absurd (show false = true from hs) Bool.false_ne_true
def xu : OpR X (compareOp .NotEq) rNe := by
 intro pins s σ H x y v u Q I rx ry h
 obtain ⟨hs, q⟩ := h
 cases x with
 | non =>
  cases rx
  cases y with
  | non => cases ry; exact PySem.EqNone.ne_none_none (aZ I q (by simp))
  | bl j => cases ry; exact PySem.EqNone.ne_none_bool (aZ I q (by simp))
  | int j => obtain ⟨t', rfl⟩ := ry; exact PySem.EqNone.ne_none_int (aZ I q (by simp))
  | str j => obtain ⟨t', rfl⟩ := ry; exact PySem.EqNone.ne_none_str (aZ I q (by simp))
  | _ => exact absurd (show false = true from hs) Bool.false_ne_true
 | bl i =>
  cases rx
  cases y with
  | non => cases ry; exact PySem.EqNone.ne_bool_none (aZ I q (by simp))
  | bl j => cases ry; exact ne_bool (aZ I q (congrArg not pQ))
  | str j => obtain ⟨t', rfl⟩ := ry; exact PySem.EqMixed.ne_bool_str (aZ I q (by simp))
  | _ => exact absurd (show false = true from hs) Bool.false_ne_true
 | int i =>
  obtain ⟨t, rfl⟩ := rx
  cases y with
  | non => cases ry; exact PySem.EqNone.ne_int_none (aZ I q (by simp))
  | int j => obtain ⟨t', rfl⟩ := ry; exact ne_int (aZ I q (congrArg not nj))
  | str j => obtain ⟨t', rfl⟩ := ry; exact PySem.EqMixed.ne_int_str (aZ I q (by simp))
  | _ => exact absurd (show false = true from hs) Bool.false_ne_true
 | str i =>
  obtain ⟨t, rfl⟩ := rx
  cases y with
  | non => cases ry; exact PySem.EqNone.ne_str_none (aZ I q (by simp))
  | bl j => cases ry; exact PySem.EqMixed.ne_str_bool (aZ I q (by simp))
  | int j => obtain ⟨t', rfl⟩ := ry; exact PySem.EqMixed.ne_str_int (aZ I q (by simp))
  | str j => obtain ⟨t', rfl⟩ := ry; exact ne_str (aZ I q (congrArg not nl))
  | _ => exact absurd (show false = true from hs) Bool.false_ne_true
 | byt i =>
  obtain ⟨t, rfl⟩ := rx
  cases y with
  | byt j => obtain ⟨t', rfl⟩ := ry; exact PySem.W.ne_bytes (aZ I q (congrArg not nn))
  | _ => exact absurd (show false = true from hs) Bool.false_ne_true
 | _ => cases y <;> exact absurd (show false = true from hs) Bool.false_ne_true
def iF : OpR X (compareOp .Lt) (rI0 fun i j => .bl (decide (i < j))) := opB0 fun _ _ _ _ _ _ _ q => lt_int q
def rZ : OpR X (compareOp .IsNot) (fun x y H Q => y = .non /\ Q (.bl (!decide (x = .non))) H) := by
 intro pins s σ H x y v u Q I rx ry h
 obtain ⟨rfl, q⟩ := h
 cases ry
 refine isnot_none_gen (aZ I q ?_)
 cases x <;> first
  | (cases rx; rfl)
  | (obtain ⟨t, rfl⟩ := rx; rfl)
def OpR.or {f : Value -> Value -> Sem Value} {r r' : R2} (h : OpR X f r) (h' : OpR X f r') : OpR X f (fun x y H Q => r x y H Q ∨ r' x y H Q) := by
 intro pins s σ H x y v u Q I rx ry q
 rcases q with q | q
 · exact h pins s σ H x y v u Q I rx ry q
 · exact h' pins s σ H x y v u Q I rx ry q
def aL (b : Expr) {op : CmpOp} (h : op ≠ .In := by decide) (h2 : op ≠ .NotIn := by decide) : behindInMarks op b = false := by
 have e1 : (op == CmpOp.In) = false := by cases op <;> first | rfl | exact absurd rfl h
 have e2 : (op == CmpOp.NotIn) = false := by cases op <;> first | rfl | exact absurd rfl h2
 cases b <;> simp [behindInMarks, e1, e2]
def np {op : CmpOp} {r : R2} (ho : OpR X (compareOp op) r) (ha : PE X a ta) (hb : PE X b tb) (hm : behindInMarks op b = false) : PE X (.Compare a [op] [b] pos) (tOp r ta tb) := by
 intro pins s σ H Q I h
 exact wpAny_Compare1 (vn ha hb I h fun v u s2 x y H2 I2 rx ry q => ho pins s2 σ H2 x y v u Q I2 rx ry q) hm
def xv (t : TE) : TT := fun σ H Q => t σ H fun x H' => ∃ k, x = .bl k /\ Q k H'
def nq {op : CmpOp} {r : R2} (ho : OpR X (compareOp op) r) (ha : PE X a ta) (hb : PE X b tb) (hm : behindInMarks op b = false) : PT X (.Compare a [op] [b] pos) (xv (tOp r ta tb)) := by
 intro pins s σ H Q I h
 refine wpAny_isTrue_Compare1 (thn (ha pins s σ H _ I h) fun v s1 ⟨x, H1, I1, r1, q1⟩ => thn (hb pins s1 σ H1 _ I1 q1) fun u s2 ⟨y, H2, I2, r2, q2⟩ =>
  thn (ho pins s2 σ H2 x y v u _ I2 r1 r2 q2) fun c s3 ⟨z, H3, I3, r3, k, e, q3⟩ => ?_) hm
 subst e
 cases r3
 exact wpAny_truthy_bool ⟨H3, I3, q3⟩
noncomputable def vC (K : PySem.W.Frag) (x : V) (H : Hp) (k : Bool) : Prop :=
 match x with
 | .non => k = false
 | .bl b => k = b
 | .int i => k = (i != 0)
 | .str y => y.length <= sizeLine /\ k = ((y.length : Int) != 0)
 | .byt y => y.size <= sizeLine /\ k = ((y.size : Int) != 0)
 | .ref p => (∃ xs, SqL K H p xs /\ k = !xs.isEmpty) ∨ (∃ xs, SqT K H p xs /\ k = !xs.isEmpty) ∨ ∃ kvs, H p = some (.dK kvs) /\ k = !kvs.isEmpty
 | _ => False
def mn {κ : Type} {kvs : List (κ × V)} {vs : List (κ × Value)} (r : KV kvs vs) : (!vs.isEmpty) = !kvs.isEmpty := by
 cases r <;> rfl
def iG {xs : List V} {its : List Value} (r : Vals xs its) : (!its.toArray.isEmpty) = !xs.isEmpty := by
 cases r <;> simp
def gH : (sizeLine : Nat) < 2 ^ 63 := by rw [sizeLine_eq]; decide
def vD : TruR X (fun x H Q => ∃ k, vC X.K x H k /\ Q k H) := by
 intro pins s σ H x v Q I rx h
 obtain ⟨k, e, q⟩ := h
 have hl := gH
 have hs : sizeLine = 16777216 := sizeLine_eq
 cases x with
 | non =>
  cases rx
  have e' : k = false := e
  subst e'
  exact truthy_none ⟨H, I, q⟩
 | bl b =>
  cases rx
  have e' : k = b := e
  subst e'
  exact wpAny_truthy_bool ⟨H, I, q⟩
 | int i =>
  obtain ⟨t, rfl⟩ := rx
  have e' : k = (i != 0) := e
  subst e'
  exact PySem.P.truthy_int ⟨H, I, q⟩
 | str y =>
  obtain ⟨t, rfl⟩ := rx
  obtain ⟨hy, e'⟩ : y.length <= sizeLine /\ k = ((y.length : Int) != 0) := e
  subst e'
  exact PySem.P.truthy_str (by omega) ⟨H, I.tok _, q⟩
 | byt y =>
  obtain ⟨t, rfl⟩ := rx
  obtain ⟨hy, e'⟩ : y.size <= sizeLine /\ k = ((y.size : Int) != 0) := e
  subst e'
  exact PySem.W.truthy_bytes (by omega) ⟨H, I.tok _, q⟩
 | ref p =>
  cases rx
  have e' : (∃ xs, SqL X.K H p xs /\ k = !xs.isEmpty) ∨ (∃ xs, SqT X.K H p xs /\ k = !xs.isEmpty) ∨ ∃ kvs, H p = some (.dK kvs) /\ k = !kvs.isEmpty := e
  rcases e' with ⟨xs, hx, e'⟩ | ⟨xs, hx, e'⟩ | ⟨kvs, hx, e'⟩
  · subst e'
    obtain ⟨its, r, pl, hz⟩ := I.list hx
    have hlen := r.length
    exact wpAny_truthy_list pl.isList (by simp only [List.size_toArray]; omega) ⟨H, I.tok _, by rw [iG r]; exact q⟩
  · subst e'
    obtain ⟨its, r, pl, hz⟩ := I.tuple hx
    have hlen := r.length
    exact truthy_tuple pl (by simp only [List.size_toArray]; omega) ⟨H, I.tok _, by rw [iG r]; exact q⟩
  · subst e'
    obtain ⟨hz, hS, vs, r, m⟩ : kvs.length <= sizeLine /\ (p == sysModules) = false /\ ∃ vs, KV kvs vs /\ s.heap.DictOf (aQ X.prog X.w) p vs := I.hok p _ hx
    have hlen : kvs.length = vs.length := Paired.length r
    exact wpAny_truthy_dict hS m (by omega) ⟨H, I.tok _, by rw [mn r]; exact q⟩
 | _ => exact (show False from e).elim
def kZ (ha : PE X a ta) (he : ∀ whole, isTrue a X.env whole = (do let v <- whole; standAt a.pos; holding [v] (truthy v))) :
  PT X a (fun σ H Q => ta σ H fun x H' => ∃ k, vC X.K x H' k /\ Q k H') := by
 intro pins s σ H Q I h
 exact isTrue_plain (thn (ha pins s σ H _ I h) fun v s1 ⟨x, H1, I1, r1, q1⟩ => vD pins s1 σ H1 x v Q I1 r1 q1) (he _)
def mo : OpR X (binaryOp .Add) (fun x y H Q => ∃ i j, x = .str i /\ y = .str j /\ i.length + j.length <= sizeLine /\ Q (.str (i ++ j)) H) := by
 intro pins s σ H x y v u Q I rx ry h
 obtain ⟨i, j, rfl, rfl, hz, q⟩ := h
 obtain ⟨t, rfl⟩ := rx
 obtain ⟨t', rfl⟩ := ry
 exact add_str (fun t' tk => ⟨.str (i ++ j), H, I.tok _, ⟨_, rfl⟩, q⟩) hz
def la {x : V} {us : List Value} (r : Vals [x] us) : ∃ u, us = [u] /\ RelV x u := by
 cases r with
 | cons r1 r2 => cases r2; exact ⟨_, rfl, r1⟩
def pR {x y : V} {us : List Value} (r : Vals [x, y] us) : ∃ u w', us = [u, w'] /\ RelV x u /\ RelV y w' := by
 cases r with
 | cons r1 r2 =>
  cases r2 with
  | cons r3 r4 => cases r4; exact ⟨_, _, rfl, r1, r3⟩
def oS (hc : X.calm = true) : cX X (.builtin "min") (fun xs H Q => ∃ i j, xs = [.int i, .int j] /\ Q (.int (if j < i then j else i)) H) := by
 intro pins s σ H xs us Q I r h
 obtain ⟨i, j, rfl, q⟩ := h
 obtain ⟨u, w', rfl, ⟨t, rfl⟩, ⟨t', rfl⟩⟩ := pR r
 refine min_two_ints (I.ok.hd hc) fun h' tk k => ⟨_, H, I.kept k, ?_, q⟩
 by_cases hj : j < i
 · rw [if_pos hj, if_pos hj]; exact ⟨_, rfl⟩
 · rw [if_neg hj, if_neg hj]; exact ⟨_, rfl⟩
noncomputable def LenV (K : PySem.W.Frag) (x : V) (H : Hp) (n : Nat) : Prop :=
 match x with
 | .str y => y.length <= sizeLine /\ n = y.length
 | .byt y => y.size <= sizeLine /\ n = y.size
 | .ref p => (∃ xs, SqL K H p xs /\ n = xs.length) ∨ ∃ xs, SqT K H p xs /\ n = xs.length
 | _ => False
def bN : cX X (.builtin "len") (fun xs H Q => ∃ x n, xs = [x] /\ LenV X.K x H n /\ Q (.int n) H) := by
 intro pins s σ H xs us Q I r h
 obtain ⟨x, n, rfl, e, q⟩ := h
 obtain ⟨u, rfl, rx⟩ := la r
 have hl := gH
 have hs : sizeLine = 16777216 := sizeLine_eq
 cases x with
 | str y =>
  obtain ⟨t, rfl⟩ := rx
  obtain ⟨hy, e'⟩ : y.length <= sizeLine /\ n = y.length := e
  subst e'
  exact len_str (by omega) ⟨.int _, H, I.tok _, ⟨_, rfl⟩, q⟩
 | byt y =>
  obtain ⟨t, rfl⟩ := rx
  obtain ⟨hy, e'⟩ : y.size <= sizeLine /\ n = y.size := e
  subst e'
  exact PySem.W.len_bytes (by omega) ⟨.int _, H, I.tok _, ⟨_, rfl⟩, q⟩
 | ref p =>
  cases rx
  have e' : (∃ xs, SqL X.K H p xs /\ n = xs.length) ∨ ∃ xs, SqT X.K H p xs /\ n = xs.length := e
  rcases e' with ⟨xs, hx, e'⟩ | ⟨xs, hx, e'⟩
  · subst e'
    obtain ⟨its, r', pl, hz⟩ := I.list hx
    have hlen := r'.length
    exact Calls.call_len_list pl.isList (by simp only [List.size_toArray]; omega) ⟨.int xs.length, H, I.tok _, ⟨_, by simp only [List.size_toArray]; rw [hlen]⟩, q⟩
  · subst e'
    obtain ⟨its, r', pl, hz⟩ := I.tuple hx
    have hlen := r'.length
    exact len_tuple pl (by simp only [List.size_toArray]; omega) ⟨.int xs.length, H, I.tok _, ⟨_, by simp only [List.size_toArray]; rw [hlen]⟩, q⟩
 | _ => exact (show False from e).elim
end
structure ObjM (h : Heap) (x dx C : Addr) (mA : Str -> Option Value) : Prop where
 obj : h.get? x = some (PySem.W.instObj C dx)
 ns : h.Ns1 dx mA
 ne : dx ≠ x
def oT {h : Heap} {dx : Addr} {mA : Str -> Option Value} (n : h.Ns1 dx mA) : ∃ od, h.get? dx = some od /\ ∀ name, PySem.W.lookIn name od = some (mA name) := by
 obtain ⟨o, es, ep, ho, hd, hk, _, hm⟩ := n
 refine ⟨o, ho, fun name => ?_⟩
 have e := hm name
 unfold nsFind findBy at e
 rw [<- Array.find?_toList] at e
 unfold PySem.W.lookIn
 rw [hd]
 dsimp only
 split
 · rename_i y q
   rw [q] at e
   exact congrArg some e
 · rename_i q
   rw [q] at e
   have a : es.toList.any (·.refKey) = false := by
    rw [List.any_eq_false]
    intro y hy
    obtain ⟨z, t, hkey⟩ := hk y (Array.mem_toList_iff.mp hy)
    simp [DictEntry.refKey, hkey]
   have a' : ¬ es.toList.any (·.refKey) = true := by rw [a]; exact Bool.false_ne_true
   rw [if_neg a']
   exact congrArg some e
def ObjM.look {h : Heap} {x dx C : Addr} {mA : Str -> Option Value} (I : ObjM h x dx C mA) : ∃ od, PySem.W.InstAt h x (PySem.W.instObj C dx) C (some od) /\ ∀ name, PySem.W.lookIn name od = some (mA name) :=
 let ⟨od, ho, hl⟩ := oT I.ns
 ⟨od, ⟨I.obj, rfl, rfl, ho⟩, hl⟩
section
variable {prog : Program} {w : World} {A : Around} {E : Value -> Shared -> Prop} {s : Shared} {K : PySem.W.Frag} {x dx C f : Addr} {mA : Str -> Option Value} {name : Str} {v : Value}
def r8 {expr : Bool} {Q : Value -> Shared -> Prop} (X : K.In s.heap) (I : ObjM s.heap x dx C mA) (hg : PySem.W.plainGet K C name = true) (hh : PySem.W.hasDictIn K C = true)
  (ha : PySem.W.findIn K (.ref C) name = some none) (hv : mA name = some v) (hv' : PySem.W.handedIn v = true) (h : Q v { s with toks := s.toks + 1 }) :
  wpAny (model prog w) A (getAttr (.ref x) name expr) Q E s := by
 obtain ⟨od, J, hl⟩ := I.look
 exact PySem.W.get_value X J (PySem.W.plainGet_of hg).1 (PySem.W.findObj_own hh ha rfl (by rw [hl, hv])) hv' h
def pS {pl : Sem Bool} {Q : Value × List Value -> Shared -> Prop} (X : K.In s.heap) (I : ObjM s.heap x dx C mA) (hg : PySem.W.plainGet K C name = true)
  (hf : PySem.W.findIn K (.ref C) name = some (some (.ref f))) (ht : PySem.W.isFn K (.ref f) = true) (hv : mA name = none) (h : Q (.ref f, [.ref x]) s) :
  wpAny (model prog w) A (getMethod (.ref x) name pl) Q E s := by
 obtain ⟨od, J, hl⟩ := I.look
 exact PySem.W.method_fn X J (PySem.W.plainGet_of hg).1 (PySem.W.plainGet_of hg).2 hf (beq_iff_eq.mp ht) (by show (PySem.W.lookIn name od).map (·.isSome) = some false; rw [hl, hv]; rfl) h
def r9 {ns : List Str} {Q : Unit -> Shared -> Prop} (X : K.In s.heap) (I : ObjM s.heap x dx C mA)
  (hs : PySem.W.findIn K (.ref C) "__setattr__" = some (some (.builtin "object.__setattr__"))) (hp : PySem.W.plainOver K C = true) (ht : PySem.W.takerIn K C name = some none) (hh : PySem.W.hasDictIn K C = true)
  (hw : PySem.Within mA ns) (hsz : ns.length <= sizeLine)
  (h : ∀ h', ObjM h' x dx C (fun y => if y = name then some v else mA y) -> Heap.SameBut dx s.heap h' -> Q () { s with heap := h', toks := s.toks + 2 }) :
  wpAny (model prog w) A (setAttr (.ref x) name v) Q E s := by
 obtain ⟨od, J, hl⟩ := I.look
 refine PySem.W.set_plain X J hs (PySem.W.osa_open (s := { s with toks := s.toks + 1 }) (r := none) X J hp ht fun b => ?_)
 obtain ⟨cd, hc, hd'⟩ := PySem.W.any_some hh
 have hx : s.heap.get? x = some ⟨.ref C, some dx, .plain, #[]⟩ := I.obj
 refine wB (wpAny_pure (wB (wB (wpAny_loadPart hx (wB (PySem.W.Looks.here (s := { s with toks := s.toks + 1 }) (PySem.W.looks_clsIn X hc) ?_))))))
 rw [hd']
 refine wpAny_pure (a := some dx) (wB (wpAny_pure (wB ?_)))
 refine wpAny_nsSet1 (s := { s with toks := s.toks + 1 }) I.ns fun h' hn2 hs2 => ?_
 obtain ⟨oD, esD, epD, hoD, hdD, hcD⟩ := hn2.count (PySem.Within.cons name v hw)
 refine wB (wpAny_lookBehind hoD (by rw [hdD]; exact pastItsLine_dict (Nat.le_trans hcD (by rw [List.length_cons]; omega))) ?_)
 exact wpAny_pure (h _ ⟨(hs2.2 _ (Ne.symm I.ne)).trans I.obj, hn2, I.ne⟩ hs2)
def pT {R : Result -> Shared -> Prop} {vs : List Value} {kw : List (Str × Value)} (X : K.In s.heap) (hm : PySem.W.makesIn K C = true)
  (hi : PySem.W.findIn K (.ref C) "__init__" = some (some (.ref f))) (hf : PySem.W.typeIn K (.ref f) = some (.type "function"))
  (h : codeAny (model prog w) (A.under (.builtin "type.__call__" ⟨.ref C :: vs, kw⟩)) (.call (.ref f) ⟨.ref (s.heap.objs.size + 1) :: vs, kw⟩) (PySem.W.InitBack (s.heap.objs.size + 1) R)
   { s with heap := (s.heap.push PySem.W.emptyDict).push (PySem.W.instObj C s.heap.objs.size) }) :
  codeAny (model prog w) A (.call (.ref C) ⟨vs, kw⟩) R s := by
 obtain ⟨hh, g, d, t, os⟩ := s
 exact PySem.W.make_core (PySem.W.makes_of X hm) (PySem.W.looks_findIn X hi) (fun self => PySem.W.bind_fn X self hf) (.inl rfl) h
end
def cY (f : Str) (v : V) : List (Str × V) -> List (Str × V)
 | [] => [(f, v)]
 | (g, x) :: r => if g = f then (g, v) :: r else (g, x) :: cY f v r
def hJ (f g : Str) (v : V) : ∀ fs : List (Str × V), (cY f v fs).lookup g = if g = f then some v else fs.lookup g
 | [] => by
  show List.lookup g [(f, v)] = _
  by_cases h : g = f
  · have hb : (g == f) = true := beq_iff_eq.mpr h
    simp only [List.lookup, hb, if_pos h]
  · have hb : (g == f) = false := beq_eq_false_iff_ne.mpr h
    simp only [List.lookup, hb, if_neg h]
 | (k, x) :: r => by
  have ih := hJ f g v r
  rw [show cY f v ((k, x) :: r) = (if k = f then (k, v) :: r else (k, x) :: cY f v r) from rfl]
  by_cases hk : k = f
  · rw [if_pos hk]
    by_cases h : g = k
    · have hb : (g == k) = true := beq_iff_eq.mpr h
      simp only [List.lookup, hb, if_pos (h.trans hk)]
    · have hb : (g == k) = false := beq_eq_false_iff_ne.mpr h
      simp only [List.lookup, hb, if_neg (fun e : g = f => h (e.trans hk.symm))]
  · rw [if_neg hk]
    by_cases h : g = k
    · have hb : (g == k) = true := beq_iff_eq.mpr h
      simp only [List.lookup, hb, if_neg (fun e : g = f => hk (h.symm.trans e))]
    · have hb : (g == k) = false := beq_eq_false_iff_ne.mpr h
      simp only [List.lookup, hb]
      exact ih
def gJ (f : Str) (v : V) : ∀ fs : List (Str × V), f ∈ (cY f v fs).map (·.1) /\ ∀ g, g ∈ fs.map (·.1) -> g ∈ (cY f v fs).map (·.1)
 | [] => ⟨by simp [cY], fun g h => by simp at h⟩
 | (k, x) :: r => by
  obtain ⟨i1, i2⟩ := gJ f v r
  rw [show cY f v ((k, x) :: r) = (if k = f then (k, v) :: r else (k, x) :: cY f v r) from rfl]
  by_cases hk : k = f
  · rw [if_pos hk]
    subst hk
    exact ⟨by simp, fun g h => by simpa using h⟩
  · rw [if_neg hk]
    refine ⟨?_, fun g h => ?_⟩
    · rw [List.map_cons]
      exact List.mem_cons_of_mem _ i1
    · rw [List.map_cons] at h ⊢
      rcases List.mem_cons.mp h with e | e
      · exact List.mem_cons.mpr (.inl e)
      · exact List.mem_cons_of_mem _ (i2 g e)
def hU (f : Str) (v : V) : ∀ fs : List (Str × V), (cY f v fs).length <= fs.length + 1
 | [] => by simp [cY]
 | (k, x) :: r => by
  have ih := hU f v r
  rw [show cY f v ((k, x) :: r) = (if k = f then (k, v) :: r else (k, x) :: cY f v r) from rfl]
  by_cases hk : k = f
  · rw [if_pos hk, List.length_cons, List.length_cons]; omega
  · rw [if_neg hk, List.length_cons, List.length_cons]; omega
def RelO.some_of {v : V} {o : Option Value} (r : RelO (some v) o) : ∃ u, o = some u /\ RelV v u := by
 cases o with
 | none => exact (show False from r).elim
 | some u => exact ⟨u, rfl, r⟩
def RelO.none_of {o : Option Value} (r : RelO none o) : o = none := by
 cases o with
 | none => rfl
 | some u => exact (show False from r).elim
def oU {v : V} {u : Value} (r : RelV v u) : PySem.W.handedIn u = true := by
 cases v with
 | non => cases (show u = Value.none from r); rfl
 | bl b => cases (show u = Value.bool b from r); rfl
 | int i => obtain ⟨t, e⟩ := (show ∃ t, u = Value.int i t from r); cases e; rfl
 | str x => obtain ⟨t, e⟩ := (show ∃ t, u = Value.str x t from r); cases e; rfl
 | byt b => obtain ⟨t, e⟩ := (show ∃ t, u = Value.bytes b t from r); cases e; rfl
 | flt b => obtain ⟨t, e⟩ := (show ∃ t, u = Value.float b t from r); cases e; rfl
 | ref a => cases (show u = Value.ref a from r); rfl
 | ty n => cases (show u = Value.type n from r); rfl
section
variable {P : Program} {w : World} {H H' : Hp} {h h' : Heap} {a C dx : Addr} {fs fs' : List (Str × V)}
def ir (hok : HOk P w H h) (e : H a = some (.ins C dx fs)) : ∃ mA, ObjM h a dx C mA /\ (∀ f, RelO (fs.lookup f) (mA f)) /\ PySem.Within mA (fs.map (·.1)) /\ fs.length <= 1000 /\ H dx = some (.own a) := by
 obtain ⟨d, z, ne, ob, mA, n, r, q⟩ := (show ObjOk P w H h a (.ins C dx fs) from hok a _ e)
 exact ⟨mA, ⟨ob, n, ne⟩, r, q, z, d⟩
end
structure Cls (K : PySem.W.Frag) (C : Addr) : Prop where
 pg : PySem.W.plainGet K C Str.empty = true
 hd : PySem.W.hasDictIn K C = true
 po : PySem.W.plainOver K C = true
 sa : PySem.W.findIn K (.ref C) "__setattr__" = some (some (.builtin "object.__setattr__"))
def Cls.get {K : PySem.W.Frag} {C : Addr} (c : Cls K C) (f : Str) : PySem.W.plainGet K C f = true := c.pg
def NoAttr (K : PySem.W.Frag) (C : Addr) (f : Str) : Prop := PySem.W.findIn K (.ref C) f = some none
def NoAttr.taker {K : PySem.W.Frag} {C : Addr} {f : Str} (n : NoAttr K C f) : PySem.W.takerIn K C f = some none := by
 unfold PySem.W.takerIn
 rw [show PySem.W.findIn K (.ref C) f = some none from n]
 rfl
structure Meth (K : PySem.W.Frag) (C : Addr) (m : Str) (f : Addr) : Prop where
 at_ : PySem.W.findIn K (.ref C) m = some (some (.ref f))
 fn : PySem.W.isFn K (.ref f) = true
 kp : PySem.W.keepIn K (.ref f) = true
section
variable {X : Cx} {pins : List (Addr × Obj)} {σ : St} {H : Hp} {s : Shared} {a C dx : Addr} {fs : List (Str × V)} {f : Str} {v : V} {A : Around} {E : Value -> Shared -> Prop}
def iH {b : Bool} {Q : Value -> Shared -> Prop} (I : Inv X pins σ H s) (e : H a = some (.ins C dx fs)) (c : Cls X.K C) (n : NoAttr X.K C f) (l : fs.lookup f = some v)
  (h : ∀ u s', Inv X pins σ H s' -> RelV v u -> Q u s') : wpAny (model X.prog X.w) A (getAttr (.ref a) f b) Q E s := by
 obtain ⟨mA, O, r, _, _, _⟩ := ir I.hok e
 obtain ⟨u, hu, ru⟩ := RelO.some_of (v := v) (o := mA f) (by rw [<- l]; exact r f)
 exact r8 I.kIn O (c.get f) c.hd n hu (oU ru) (h u _ (I.tok _) ru)
def fU {m : Str} {g : Addr} {pl : Sem Bool} {Q : Value × List Value -> Shared -> Prop} (I : Inv X pins σ H s) (e : H a = some (.ins C dx fs)) (c : Cls X.K C) (k : Meth X.K C m g) (l : fs.lookup m = none)
  (h : Q (.ref g, [.ref a]) s) : wpAny (model X.prog X.w) A (getMethod (.ref a) m pl) Q E s := by
 obtain ⟨mA, O, r, _, _, _⟩ := ir I.hok e
 have hn : mA m = none := RelO.none_of (by rw [<- l]; exact r m)
 exact pS I.kIn O (c.get m) k.at_ k.fn hn h
def iI {y : V} {u : Value} {Q : Unit -> Shared -> Prop} (I : Inv X pins σ H s) (e : H a = some (.ins C dx fs)) (c : Cls X.K C) (n : NoAttr X.K C f) (hl : fs.length < 1000) (ry : RelV y u)
  (h : ∀ s', Inv X pins σ (upd H a (.ins C dx (cY f y fs))) s' -> Q () s') : wpAny (model X.prog X.w) A (setAttr (.ref a) f u) Q E s := by
 obtain ⟨mA, O, r, wi, _, ho⟩ := ir I.hok e
 have hz : (fs.map (·.1)).length <= sizeLine := by rw [List.length_map, sizeLine_eq]; omega
 refine r9 I.kIn O c.sa c.po n.taker c.hd wi hz fun h' O' sb => h _ ?_
 have hd : ∃ o, h'.get? dx = some o := let ⟨o, _, _, e', _⟩ := O'.ns; ⟨o, e'⟩
 refine I.write (x := a) (e := dx) (by rw [e]; exact True.intro) (.inr ho) (fun b q hb z => (sb.2 b hb).trans z) hd ?_
 refine ⟨by rw [ay O.ne]; exact ho, ?_, O.ne, O'.obj, _, O'.ns, fun g => ?_, fun g hg => ?_⟩
 · have := hU f y fs; omega
 · show RelO ((cY f y fs).lookup g) (if g = f then some u else mA g)
   rw [hJ]
   by_cases q : g = f
   · rw [if_pos q, if_pos q]; exact ry
   · rw [if_neg q, if_neg q]; exact r g
 · by_cases q : g = f
   · rw [q]; exact (gJ f y fs).1
   · refine (gJ f y fs).2 g (wi g fun z => hg ?_)
     show (if g = f then some u else mA g) = none
     rw [if_neg q]; exact z
def Inv.made (I : Inv X pins σ H s) : Inv X pins σ (upd (upd H s.heap.objs.size (.own (s.heap.objs.size + 1))) (s.heap.objs.size + 1) (.ins C s.heap.objs.size []))
  { s with heap := (s.heap.push PySem.W.emptyDict).push (PySem.W.instObj C s.heap.objs.size) } := by
 have e1 : (s.heap.push PySem.W.emptyDict).get? s.heap.objs.size = some PySem.W.emptyDict := Heap.get?_push_size s.heap rfl
 have e2 : ((s.heap.push PySem.W.emptyDict).push (PySem.W.instObj C s.heap.objs.size)).get? (s.heap.objs.size + 1) = some (PySem.W.instObj C s.heap.objs.size) := by
  have := Heap.get?_push_size (s.heap.push PySem.W.emptyDict) (o := PySem.W.instObj C s.heap.objs.size) rfl
  rwa [Heap.size_push] at this
 have e3 : (s.heap.push PySem.W.emptyDict).Ns s.heap.objs.size (fun _ => none) := ⟨PySem.W.emptyDict, #[], _, e1, rfl, (fun e he => absurd he (by simp)), fun _ => rfl⟩
 have I1 := I.laid (a := s.heap.objs.size) (o := .own (s.heap.objs.size + 1)) (h' := s.heap.push PySem.W.emptyDict) (t' := s.toks) (fun b u q => gP _ q) (nL _) ⟨_, e1⟩
 refine I1.laid (a := s.heap.objs.size + 1) (o := .ins C s.heap.objs.size []) (t' := s.toks) (fun b u q => gP _ q) (Nat.le_of_eq (Heap.size_push _ _)) ?_
 have ne : s.heap.objs.size ≠ s.heap.objs.size + 1 := Nat.ne_of_lt (Nat.lt_succ_self _)
 refine ⟨by rw [ay ne, az], Nat.zero_le _, ne, e2, fun _ => none, (Heap.Ns1.of_empty e3).at fun o q => gP _ q, fun _ => True.intro, fun y hy => absurd rfl hy⟩
def se {prog : Program} {w : World} {env : Env} {e : Expr} {f : Str} {pos : Pos} {s : Shared} {Q : Value -> Shared -> Prop} (hb : attributeBase e f env (eval e env) = eval e env)
  (h : wpAny (model prog w) A (eval e env) (fun o s₁ => wpAny (model prog w) A (getAttr o f true) Q E s₁) E s) : wpAny (model prog w) A (eval (.Attribute e f pos) env) Q E s :=
 Attribute_any_ h (by rw [arm_eval_Attribute, hb])
end
def tFld (K : PySem.W.Frag) (ta : TE) (f : Str) : TE := fun σ H Q => ta σ H fun x H1 => ∃ a C dx fs v, x = .ref a /\ H1 a = some (.ins C dx fs) /\ Cls K C /\ NoAttr K C f /\ fs.lookup f = some v /\ Q v H1
noncomputable def sFld (K : PySem.W.Frag) (ta tv : TE) (f : Str) : TS := fun D σ H => tv σ H fun y H1 => ta σ H1 fun x H2 => ∃ a C dx fs, x = .ref a /\ H2 a = some (.ins C dx fs) /\ Cls K C /\ NoAttr K C f /\ fs.length < 1000 ∧
 D.nx σ (upd H2 a (.ins C dx (cY f y fs)))
noncomputable def InOp (X : Cx) (op : Operator) (rd : V -> V -> Hp -> VK -> Prop) : Prop :=
 ∀ (pins : List (Addr × Obj)) (s : Shared) (σ : St) (H : Hp) (x y : V) (u v : Value) (Q : VK), Inv X pins σ H s -> RelV x u -> RelV y v -> rd x y H Q -> wpAny (model X.prog X.w) X.A (inplaceOp op u v) (EP X pins σ Q) X.xe s
noncomputable def nr (K : PySem.W.Frag) (ta tv : TE) (rd : V -> V -> Hp -> VK -> Prop) (f : Str) : TS := fun D σ H => ta σ H fun x H1 => ∃ a C dx fs v, x = .ref a /\ H1 a = some (.ins C dx fs) /\ Cls K C /\ NoAttr K C f /\ fs.lookup f = some v ∧
 tv σ H1 fun y H2 => rd v y H2 fun z H3 => ∃ dx' fs', H3 a = some (.ins C dx' fs') /\ fs'.length < 1000 /\ D.nx σ (upd H3 a (.ins C dx' (cY f z fs')))
section
variable {X : Cx} {o e value : Expr} {f : Str} {pos pos' tpos : Pos} {ta tv : TE}
def vE (he : PE X e ta) (hb : attributeBase e f X.env (eval e X.env) = eval e X.env) : PE X (.Attribute e f pos) (tFld X.K ta f) := by
 intro pins s σ H Q I h
 refine se hb (thn (he pins s σ H _ I h) fun u s1 ⟨x, H1, I1, rx, a, C, dx, fs, v, ex, ea, c, n, l, q⟩ => ?_)
 subst ex
 obtain rfl : u = Value.ref a := rx
 exact iH I1 ea c n l fun u' s2 I2 ru => ⟨v, H1, I2, ru, q⟩
def vF (ha : PE X o ta) (hv : PE X value tv) (hs : swapsWith value (some (.Attribute o f pos')) pos.line X.env = pure false) : PS X (.Assign [.Attribute o f pos'] value pos) (sFld X.K ta tv f) := by
 intro pins s σ H D I h
 refine plainObj_wpAny_Assign_Attribute (thn (hv pins s σ H _ I h) fun u s1 ⟨y, H1, I1, ry, q⟩ => thn (ha pins s1 σ H1 _ I1 q) fun ov s2 ⟨x, H2, I2, rx, a, C, dx, fs, ex, ea, c, n, l, q2⟩ => ?_) hs
 subst ex
 obtain rfl : ov = Value.ref a := rx
 exact iI I2 ea c n l ry fun s3 I3 => ⟨σ, _, I3, q2⟩
def oV {op : Operator} {rd : V -> V -> Hp -> VK -> Prop} (ha : PE X o ta) (hv : PE X value tv) (hop : InOp X op rd) : PS X (.AugAssign (.Attribute o f tpos) op value pos) (nr X.K ta tv rd f) := by
 intro pins s σ H D I h
 refine wpAny_AugAssign_AttributeAny (thn (ha pins s σ H _ I h) fun ov s1 ⟨x, H1, I1, rx, a, C, dx, fs, v, ex, ea, c, n, l, q⟩ => ?_)
 subst ex
 obtain rfl : ov = Value.ref a := rx
 refine iH I1 ea c n l fun u s2 I2 ru => thn (hv pins s2 σ H1 _ I2 q) fun w3 s3 ⟨y, H2, I3, ry, q3⟩ => thn (hop pins s3 σ H2 v y u w3 _ I3 ru ry q3) fun w4 s4 ⟨z, H3, I4, rz, dx', fs', ea', l', q4⟩ => ?_
 exact iI I4 ea' c n l' rz fun s5 I5 => ⟨σ, _, I5, q4⟩
def rAdd : V -> V -> Hp -> VK -> Prop := fun x y H Q => ∃ i j, x = .int i /\ y = .int j /\ Q (.int (i + j)) H
def vG : InOp X .Add rAdd := by
 rintro pins s σ H x y u v Q I rx ry ⟨i, j, rfl, rfl, q⟩
 obtain ⟨t, rfl⟩ := (show ∃ t, u = Value.int i t from rx)
 obtain ⟨t', rfl⟩ := (show ∃ t', v = Value.int j t' from ry)
 exact PyProof.Rows.iadd_int ⟨.int (i + j), H, I.tok _, ⟨_, rfl⟩, q⟩
def ut {pl : Sem Bool} {m : Str} {apos : Pos} {args : List Expr} {pins : List (Addr × Obj)} {s : Shared} {σ : St} {H : Hp} {Q : Value -> Shared -> Prop} {te : TE} (he : PE X e te) (I : Inv X pins σ H s)
  (h : te σ H fun x H1 => ∃ a C dx fs g, x = .ref a /\ H1 a = some (.ins C dx fs) /\ Cls X.K C /\ Meth X.K C m g /\ fs.lookup m = none ∧
   ∀ s1, Inv X pins σ H1 s1 -> wpAny (model X.prog X.w) X.A (callWith pos (.ref g) [.ref a] (backTo pos (starEach args X.env)) (backToKw pos (keywordEach [] X.env))) Q X.xe s1)
  (ht : eval (.Call (.Attribute e m apos) args [] pos) X.env = (do
   let ov <- eval e X.env
   standAt apos.atName
   let (f, first) <- holding [ov] (getMethod ov m pl)
   callWith pos f first (backTo pos (starEach args X.env)) (backToKw pos (keywordEach [] X.env)))) :
  wpAny (model X.prog X.w) X.A (eval (.Call (.Attribute e m apos) args [] pos) X.env) Q X.xe s := by
 refine PySem.W.methodCall_KW (pl := pl) (thn (he pins s σ H _ I h) fun u s1 ⟨x, H1, I1, rx, a, C, dx, fs, g, ex, ea, c, k, l, q⟩ => ?_) ht
 subst ex
 obtain rfl : u = Value.ref a := rx
 exact fU I1 ea c k l (q s1 I1)
end
section
variable {X : Cx} {pins : List (Addr × Obj)} {σ : St} {H : Hp} {s : Shared} {A : Around} {E : Value -> Shared -> Prop} {Q : Value -> Shared -> Prop} {c : Value} {b : Bool}
inductive TyOf (K : PySem.W.Frag) (H : Hp) : V -> Value -> Prop where
 | non : TyOf K H .non (.type "NoneType")
 | bl (x : Bool) : TyOf K H (.bl x) (.type "bool")
 | int (i : Int) : TyOf K H (.int i) (.type "int")
 | str (x : Str) : TyOf K H (.str x) (.type "str")
 | flt (x : UInt64) : TyOf K H (.flt x) (.type "float")
 | lst {a : Addr} {xs : List V} (e : H a = some (.lst xs)) : TyOf K H (.ref a) (.type "list")
 | frz {a : Addr} {o : Obj} {xs : List V} (e : H a = some (.frz o (.lst xs))) : TyOf K H (.ref a) (.type "list")
 | tup {a : Addr} {xs : List V} (e : H a = some (.tup xs)) : TyOf K H (.ref a) (.type "tuple")
 | dK {a : Addr} {kvs : List (Key × V)} (e : H a = some (.dK kvs)) : TyOf K H (.ref a) (.type "dict")
 | dT {a : Addr} {kvs : List (List Key × V)} (e : H a = some (.dT kvs)) : TyOf K H (.ref a) (.type "dict")
 | ins {a C dx : Addr} {fs : List (Str × V)} (e : H a = some (.ins C dx fs)) (cl : Cls K C) (ha : PySem.W.findIn K (.ref C) "__class__" = some (some (.builtin "object.__class__")))
     (hn : PySem.W.specialIn K (.builtin "object.__class__") "__get__" = some (some (.builtin "getset_descriptor.__get__"))) (htk : PySem.W.takesIn K (.builtin "object.__class__") = some true)
     (hm : PySem.W.mroIn K C (.type "object") = some true) : TyOf K H (.ref a) (.ref C)
def fF {x : V} {u t : Value} (I : Inv X pins σ H s) (rx : RelV x u) (ty : TyOf X.K H x t) (e : PySem.W.kitOne X.K t c = some b) (h : ∀ tk, Q (.bool b) { s with toks := tk }) :
  wpAny (model X.prog X.w) A (call (.builtin "isinstance") [u, c]) Q E s := by
 cases ty with
 | non => cases (show u = Value.none from rx); exact PySem.W.kia_one PySem.W.kitx_none I.kIn True.intro e (fun z => nomatch z) h
 | bl y => cases (show u = Value.bool y from rx); exact PySem.W.kia_one PySem.W.kitx_bool I.kIn True.intro e (fun z => nomatch z) h
 | int i => obtain ⟨t, q⟩ := (show ∃ t, u = Value.int i t from rx); cases q; exact PySem.W.kia_one PySem.W.kitx_int I.kIn True.intro e (fun z => nomatch z) h
 | str y => obtain ⟨t, q⟩ := (show ∃ t, u = Value.str y t from rx); cases q; exact PySem.W.kia_one PySem.W.kitx_str I.kIn True.intro e (fun z => nomatch z) h
 | flt y => obtain ⟨t, q⟩ := (show ∃ t, u = Value.float y t from rx); cases q; exact PySem.W.kia_one PySem.W.kitx_float I.kIn True.intro e (fun z => nomatch z) h
 | @lst a xs ea =>
  cases (show u = Value.ref a from rx)
  obtain ⟨_, _, n, _, h1⟩ := (show ObjOk X.prog X.w H s.heap a (.lst xs) from I.hok a _ ea)
  exact PySem.W.kia_one PySem.W.kitx_list I.kIn ⟨_, h1, rfl⟩ e (fun z => nomatch z) h
 | @frz a ob xs ea =>
  cases (show u = Value.ref a from rx)
  obtain ⟨_, _, _, n, _, h1⟩ := (show ObjOk X.prog X.w H s.heap a (.frz ob (.lst xs)) from I.hok a _ ea)
  exact PySem.W.kia_one PySem.W.kitx_list I.kIn ⟨_, h1, rfl⟩ e (fun z => nomatch z) h
 | @tup a xs ea =>
  cases (show u = Value.ref a from rx)
  obtain ⟨_, _, _, p⟩ := (show ObjOk X.prog X.w H s.heap a (.tup xs) from I.hok a _ ea)
  obtain ⟨o, h1, h2, _⟩ := p
  exact PySem.W.kia_one PySem.W.kitx_tuple I.kIn ⟨o, h1, h2⟩ e (fun z => nomatch z) h
 | @dK a kvs ea =>
  cases (show u = Value.ref a from rx)
  obtain ⟨_, _, vs, _, p⟩ := (show ObjOk X.prog X.w H s.heap a (.dK kvs) from I.hok a _ ea)
  obtain ⟨o, es, ep, h1, h2, _⟩ := p
  exact PySem.W.kia_one PySem.W.kitx_dict I.kIn ⟨o, h1, h2.1⟩ e (fun z => nomatch z) h
 | @dT a kvs ea =>
  cases (show u = Value.ref a from rx)
  obtain ⟨_, _, xs, _, o, es, ep, h1, h2, _⟩ := (show ObjOk X.prog X.w H s.heap a (.dT kvs) from I.hok a _ ea)
  exact PySem.W.kia_one PySem.W.kitx_dict I.kIn ⟨o, h1, h2.1⟩ e (fun z => nomatch z) h
 | @ins a C dx fs ea cl ha hn htk hm =>
  cases (show u = Value.ref a from rx)
  obtain ⟨mA, O, _⟩ := ir I.hok ea
  obtain ⟨od, J, _⟩ := O.look
  exact PySem.W.kia_one (PySem.W.kitx_own (cl.get _) cl.hd ha hn htk hm) I.kIn J e (fun z => nomatch z) h
end
structure Room (k : Nat) (A : Around) : Prop where
 hd : A.handled = none
 dp : A.depth + 3 * k + 5 < recursionLimit
 un : A.units + 16 * k + 200 < cLine
def Room.mono {j k : Nat} {A : Around} (r : Room k A) (h : j <= k) : Room j A := ⟨r.hd, by have := r.dp; omega, by have := r.un; omega⟩
def Room.deeper {k : Nat} {A : Around} (r : Room (k + 1) A) (env : Env) : Room k (A.deeper env) :=
 ⟨r.hd, by have := r.dp; show A.depth + 1 + 3 * k + 5 < _; omega, by have := r.un; show A.units + 3 + 16 * k + 200 < _; omega⟩
def mq {A : Around} {C : Addr} {us : List Value} {kw : List (Str × Value)} : (A.under (.builtin "type.__call__" ⟨.ref C :: us, kw⟩)).depth = A.depth + 1 := by
 first | rfl | simp [Around.under, Code.weight, Code.isCreation, Code.isGuard, Code.isCaller, Code.frames, Code.isFrame, guardIds]
def mr {A : Around} {C : Addr} {us : List Value} {kw : List (Str × Value)} : (A.under (.builtin "type.__call__" ⟨.ref C :: us, kw⟩)).units = A.units + 1 := by
 first | rfl | simp [Around.under, Code.cUnits, Code.frames, Code.isFrame]
def Room.make {k : Nat} {A : Around} (r : Room (k + 1) A) (C : Addr) (us : List Value) (kw : List (Str × Value)) : Room k (A.under (.builtin "type.__call__" ⟨.ref C :: us, kw⟩)) :=
 ⟨r.hd, by have := r.dp; rw [mq]; omega, by have := r.un; rw [mr]; omega⟩
def Room.depth {k : Nat} {A : Around} (r : Room k A) : A.depth < recursionLimit := by have := r.dp; omega
def Room.units {k : Nat} {A : Around} (r : Room k A) : A.units + 64 < cLine := by have := r.un; omega
def tNil : TA := fun _ H Q => Q [] H
def xw (ta : TE) (tr : TA) : TA := fun σ H Q => ta σ H fun x H1 => tr σ H1 fun xs H2 => Q (x :: xs) H2
section
variable {X : Cx} {e : Expr} {es : List Expr} {te : TE} {t : TA} {pos : Pos}
def fV : PA X [] tNil := fun _ _ _ _ H Q I h => Calls.spliced_nil ⟨[], H, I, .nil, h⟩
def dm (ha : PE X e te) (hr : PA X es t) (hs : starEach (e :: es) X.env = (false, eval e X.env) :: starEach es X.env := by rfl) : PA X (e :: es) (xw te t) := by
 intro pos pins s σ H Q I h
 rw [hs]
 show wpAny _ _ (spliced ((false, eval e X.env) :: backTo pos (starEach es X.env))) _ _ s
 refine Calls.spliced_cons (thn (ha pins s σ H _ I h) fun u s1 ⟨x, H1, I1, r1, q1⟩ => ?_)
 exact thn (hr pos pins s1 σ H1 _ I1 q1) fun us s2 ⟨xs, H2, I2, r2, q2⟩ => ⟨x :: xs, H2, I2, .cons r1 r2, q2⟩
def tTup (t : TA) : TE := fun σ H Q => t σ H fun xs H1 => xs.length <= sizeLine /\ ∀ p, H1 p = none -> Q (.ref p) (upd H1 p (.tup xs))
def tLst (t : TA) : TE := fun σ H Q => t σ H fun xs H1 => xs.length <= sizeLine /\ ∀ p, H1 p = none -> Q (.ref p) (upd H1 p (.lst xs))
def pU {x1} (h : PA X es t) : PE X (.Tuple es x1 pos) (tTup t) := by
 intro pins s σ H Q I hq
 refine wpAny_Tuple_spliced (thn (h pos pins s σ H _ I hq) fun us s1 ⟨xs, H1, I1, r, z, q⟩ => ⟨by rw [<- r.length]; exact z, ?_⟩)
 have hf : H1 s1.heap.objs.size = none := I1.hok.fresh (nL _)
 refine ⟨.ref s1.heap.objs.size, upd H1 s1.heap.objs.size (.tup xs), I1.laid (t' := s1.toks) (fun b u e => gP _ e) (nL _) ?_, rfl, q _ hf⟩
 exact ⟨z, us, r, ⟨_, Heap.get?_push_size _ rfl, rfl, _, rfl⟩⟩
def vH (h : PA X es t) : PE X (.List es pos) (tLst t) := by
 intro pins s σ H Q I hq
 refine wpAny_List_spliced (thn (h pos pins s σ H _ I hq) fun us s1 ⟨xs, H1, I1, r, z, q⟩ => ⟨by rw [<- r.length]; exact z, ?_⟩)
 have hf : H1 s1.heap.objs.size = none := I1.hok.fresh (nL _)
 refine ⟨.ref s1.heap.objs.size, upd H1 s1.heap.objs.size (.lst xs), I1.laid (t' := s1.toks) (fun b u e => gP _ e) (nL _) ?_, rfl, q _ hf⟩
 exact ⟨z, us, 0, r, Heap.get?_push_size _ rfl⟩
end
abbrev Sp := List V -> Hp -> VK -> XK -> Prop
abbrev CXT := List Env -> Hp -> Shared -> XK -> Value -> Shared -> Prop
structure Env0 (P : Program) (w : World) (K : PySem.W.Frag) (mg : Str -> Option Value) (base : Heap) (A : Around) (outer : List Env) (s : Shared) (H : Hp) : Prop where
 frames : A.frames = some outer
 mod : Mod K mg base
 bs : ∀ b o, base.get? b = some o -> s.heap.get? b = some o /\ H b = none
 bsz : base.objs.size <= s.heap.objs.size
 funs : s.heap.FunFrames base outer
 frf : ∀ b ∈ frs outer, H b = none
 hok : HOk P w H s.heap
 bare : AllBare s.gens
def CE (outer : List Env) (P : Program) (w : World) (H : Hp) (s : Shared) (Q : VK) (u : Value) (s' : Shared) : Prop :=
 ∃ v H', s'.os = s.os /\ AllBare s'.gens /\ Un (frs outer) [] H H' s.heap s'.heap /\ HOk P w H' s'.heap /\ RelV v u /\ Q v H'
def CR (CX : CXT) (outer : List Env) (P : Program) (w : World) (H : Hp) (s : Shared) (Q : VK) (E : XK) (r : Result) (s' : Shared) : Prop :=
 match r with
 | .ok (.ret u) => CE outer P w H s Q u s'
 | .ok _ => False
 | .error e => CX outer H s E e s'
structure FnOk (P : Program) (w : World) (K : PySem.W.Frag) (mg : Str -> Option Value) (base : Heap) (CX : CXT) (k : Nat) (f : Addr) (fd : FuncData) (ps : List Str) (sp : Sp) : Prop where
 len : ∀ vs H Q E, sp vs H Q E -> vs.length = ps.length
 run : ∀ (A : Around) (outer : List Env) (s : Shared) (H : Hp) (args : Args) (us : List Value) (vs : List V) (Q : VK) (E : XK), Room k A -> Env0 P w K mg base A outer s H -> BindsTo s fd args (ps.zip us) -> Vals vs us -> sp vs H Q E →
  codeAny (model P w) A (.call (.ref f) args) (CR CX outer P w H s Q E) s
def FnOk.imp {P : Program} {w : World} {K : PySem.W.Frag} {mg : Str -> Option Value} {base : Heap} {CX : CXT} {k : Nat} {f : Addr} {fd : FuncData} {ps : List Str} {sp sp' : Sp} (F : FnOk P w K mg base CX k f fd ps sp)
  (h : ∀ vs H Q E, sp' vs H Q E -> sp vs H Q E) : FnOk P w K mg base CX k f fd ps sp' :=
 ⟨fun vs H Q E q => F.len vs H Q E (h _ _ _ _ q), fun A outer s H args us vs Q E hr he hb hv hs => F.run A outer s H args us vs Q E hr he hb hv (h _ _ _ _ hs)⟩
def Env0.make {P : Program} {w : World} {K : PySem.W.Frag} {mg : Str -> Option Value} {base : Heap} {A : Around} {outer : List Env} {s : Shared} {H : Hp} (e : Env0 P w K mg base A outer s H) (C : Addr) (us : List Value) (kw : List (Str × Value)) :
  Env0 P w K mg base (A.under (.builtin "type.__call__" ⟨.ref C :: us, kw⟩)) outer s H := ⟨by first | exact e.frames | (simpa [Around.under, Code.envs, Code.isFrame, pushEnvs] using e.frames), e.mod, e.bs, e.bsz, e.funs, e.frf, e.hok, e.bare⟩
section
variable {X : Cx} {pins : List (Addr × Obj)} {σ : St} {H : Hp} {s s' : Shared}
def Inv.env0 (I : Inv X pins σ H s) : Env0 X.prog X.w X.K X.mg X.base X.A X.stack s H :=
 ⟨I.ok.frames, I.ok.mod, I.bs, Nat.le_trans I.ok.bsz I.sz, I.stack, I.stkFree, I.hok, I.bare⟩
def Inv.after {Q : VK} {u : Value} (I : Inv X pins σ H s) (h : CE X.stack X.prog X.w H s Q u s') : EP X pins σ Q u s' := by
 obtain ⟨v, H', os, bare, un, hok, r, q⟩ := h
 obtain ⟨hh, g, d, t, os'⟩ := s'
 obtain rfl : os' = s.os := os
 exact ⟨v, H', I.call (h' := hh) (g' := g) (d' := d) (t' := t) (ch := []) un hok bare (fun b z => absurd z (by simp)), r, q⟩
end
def pV (sp : Sp) (dvs : List V) (E : XK) (t : TA) : TE := fun σ H Q => t σ H fun vs H1 => sp (vs ++ dvs) H1 Q E
def pW (C : Addr) (m : Str) (sp : Sp) (dvs : List V) (E : XK) (ta : TE) (t : TA) : TE := fun σ H Q => ta σ H fun x H1 => ∃ a dx fs, x = .ref a /\ H1 a = some (.ins C dx fs) /\ fs.lookup m = none ∧
 t σ H1 fun vs H2 => sp (x :: (vs ++ dvs)) H2 Q E
noncomputable def uu (C : Addr) (sp : Sp) (dvs : List V) (E : XK) (t : TA) : TE := fun σ H Q => t σ H fun vs H1 => ∀ x dx, H1 x = none -> H1 dx = none -> dx ≠ x →
 sp (.ref x :: (vs ++ dvs)) (upd (upd H1 dx (.own x)) x (.ins C dx [])) (fun v H2 => v = .non /\ Q (.ref x) H2) E
def Binds (K : PySem.W.Frag) (fd : FuncData) (ps : List Str) (ds : List Value) : Prop :=
 ∀ (s : Shared) (us : List Value), K.In s.heap -> (us ++ ds).length = ps.length -> BindsTo s fd ⟨us, []⟩ (ps.zip (us ++ ds))
def Binds.all {K : PySem.W.Frag} {fd : FuncData} {ps : List Str} (h : ∀ us : List Value, us.length = ps.length -> bindArgs fd ⟨us, []⟩ = pure (ps.zip us)) : Binds K fd ps [] := fun s us _ hl => by
 rw [List.append_nil] at hl ⊢
 exact .of_eq (h us hl)
def fW (CX : CXT) (X : Cx) (E : XK) : Prop := ∀ (pins : List (Addr × Obj)) (σ : St) (H : Hp) (s : Shared) (e : Value) (s' : Shared), Inv X pins σ H s -> CX X.stack H s E e s' -> X.xe e s'
section
variable {X : Cx} {CX : CXT} {k : Nat} {f C : Addr} {fd : FuncData} {ps : List Str} {sp : Sp} {dvs : List V} {ds : List Value} {E : XK} {x m : Str} {p pos apos : Pos} {e o : Expr} {es : List Expr} {ta : TE} {t : TA}
def ms {pins : List (Addr × Obj)} {σ : St} {H : Hp} {s : Shared} {Q : VK} {us : List Value} {vs : List V} (F : FnOk X.prog X.w X.K X.mg X.base CX k f fd ps sp) (hr : Room k X.A) (hb : Binds X.K fd ps ds) (hd : Vals dvs ds) (hx : fW CX X E)
  (I : Inv X pins σ H s) (r : Vals vs us) (h : sp (vs ++ dvs) H Q E) : wpAny (model X.prog X.w) X.A (call (.ref f) us) (EP X pins σ Q) X.xe s := by
 have r2 : Vals (vs ++ dvs) (us ++ ds) := r.append hd
 have hl : (us ++ ds).length = ps.length := by rw [<- r2.length]; exact F.len _ _ _ _ h
 refine wpAny_call (codeAny_mono (F.run X.A X.stack s H ⟨us, []⟩ (us ++ ds) (vs ++ dvs) Q E hr I.env0 (hb s us I.kIn hl) r2 h) fun r s' hq => ?_)
 cases r with
 | error e => exact hx pins σ H s e s' I hq
 | ok fl =>
  cases fl with
  | ret u => exact I.after hq
  | next => exact False.elim hq
  | brk => exact False.elim hq
  | cont => exact False.elim hq
def sf (F : FnOk X.prog X.w X.K X.mg X.base CX k f fd ps sp) (hr : Room k X.A) (hg : Gl X x) (hm : X.mg x = some (.ref f)) (hk : PySem.W.keepIn X.K (.ref f) = true) (hb : Binds X.K fd ps ds) (hd : Vals dvs ds) (hx : fW CX X E)
  (ha : PA X (e :: es) t) (hdb : (x == ("__debug__" : Str)) = false := by decide) (he : starEach (e :: es) X.env = (false, eval e X.env) :: starEach es X.env := by rfl) (hpl : (backTo pos (starEach es X.env)).any (·.1) = false := by rfl) :
  PE X (.Call (.Name x p) (e :: es) [] pos) (pV sp dvs E t) := by
 intro pins s σ H Q I h
 refine wpAny_Call_Name_kw (j0 I hg hm ?_ hdb)
 refine PySem.W.callWith_K (h₀ := X.base) I.ok.mod.kin hk (thn (ha pos pins s σ H _ I h) fun us s1 ⟨vs, H1, I1, r, q⟩ => ⟨I1.kIn, ?_⟩) he hpl
 exact ms F hr hb hd hx I1 r q
def sg {pl : Sem Bool} (he : PE X o ta) (c : Cls X.K C) (hm : Meth X.K C m f) (F : FnOk X.prog X.w X.K X.mg X.base CX k f fd ps sp) (hr : Room k X.A) (hb : Binds X.K fd ps ds) (hd : Vals dvs ds) (hx : fW CX X E) (ha : PA X (e :: es) t)
  (hst : starEach (e :: es) X.env = (false, eval e X.env) :: starEach es X.env := by rfl) (hpl : (backTo pos (starEach es X.env)).any (·.1) = false := by rfl)
  (ht : eval (.Call (.Attribute o m apos) (e :: es) [] pos) X.env = (do
   let ov <- eval o X.env
   standAt apos.atName
   let (f, first) <- holding [ov] (getMethod ov m pl)
   callWith pos f first (backTo pos (starEach (e :: es) X.env)) (backToKw pos (keywordEach [] X.env))) := by rfl) :
  PE X (.Call (.Attribute o m apos) (e :: es) [] pos) (pW C m sp dvs E ta t) := by
 intro pins s σ H Q I h
 refine PySem.W.methodCall_KW (pl := pl) (thn (he pins s σ H _ I h) fun u s1 ⟨x, H1, I1, rx, a, dx, fs, ex, ea, l, q⟩ => ?_) ht
 subst ex
 obtain rfl : u = Value.ref a := rx
 refine fU I1 ea c hm l ?_
 refine PySem.W.callWith_K (first := [.ref a]) (h₀ := X.base) I.ok.mod.kin hm.kp (thn (ha pos pins s1 σ H1 _ I1 q) fun us s2 ⟨vs, H2, I2, r, q2⟩ => ⟨I2.kIn, ?_⟩) hst hpl
 exact ms (us := .ref a :: us) (vs := .ref a :: vs) F hr hb hd hx I2 (.cons rfl r) q2
def pX {pl : Sem Bool} (he : PE X o ta) (c : Cls X.K C) (hm : Meth X.K C m f) (F : FnOk X.prog X.w X.K X.mg X.base CX k f fd ps sp) (hr : Room k X.A) (hb : Binds X.K fd ps ds) (hd : Vals dvs ds) (hx : fW CX X E)
  (ht : eval (.Call (.Attribute o m apos) [] [] pos) X.env = (do
   let ov <- eval o X.env
   standAt apos.atName
   let (f, first) <- holding [ov] (getMethod ov m pl)
   callWith pos f first (backTo pos (starEach [] X.env)) (backToKw pos (keywordEach [] X.env))) := by rfl) :
  PE X (.Call (.Attribute o m apos) [] [] pos) (pW C m sp dvs E ta tNil) := by
 intro pins s σ H Q I h
 refine PySem.W.methodCall_KW (pl := pl) (thn (he pins s σ H _ I h) fun u s1 ⟨x, H1, I1, rx, a, dx, fs, ex, ea, l, q⟩ => ?_) ht
 subst ex
 obtain rfl : u = Value.ref a := rx
 refine fU I1 ea c hm l ?_
 exact PySem.W.callWith_K0 (first := [.ref a]) I1.kIn hm.kp (ms (us := [.ref a]) (vs := [.ref a]) F hr hb hd hx I1 (.cons rfl .nil) q)
structure Mk (K : PySem.W.Frag) (C f : Addr) : Prop where
 makes : PySem.W.makesIn K C = true
 init : PySem.W.findIn K (.ref C) "__init__" = some (some (.ref f))
 fn : PySem.W.isFn K (.ref f) = true
 kp : PySem.W.keepIn K (.ref C) = true
def pY {pins : List (Addr × Obj)} {σ : St} {H : Hp} {s : Shared} {Q : VK} {us : List Value} {vs : List V} (M : Mk X.K C f) (F : FnOk X.prog X.w X.K X.mg X.base CX k f fd ps sp) (hr : Room (k + 1) X.A) (hb : Binds X.K fd ps ds) (hd : Vals dvs ds)
  (hx : fW CX X E) (I : Inv X pins σ H s) (r : Vals vs us)
  (h : ∀ x dx, H x = none -> H dx = none -> dx ≠ x -> sp (.ref x :: (vs ++ dvs)) (upd (upd H dx (.own x)) x (.ins C dx [])) (fun v H2 => v = .non /\ Q (.ref x) H2) E) :
  wpAny (model X.prog X.w) X.A (call (.ref C) us) (EP X pins σ Q) X.xe s := by
 have hq := h (s.heap.objs.size + 1) s.heap.objs.size (I.hok.fresh (Nat.le_succ _)) (I.hok.fresh (nL _)) (Nat.ne_of_lt (Nat.lt_succ_self _))
 have I2 := Inv.made (C := C) I
 have r2 : Vals (V.ref (s.heap.objs.size + 1) :: (vs ++ dvs)) (Value.ref (s.heap.objs.size + 1) :: (us ++ ds)) := .cons rfl (r.append hd)
 have hl : (Value.ref (s.heap.objs.size + 1) :: us ++ ds).length = ps.length := by
  have e := r2.length
  rw [F.len _ _ _ _ hq] at e
  exact e.symm
 refine wpAny_call (pT (f := f) I.kIn M.makes M.init (beq_iff_eq.mp M.fn) (codeAny_mono (F.run _ X.stack _ _ ⟨Value.ref (s.heap.objs.size + 1) :: us, []⟩ (Value.ref (s.heap.objs.size + 1) :: (us ++ ds)) _ _ E (hr.make C us [])
  (I2.env0.make C us []) (hb _ (Value.ref (s.heap.objs.size + 1) :: us) I2.kIn hl) r2 hq) fun r s' hq' => ?_))
 cases r with
 | error e => exact hx pins σ _ _ e s' I2 hq'
 | ok fl =>
  cases fl with
  | ret u =>
   obtain ⟨v, H', I3, rv, ev, q3⟩ := I2.after hq'
   subst ev
   exact ⟨rv, ⟨V.ref (s.heap.objs.size + 1), H', I3, rfl, q3⟩⟩
  | next => exact False.elim hq'
  | brk => exact False.elim hq'
  | cont => exact False.elim hq'
def si (M : Mk X.K C f) (F : FnOk X.prog X.w X.K X.mg X.base CX k f fd ps sp) (hr : Room (k + 1) X.A) (hg : Gl X x) (hm : X.mg x = some (.ref C)) (hb : Binds X.K fd ps ds) (hd : Vals dvs ds) (hx : fW CX X E)
  (ha : PA X (e :: es) t) (hdb : (x == ("__debug__" : Str)) = false := by decide) (he : starEach (e :: es) X.env = (false, eval e X.env) :: starEach es X.env := by rfl) (hpl : (backTo pos (starEach es X.env)).any (·.1) = false := by rfl) :
  PE X (.Call (.Name x p) (e :: es) [] pos) (uu C sp dvs E t) := by
 intro pins s σ H Q I h
 refine wpAny_Call_Name_kw (j0 I hg hm ?_ hdb)
 refine PySem.W.callWith_K (h₀ := X.base) I.ok.mod.kin M.kp (thn (ha pos pins s σ H _ I h) fun us s1 ⟨vs, H1, I1, r, q⟩ => ⟨I1.kIn, ?_⟩) he hpl
 exact pY M F hr hb hd hx I1 r q
end
section
variable {X : Cx} {CX : CXT} {k : Nat} {f C : Addr} {fd : FuncData} {ps ks : List Str} {sp : Sp} {E : XK} {x m : Str} {p pos apos kpos : Pos} {e o : Expr} {es : List Expr} {kws : List Keyword} {te ta : TE} {t tk : TA} {nm : Option Str}
variable {g : List Value -> List Value -> List Value} {gV : List V -> List V -> List V}
end
structure FnScope (N P : List Str) (sc : Scope) : Prop where
 kind : sc.kind = .function
 co : sc.isCoroutine = false
 gen : sc.isGenerator = false
 nd : N.Nodup
 pre : N.take P.length = P
 par : ∀ x ∈ P, sc.names.lookup x = some .local ∨ sc.names.lookup x = some .cell
 nofree : ∀ y ∈ sc.names, y.2 ≠ .free
def jt {kindOf : Str -> Option NameKind} {x : Str} : ∀ {binds : List (Str × Value)} {m : Str -> Option Value}, (∀ v, (x, v) ∉ binds) -> bindL kindOf binds m x = m x
 | [], _, _ => rfl
 | (n, v) :: r, m, h => by
  unfold bindL
  rw [jt fun w hw => h w (List.mem_cons_of_mem _ hw)]
  split
  · have : x ≠ n := by rintro rfl; exact h v List.mem_cons_self
    simp [this]
  · rfl
def ju {kindOf : Str -> Option NameKind} {x : Str} : ∀ {binds : List (Str × Value)} {m : Str -> Option Value}, (∀ v, (x, v) ∉ binds) -> bindC kindOf binds m x = m x
 | [], _, _ => rfl
 | (n, v) :: r, m, h => by
  unfold bindC
  rw [ju fun w hw => h w (List.mem_cons_of_mem _ hw)]
  split
  · rfl
  · have : x ≠ n := by rintro rfl; exact h v List.mem_cons_self
    simp [this]
def jv {kindOf : Str -> Option NameKind} {x : Str} {v : Value} : ∀ {P : List Str} {vs : List Value} {i : Nat} {m : Str -> Option Value}, P.Nodup -> P[i]? = some x -> vs[i]? = some v -> kindOf x = some .local →
  bindL kindOf (P.zip vs) m x = some v
 | [], _, _, _, _, h, _, _ => by simp at h
 | _ :: _, [], _, _, _, _, h, _ => by simp at h
 | p :: P, w :: vs, 0, m, nd, h1, h2, hk => by
  simp at h1 h2; subst h1; subst h2
  show bindL kindOf ((p, w) :: P.zip vs) m p = _
  unfold bindL
  rw [jt fun v hv => (List.nodup_cons.mp nd).1 (List.of_mem_zip hv).1, if_pos hk]
  simp
 | p :: P, w :: vs, i + 1, m, nd, h1, h2, hk => by
  show bindL kindOf ((p, w) :: P.zip vs) m x = _
  unfold bindL
  exact jv (i := i) (List.nodup_cons.mp nd).2 (by simpa using h1) (by simpa using h2) hk
def jw {kindOf : Str -> Option NameKind} {x : Str} {v : Value} : ∀ {P : List Str} {vs : List Value} {i : Nat} {m : Str -> Option Value}, P.Nodup -> P[i]? = some x -> vs[i]? = some v -> kindOf x ≠ some .local →
  bindC kindOf (P.zip vs) m x = some v
 | [], _, _, _, _, h, _, _ => by simp at h
 | _ :: _, [], _, _, _, _, h, _ => by simp at h
 | p :: P, w :: vs, 0, m, nd, h1, h2, hk => by
  simp at h1 h2; subst h1; subst h2
  show bindC kindOf ((p, w) :: P.zip vs) m p = _
  unfold bindC
  rw [ju fun v hv => (List.nodup_cons.mp nd).1 (List.of_mem_zip hv).1, if_neg hk]
  simp
 | p :: P, w :: vs, i + 1, m, nd, h1, h2, hk => by
  show bindC kindOf ((p, w) :: P.zip vs) m x = _
  unfold bindC
  exact jw (i := i) (List.nodup_cons.mp nd).2 (by simpa using h1) (by simpa using h2) hk
def cP (N : List Str) (vs : List V) : St := vs.map some ++ List.replicate (N.length - vs.length) none
noncomputable def ig (CX : CXT) (P : Program) (w : World) (K : PySem.W.Frag) (mg : Str -> Option Value) (base : Heap) (N : List Str) (qual : Str) (scope : Scope) (f : Addr) (cd : Value) (A : Around) (outer : List Env) (s : Shared) (H : Hp) (E : XK) : Cx where
 prog := P
 w := w
 K := K
 mg := mg
 base := base
 A := A.deeper (envOfC qual scope s.heap.objs.size f cd)
 N := N
 s₀ := s
 H₀ := H
 env := envOfC qual scope s.heap.objs.size f cd
 outer := outer
 stack := envOfC qual scope s.heap.objs.size f cd :: outer
 ex := []
 calm := true
 fn := fun _ => true
 pn := []
 xe := fun e s' => wpAny (model P w) (A.deeper (envOfC qual scope s.heap.objs.size f cd)) (leaving (envOfC qual scope s.heap.objs.size f cd) e) (fun _ s'' => CX outer H s E e s'') (fun e' s'' => CX outer H s E e' s'') s'
def lb {sc : Scope} {n : Nat} {x : Str} (h : sc.names.lookup x = some .cell) : ∃ c, (cellsFrom n sc.names []).lookup x = some c := by
 have q := PySem.W.cellsFrom_some sc.names n [] (.inl h)
 exact Option.isSome_iff_exists.mp q
def oW {CX : CXT} {P : Program} {w : World} {K : PySem.W.Frag} {mg : Str -> Option Value} {base : Heap} {N ps : List Str} {qual : Str} {scope : Scope} {f : Addr} {cd : Value} {A : Around} {outer : List Env} {s s1 : Shared} {H : Hp} {E : XK} {us : List Value} {vs : List V}
  (S : FnScope N ps scope) (hd : A.handled = none) (e0 : Env0 P w K mg base A outer s H) (hl : vs.length = ps.length) (r : Vals vs us)
  (x : InCallC s s.heap.objs.size (bindL (envOfC qual scope s.heap.objs.size f cd).kindOf (ps.zip us) fun _ => none) (cellsFrom (s.heap.objs.size + 1) scope.names []) (bindC (envOfC qual scope s.heap.objs.size f cd).kindOf (ps.zip us) fun _ => none) s1) :
  Inv (ig CX P w K mg base N qual scope f cd A outer s H E) [] (cP N vs) H s1 := by
 have hpl : ps.length <= N.length := by have := congrArg List.length S.pre; rw [List.length_take] at this; omega
 obtain ⟨h1, tk, rfl, hk⟩ := x.done
 have noA : ∀ b : Addr, b ∉ (ig CX P w K mg base N qual scope f cd A outer s H E).ex := fun b z => absurd (show b ∈ ([] : List Addr) from z) (by simp)
 refine ⟨⟨e0.mod, S.kind, rfl, rfl, nL _, fun y z c h1 h2 => ?_, fun y hy => ?_, fun y c _ h => ?_, fun _ => hd, Around.frames_deeper e0.frames, .inr ⟨rfl, rfl⟩, fun b z => absurd z (noA b), e0.bs, e0.bsz, fun b _ _ => noA b, fun b z => absurd z (noA b), e0.funs, e0.frf⟩,
  rfl, e0.bare, Un.kept hk, ⟨_, x.toInCall.ns, fun i y v h1 h2 h3 => ?_⟩, fun y c h => ⟨_, x.cell y c h⟩, e0.hok.fresh (Nat.le_refl _), fun y c h => ?_, fun p hp => absurd (show p ∈ ([] : List (Addr × Obj)) from hp) (by simp), e0.hok.kept hk, ?_⟩
 · exact name_of_addr x.apart (PySem.mem_of_lookup h1) (PySem.mem_of_lookup h2)
 · have hy : scope.names.lookup y = some .cell ∨ scope.names.lookup y = some .free := hy
   rcases hy with hy | hy
   · exact lb hy
   · exact absurd rfl (S.nofree _ (PySem.mem_of_lookup hy))
 · exact Nat.le_of_lt (x.above y c (PySem.mem_of_lookup h))
 · have hi : i < vs.length := by
    unfold cP at h2
    by_cases hi : i < vs.length
    · exact hi
    · rw [List.getElem?_append_right (by simpa using hi)] at h2
      rw [List.getElem?_replicate] at h2
      split at h2 <;> cases h2
   have ha : vs[i]? = some v := by
    unfold cP at h2
    rw [List.getElem?_append_left (by simpa using hi), List.getElem?_map] at h2
    cases e : vs[i]? with
    | none => rw [e] at h2; cases h2
    | some a => rw [e] at h2; cases h2; rfl
   obtain ⟨u, hu, rv⟩ := r.get ha
   have hp : ps[i]? = some y := by
    rw [<- S.pre, List.getElem?_take_of_lt (by omega)]; exact h1
   have ndP : ps.Nodup := by rw [<- S.pre]; exact S.nd.sublist (List.take_sublist _ _)
   refine ⟨u, rv, ?_⟩
   rcases S.par y (List.mem_of_getElem? hp) with k | k
   · exact .inl ⟨k, jv ndP hp hu k⟩
   · obtain ⟨c, e⟩ := lb (n := s.heap.objs.size + 1) k
     refine .inr ⟨.inl k, c, e, ?_⟩
     have q := x.cell y c e
     rw [jw ndP hp hu (by show scope.names.lookup y ≠ _; rw [k]; decide)] at q
     exact q
 · exact e0.hok.fresh (Nat.le_of_lt (x.above y c (PySem.mem_of_lookup h)))
 · unfold cP
   show _ = N.length
   rw [List.length_append, List.length_map, List.length_replicate]
   omega
def xx {CX : CXT} {P : Program} {w : World} {K : PySem.W.Frag} {mg : Str -> Option Value} {base : Heap} {k : Nat} {f : Addr} {name qual : Str} {params : Arguments} {body : List Stmt} {scope : Scope} {dV kV doc pm cdv ct oc : Value} {an od : Option Addr}
  {osl : Array (Option Value)} {N ps : List Str} {sp : Sp} (lk : K.lookup f = some ⟨oc, od, .func (PySem.W.fnOf name qual params body scope dV kV doc pm an cdv ct), osl⟩) (hcd : PySem.W.codeIn K cdv qual = true) (S : FnScope N ps scope)
  (len : ∀ vs H Q E, sp vs H Q E -> vs.length = ps.length)
  (hbody : ∀ (A : Around) (outer : List Env) (s : Shared) (H : Hp) (vs : List V) (Q : VK) (E : XK), Room k (A.deeper (envOfC qual scope s.heap.objs.size f cdv)) -> sp vs H Q E →
   ∃ t, PSs (ig CX P w K mg base N qual scope f cdv A outer s H E) body t /\ t { nx := fun _ H' => Q .non H', rt := Q } (cP N vs) H) :
  FnOk P w K mg base CX (k + 1) f (PySem.W.fnOf name qual params body scope dV kV doc pm an cdv ct) ps sp := by
 refine ⟨len, fun A outer s H args us vs Q E hr e0 hb r hsp => ?_⟩
 have hl := len _ _ _ _ hsp
 have KX : K.In s.heap := e0.mod.kin.keeps fun b o e => (e0.bs b o e).1
 have lim : s.heap.NoLimit := e0.mod.nolimit.keeps fun b o e => (e0.bs b o e).1
 have hkind : ∀ y ∈ ps.zip us, scope.names.lookup y.1 = some .local ∨ (scope.names.lookup y.1 = some .cell /\ ((cellsFrom (s.heap.objs.size + 1) scope.names []).lookup y.1).isSome = true) := fun ⟨n, v⟩ hy => by
  rcases S.par n (List.of_mem_zip hy).1 with q | q
  · exact .inl q
  · exact .inr ⟨q, PySem.W.cellsFrom_some _ _ _ (.inl q)⟩
 refine codeAny_call_function hr.depth (KX _ _ lk) rfl S.co S.gen rfl (PySem.W.codeRec_of KX hcd) (hb _ _ _ _ ?_)
 refine wpAny_newFunctionEnv_cells S.kind hkind fun env he s1 x => ?_
 subst he
 refine ⟨lim.keeps x.toInCall.keep, codeAny_func ?_⟩
 obtain ⟨t, ht, hq⟩ := hbody A outer s H vs Q E (hr.deeper _) hsp
 have I : Inv (ig CX P w K mg base N qual scope f cdv A outer s H E) [] (cP N vs) H s1 := oW S hr.hd e0 hl r x
 refine wpAny_mono (ht [] s1 (cP N vs) H _ I hq) (fun fl s' hs => ?_) fun e s' hs => hs
 have fin : ∀ {σ' : St} {H' : Hp} {v : V} {u : Value}, Inv (ig CX P w K mg base N qual scope f cdv A outer s H E) [] σ' H' s' -> RelV v u -> Q v H' -> CE outer P w H s Q u s' :=
  fun {σ' H' v u} J rv q => ⟨v, H', J.os, J.bare, J.base, J.hok, rv, q⟩
 cases fl with
 | ret u =>
  obtain ⟨v, σ', H', J, rv, q⟩ := hs
  exact fin J rv q
 | next =>
  obtain ⟨σ', H', J, q⟩ := hs
  exact fin (v := V.non) (u := Value.none) J rfl q
 | brk =>
  obtain ⟨_, _, _, q⟩ := hs
  exact False.elim q
 | cont =>
  obtain ⟨_, _, _, q⟩ := hs
  exact False.elim q
section
variable {X : Cx} {x : Str} {p pos : Pos} {e : Expr} {es : List Expr} {t : TA} {id T : String} {r : List V -> Hp -> VK -> Prop}
def tCB (r : List V -> Hp -> VK -> Prop) (t : TA) : TE := fun σ H Q => t σ H fun vs H1 => r vs H1 Q
def pZ (hc : cX X (.builtin id) r) (hg : Gl X x) (hm : X.mg x = none) (hv : bootBuiltins x = some (.builtin id)) (ha : PA X (e :: es) t) (hn : x ≠ "__name__" := by decide) (hdb : (x == ("__debug__" : Str)) = false := by decide)
  (he : starEach (e :: es) X.env = (false, eval e X.env) :: starEach es X.env := by rfl) (hpl : (backTo pos (starEach es X.env)).any (·.1) = false := by rfl) : PE X (.Call (.Name x p) (e :: es) [] pos) (tCB r t) := by
 intro pins s σ H Q I h
 refine wpAny_Call_Name_kw (iD I hg hm hv ?_ hn hdb)
 exact PyProof.Rows.callWith_builtin1 (thn (ha pos pins s σ H _ I h) fun us s1 ⟨vs, H1, I1, r1, q1⟩ => hc pins s1 σ H1 vs us Q I1 r1 q1) he hpl
def oX (hc : cX X (.type T) r) (hg : Gl X x) (hm : X.mg x = none) (hv : bootBuiltins x = some (.type T)) (ha : PA X (e :: es) t) (hn : x ≠ "__name__" := by decide) (hdb : (x == ("__debug__" : Str)) = false := by decide)
  (he : starEach (e :: es) X.env = (false, eval e X.env) :: starEach es X.env := by rfl) (hpl : (backTo pos (starEach es X.env)).any (·.1) = false := by rfl) : PE X (.Call (.Name x p) (e :: es) [] pos) (tCB r t) := by
 intro pins s σ H Q I h
 refine wpAny_Call_Name_kw (iD I hg hm hv ?_ hn hdb)
 exact PyProof.Rows.callWith_type1 (thn (ha pos pins s σ H _ I h) fun us s1 ⟨vs, H1, I1, r1, q1⟩ => hc pins s1 σ H1 vs us Q I1 r1 q1) he hpl
end
end L2
namespace HT
open PySem PyProof.Rows
section
open PySem.SeqAt
open PySem.AutoSeq1 (wpAny_loadPart')
open PySem.MeetsSeq PySem.MeetsSeq2 PySem.MeetsSeq3
end
section
variable {prog : Program} {w : World} {A : Around} {E : Value -> Shared -> Prop} {s : Shared}
def x0 {t b : Addr} {vs ws : List Value} {Q : Value -> Shared -> Prop} (ht : IsTup s.heap t vs.toArray) (hb : IsTup s.heap b ws.toArray) (hv : vs ≠ [])
  (h1 : ws = [] -> Q (.ref t) s) (h2 : ws ≠ [] -> Q (.ref s.heap.objs.size) { s with heap := s.heap.push { cls := .type "tuple", data := .seq (vs ++ ws).toArray } })
  (hsz : vs.length + ws.length <= sizeLine) : wpAny (model prog w) A (binaryOp .Add (.ref t) (.ref b)) Q E s := by
 obtain ⟨⟨cls, dd, data, sl⟩, ho, hc, n, hd⟩ := id ht
 obtain ⟨⟨cls2, dd2, data2, sl2⟩, ho2, hc2, n2, hd2⟩ := id hb
 simp only at hc hd hc2 hd2
 subst hc hd hc2 hd2
 have e : vs.toArray ++ ws.toArray = (vs ++ ws).toArray := by simp
 by_cases hw : ws = []
 · exact concat_meets ⟨_, ho, rfl⟩ ⟨_, ho2, rfl⟩ noFill_tuple_add seq_tuple_add PySem.F.slot_tuple_add PySem.F.entry_tuple_add (PySem.F.args_tuple_add_2 _ _)
    (tuple_addW1 t b vs.toArray ws.toArray n n2 dd dd2 sl sl2 (by simpa using hv) (by simp [hw])) ⟨ho, ho2, h1 hw⟩
 · refine concat_meets ⟨_, ho, rfl⟩ ⟨_, ho2, rfl⟩ noFill_tuple_add seq_tuple_add PySem.F.slot_tuple_add PySem.F.entry_tuple_add (PySem.F.args_tuple_add_2 _ _)
    (tuple_addW2 t b vs.toArray ws.toArray n n2 dd dd2 sl sl2 (by simpa using hv) (by simpa using hw) (by rw [List.size_toArray, List.size_toArray]; exact hsz)) ⟨ho, ho2, ?_⟩
   rw [e]
   exact h2 hw
def sIx (n d : Nat) : Option Int -> Nat
 | none => d
 | some v => if v < 0 then (v + (n : Int)).toNat else min v.toNat n
def xy (n d : Nat) : sIx n d none = d := rfl
def x8 (n d k : Nat) : sIx n d (some (k : Int)) = min k n := by
 show (if (k : Int) < 0 then ((k : Int) + (n : Int)).toNat else min (k : Int).toNat n) = min k n
 rw [if_neg (by omega), Int.toNat_natCast]
def vI (n d : Nat) (hd : d <= n) (o : Option Int) : sIx n d o <= n := by
 cases o with
 | none => exact hd
 | some v =>
  show (if v < 0 then (v + (n : Int)).toNat else min v.toNat n) <= n
  by_cases hv : v < 0
  · rw [if_pos hv]; omega
  · rw [if_neg hv]; exact Nat.min_le_right _ _
def nu (v : Int) (n d : Nat) : (if v < 0 then max (v + (n : Int)) 0 else min v (n : Int)) = ((sIx n d (some v) : Nat) : Int) := by
 show (if v < 0 then max (v + (n : Int)) 0 else min v (n : Int)) = (((if v < 0 then (v + (n : Int)).toNat else min v.toNat n) : Nat) : Int)
 by_cases hv : v < 0
 · simp only [if_pos hv]; omega
 · simp only [if_neg hv]; omega
def mt (lo hi : Option Int) (n : Nat) : Builtin.Slice.sliceAdjust lo hi 1 (n : Int) = (((sIx n 0 lo : Nat) : Int), ((sIx n n hi : Nat) : Int)) := by
 have h1 : ¬ ((1 : Int) < 0) := by omega
 unfold Builtin.Slice.sliceAdjust
 simp only [h1, if_false]
 refine Prod.ext ?_ ?_
 · cases lo with
   | none => rfl
   | some v => exact nu v n 0
 · cases hi with
   | none => rfl
   | some v => exact nu v n n
def mv (i j : Nat) : Builtin.Slice.slicePlaces (i : Int) (j : Int) 1 = j - i := by
 unfold Builtin.Slice.slicePlaces
 have h1 : (1 : Int) > 0 := by omega
 simp only [h1, if_true, Int.ediv_one]
 split <;> omega
def iJ {v : Value} {o : Option Int} {Q : Option Int -> Shared -> Prop} (p : IsPart v o) (h : Q o s) : wpAny (model prog w) A (Builtin.Slice.slicePartIndex v) Q E s := by
 cases p with
 | none => exact slicePart_none h
 | int i t => exact slicePart_int h
def gK {sl : Addr} {vl vu : Value} {lo hi : Option Int} {n : Nat} {Q : Int × Int × Nat -> Shared -> Prop} (hs : s.heap.IsSliceOf sl vl vu .none) (pl : IsPart vl lo) (pu : IsPart vu hi)
  (h : Q (((sIx n 0 lo : Nat) : Int), 1, sIx n n hi - sIx n 0 lo) s) : wpAny (model prog w) A (Builtin.Slice.sliceApplied (.ref sl) (pure (n : Int))) Q E s := by
 obtain ⟨os, hos, hcs, hds⟩ := id hs
 unfold Builtin.Slice.sliceApplied Builtin.Slice.sliceFields
 refine wB (wB (wpAny_field hos hds (x := vl) rfl (wB (wpAny_field hos hds (x := vu) rfl (wB (wpAny_field hos hds (x := .none) rfl (wpAny_pure ?_)))))))
 refine wB (slicePart_none ?_)
 show wpAny _ _ (if ((1 : Int) == 0) = true then _ else _) _ _ s
 rw [if_neg (by decide)]
 refine wB (iJ pl (wB (iJ pu (wB (wpAny_pure ?_)))))
 show wpAny _ _ (match Builtin.Slice.sliceAdjust lo hi 1 (n : Int) with | (lo, hi) => pure (lo, (1 : Int), Builtin.Slice.slicePlaces lo hi 1)) _ _ s
 rw [mt lo hi n]
 show wpAny _ _ (pure (((sIx n 0 lo : Nat) : Int), (1 : Int), Builtin.Slice.slicePlaces ((sIx n 0 lo : Nat) : Int) ((sIx n n hi : Nat) : Int) 1)) _ _ s
 rw [mv]
 exact wpAny_pure h
def p0 (xs : Array Value) (i k : Nat) : ((List.range k).filterMap fun (m : Nat) => xs[((i : Int) + (m : Int) * 1).toNat]?).toArray = ((xs.toList.drop i).take k).toArray := by
 have e : (fun (m : Nat) => xs[((i : Int) + (m : Int) * 1).toNat]?) = fun m => xs[i + m]? := by
  funext m
  have : ((i : Int) + (m : Int) * 1).toNat = i + m := by omega
  rw [this]
 rw [e]
 have := pick_run xs i k
 rw [List.filterMap_map] at this
 have e2 : ((fun x => xs[x]?) ∘ fun x => i + x) = fun m => xs[i + m]? := rfl
 rw [e2] at this
 rw [this]
def nv {t sl : Addr} {items : Array Value} {vl vu : Value} {lo hi : Option Int} {Q : Value -> Shared -> Prop} (ht : IsTup s.heap t items) (hs : s.heap.IsSliceOf sl vl vu .none) (pl : IsPart vl lo) (pu : IsPart vu hi)
  (hw : ¬ (sIx items.size 0 lo = 0 /\ sIx items.size items.size hi = items.size))
  (h : Q (.ref s.heap.objs.size) { s with heap := s.heap.push { cls := .type "tuple", data := .seq ((items.toList.drop (sIx items.size 0 lo)).take (sIx items.size items.size hi - sIx items.size 0 lo)).toArray } })
  (hsz : items.size <= sizeLine) : wpAny (model prog w) A (getItem (.ref t) (.ref sl)) Q E s := by
 have htake : sizeOk (.seq ((items.toList.drop (sIx items.size 0 lo)).take (sIx items.size items.size hi - sIx items.size 0 lo)).toArray) := by
  show ((items.toList.drop (sIx items.size 0 lo)).take (sIx items.size items.size hi - sIx items.size 0 lo)).toArray.size <= sizeLine
  rw [List.size_toArray, List.length_take, List.length_drop, Array.length_toList]
  omega
 have hj : sIx items.size items.size hi <= items.size := vI _ _ (nL _) hi
 obtain ⟨os, hos, hcs, hds⟩ := id hs
 have hTs : s.TypeIs (.ref sl) "slice" := ⟨os, hos, hcs⟩
 unfold getItem
 try with_reducible refine wpAny_holding ?_
 first | refine wB (wpAny_pure ?_) | skip
 refine wB (wpAny_sequenceKey ht.typeIs (by decide) ?_)
 refine wB (wpAny_callSpecial?_slot (name := Str.ofString "__getitem__") ht.typeIs PyProof.Rows.slot_tuple_getitem
  (wpAny_call_entry PyProof.Rows.slot_tuple_getitem ht.typeIs entry_tuple_getitem ?_ (args_tuple_getitem _ _)))
 show wpAny _ _ (Builtin.Tuple.tupleItemsOf (.ref t) >>= _) _ _ s
 refine wB (tupleItemsOf_ ht ?_)
 refine wB (wpAny_typeOf hTs ?_)
 rw [if_pos (by decide)]
 refine wB (gK hs pl pu ?_)
 have hno : ¬ ((((sIx items.size 0 lo : Nat) : Int) == 0 && (1 : Int) == 1 && (sIx items.size items.size hi - sIx items.size 0 lo) == items.size) = true) := by
  intro q
  rw [Bool.and_eq_true, Bool.and_eq_true] at q
  have q1 : ((sIx items.size 0 lo : Nat) : Int) = 0 := eq_of_beq q.1.1
  have q2 : sIx items.size items.size hi - sIx items.size 0 lo = items.size := eq_of_beq q.2
  exact hw ⟨by omega, by omega⟩
 show wpAny _ _ (if (((sIx items.size 0 lo : Nat) : Int) == 0 && (1 : Int) == 1 && (sIx items.size items.size hi - sIx items.size 0 lo) == items.size) = true then _ else _) _ _ s
 rw [if_neg hno, p0]
 first
  | exact wB (m := Builtin.Tuple.tupleExact _) (wpAny_newObj_type (wpAny_pure ⟨_, rfl, wpAny_pure h⟩) htake)
  | exact wB (m := Builtin.Tuple.tupleExact _) (wpAny_newObj_type (wB (wpAny_pure (wpAny_pure ⟨_, rfl, wpAny_pure h⟩))) htake)
  | exact wB (wB (m := Builtin.Tuple.tupleExact _) (wpAny_newObj_type (wpAny_pure (wpAny_pure ⟨_, rfl, wpAny_pure h⟩)) htake))
  | exact wB (wB (m := Builtin.Tuple.tupleExact _) (wpAny_newObj_type (wpAny_pure ⟨_, rfl, wpAny_pure h⟩) htake))
end
end HT
namespace L2
open PySem PySem.Spec PyProof.Rows
abbrev TO := St -> Hp -> (Option Int -> Hp -> Prop) -> Prop
noncomputable def PO (X : Cx) (e : Option Expr) (t : TO) : Prop :=
 ∀ (pins : List (Addr × Obj)) (s : Shared) (σ : St) (H : Hp) (Q : Option Int -> Hp -> Prop), Inv X pins σ H s -> t σ H Q →
  wpAny (model X.prog X.w) X.A (evalPart e X.env) (fun u s' => ∃ o H', Inv X pins σ H' s' /\ IsPart u o /\ Q o H') X.xe s
def sj : TO := fun _ H Q => Q none H
def xz (t : TE) : TO := fun σ H Q => t σ H fun x H1 => ∃ i, x = .int i /\ Q (some i) H1
section
variable {X : Cx} {e : Expr} {te : TE} {lo hi : Option Expr} {tl th : TO} {pos p2 : Pos}
def sk : PO X none sj := by
 intro pins s σ H Q I h
 rw [evalPart_none]
 exact wpAny_pure ⟨none, H, I, .none, h⟩
def sm (h : PE X e te) : PO X (some e) (xz te) := by
 intro pins s σ H Q I hw
 rw [evalPart_some]
 refine thn (h pins s σ H _ I hw) fun u s1 ⟨x, H1, I1, r1, q1⟩ => ?_
 obtain ⟨i, rfl, q⟩ := q1
 obtain ⟨t, rfl⟩ := r1
 exact ⟨some i, H1, I1, .int i t, q⟩
noncomputable def SlR (X : Cx) (r : V -> Option Int -> Option Int -> Hp -> VK -> Prop) : Prop :=
 ∀ (pins : List (Addr × Obj)) (s : Shared) (σ : St) (H : Hp) (x : V) (v vl vu : Value) (lo hi : Option Int) (sl : Addr) (Q : VK), Inv X pins σ H s -> RelV x v -> s.heap.IsSliceOf sl vl vu .none -> IsPart vl lo -> IsPart vu hi -> r x lo hi H Q →
  ∃ T id, typeLookup (.type T) "__getitem__" = pure (some (.builtin id)) /\ s.TypeIs v T /\ wpAny (model X.prog X.w) X.A (getItem v (.ref sl)) (EP X pins σ Q) X.xe s
def SlR.or {r r' : V -> Option Int -> Option Int -> Hp -> VK -> Prop} (h : SlR X r) (h' : SlR X r') : SlR X (fun x lo hi H Q => r x lo hi H Q ∨ r' x lo hi H Q) := by
 intro pins s σ H x v vl vu lo hi sl Q I rx hs pl pu q
 rcases q with q | q
 · exact h pins s σ H x v vl vu lo hi sl Q I rx hs pl pu q
 · exact h' pins s σ H x v vl vu lo hi sl Q I rx hs pl pu q
def tSl (r : V -> Option Int -> Option Int -> Hp -> VK -> Prop) (te : TE) (tl th : TO) : TE := fun σ H Q => te σ H fun x H1 => tl σ H1 fun l H2 => th σ H2 fun u H3 => r x l u H3 Q
def p4 {r : V -> Option Int -> Option Int -> Hp -> VK -> Prop} (hr : SlR X r) (he : PE X e te) (hl : PO X lo tl) (hu : PO X hi th) : PE X (.Subscript e (.Slice lo hi none p2) pos) (tSl r te tl th) := by
 intro pins s σ H Q I h
 refine Subscript_ (thn (he pins s σ H _ I h) fun v s1 ⟨x, H1, I1, r1, q1⟩ => ?_)
 refine wpAny_Slice (thn (hl pins s1 σ H1 _ I1 q1) fun vl s2 ⟨l, H2, I2, pl, q2⟩ => thn (hu pins s2 σ H2 _ I2 q2) fun vu s3 ⟨u, H3, I3, pu, q3⟩ => ?_)
 rw [evalPart_none]
 refine wpAny_pure ?_
 have I4 : Inv X pins σ H3 { s3 with heap := s3.heap.push { cls := .type "slice", data := .fields #[vl, vu, .none] } } := I3.kept (t' := s3.toks) fun b ob q => gP _ q
 obtain ⟨T, id, hT, ht, hg⟩ := hr pins { s3 with heap := s3.heap.push { cls := .type "slice", data := .fields #[vl, vu, .none] } } σ H3 x v vl vu l u s3.heap.objs.size Q I4 r1 (Heap.IsSliceOf.new ..) pl pu q3
 show wpAny (model X.prog X.w) X.A (subscriptTail e (.Slice lo hi none p2) v (.ref s3.heap.objs.size)) (EP X pins σ Q) X.xe { s3 with heap := s3.heap.push { cls := .type "slice", data := .fields #[vl, vu, .none] } }
 exact tail_any (ops := [.ref s3.heap.objs.size, v]) ht hT hg (by with_unfolding_all rfl)
def lc (xs : List V) (lo hi : Option Int) : List V := (xs.drop (HT.sIx xs.length 0 lo)).take (HT.sIx xs.length xs.length hi - HT.sIx xs.length 0 lo)
def hV (xs : List V) (lo hi : Option Int) : (lc xs lo hi).length <= xs.length := by
 unfold lc
 rw [List.length_take, List.length_drop]
 omega
noncomputable def rSlT (K : PySem.W.Frag) : V -> Option Int -> Option Int -> Hp -> VK -> Prop := fun x lo hi H Q => ∃ a xs, x = .ref a /\ SqT K H a xs ∧
 ¬ (HT.sIx xs.length 0 lo = 0 /\ HT.sIx xs.length xs.length hi = xs.length) /\ ∀ p, H p = none -> Q (.ref p) (upd H p (.tup (lc xs lo hi)))
def vJ : SlR X (rSlT X.K) := by
 intro pins s σ H x v vl vu lo hi sl Q I rx hs pl pu h
 obtain ⟨a, xs, rfl, hx, hw, q⟩ := h
 cases rx
 obtain ⟨its, r, ht, hz⟩ := I.tuple hx
 have hlen : its.toArray.size = xs.length := by rw [List.size_toArray]; exact r.length.symm
 refine ⟨"tuple", _, PyProof.Rows.slot_tuple_getitem.lookup, ht.typeIs, ?_⟩
 refine HT.nv ht hs pl pu (by rw [hlen]; exact hw) ?_ (by rw [hlen]; exact hz)
 rw [hlen]
 refine ⟨.ref s.heap.objs.size, _, I.laid (t' := s.toks) (o := .tup (lc xs lo hi)) (fun b ob q => gP _ q) (nL _) ?_, rfl, q _ (I.hok.fresh (nL _))⟩
 exact ⟨Nat.le_trans (hV xs lo hi) hz, _, (r.drop (HT.sIx xs.length 0 lo)).take (HT.sIx xs.length xs.length hi - HT.sIx xs.length 0 lo), IsTup.new _ _⟩
noncomputable def uv (K : PySem.W.Frag) : R2 := fun x y H Q => ∃ a b xs ys, x = .ref a /\ y = .ref b /\ SqT K H a xs /\ SqT K H b ys /\ xs ≠ [] /\ xs.length + ys.length <= sizeLine ∧
 (ys = [] -> Q (.ref a) H) /\ (ys ≠ [] -> ∀ p, H p = none -> Q (.ref p) (upd H p (.tup (xs ++ ys))))
def Vals.nil_iff {xs : List V} {us : List Value} (r : Vals xs us) : us = [] ↔ xs = [] := by
 cases r with
 | nil => simp
 | cons _ _ => simp
def sn : OpR X (binaryOp .Add) (uv X.K) := by
 intro pins s σ H x y v u Q I rx ry h
 obtain ⟨a, b, xs, ys, rfl, rfl, ha, hb, hx, hz, q1, q2⟩ := h
 cases rx
 cases ry
 obtain ⟨its, r1, p1, _⟩ := I.tuple ha
 obtain ⟨its2, r2, p2, _⟩ := I.tuple hb
 refine HT.x0 p1 p2 (fun z => hx (r1.nil_iff.mp z)) (fun z => ⟨.ref a, H, I, rfl, q1 (r2.nil_iff.mp z)⟩) (fun z => ?_) (by rw [<- r1.length, <- r2.length]; exact hz)
 refine ⟨.ref s.heap.objs.size, _, I.laid (t' := s.toks) (o := .tup (xs ++ ys)) (fun b ob q => gP _ q) (nL _) ?_, rfl, q2 (fun w => z (r2.nil_iff.mpr w)) _ (I.hok.fresh (nL _))⟩
 exact ⟨by rw [List.length_append]; exact hz, _, r1.append r2, IsTup.new _ _⟩
end
def ixN (n : Nat) (i : Int) : Option Nat := if 0 <= i then (if i < n then some i.toNat else none) else if -(n : Int) <= i then some (i + n).toNat else none
def atI {α : Type} (xs : List α) (i : Int) : Option α := (ixN xs.length i).bind fun j => xs[j]?
def ny {n : Nat} {i : Int} {j : Nat} (h : ixN n i = some j) : seqIndex? i n = some j /\ j < n /\ -(n : Int) <= i /\ i < n := by
 unfold ixN at h
 by_cases h0 : 0 <= i
 · rw [if_pos h0] at h
   by_cases h1 : i < n
   · rw [if_pos h1] at h
     have e : i.toNat = j := Option.some.inj h
     exact ⟨by rw [seqIndex_of h0 h1, e], by omega, by omega, h1⟩
   · rw [if_neg h1] at h; cases h
 · rw [if_neg h0] at h
   by_cases h1 : -(n : Int) <= i
   · rw [if_pos h1] at h
     have e : (i + n).toNat = j := Option.some.inj h
     exact ⟨by rw [seqIndex_neg (by omega) h1, e], by omega, h1, by omega⟩
   · rw [if_neg h1] at h; cases h
def j1 {α : Type} {xs : List α} {i : Int} {v : α} (h : atI xs i = some v) : ∃ j, seqIndex? i xs.length = some j /\ xs[j]? = some v /\ j < xs.length /\ -(xs.length : Int) <= i /\ i < xs.length := by
 unfold atI at h
 cases e : ixN xs.length i with
 | none => rw [e] at h; cases h
 | some j =>
  rw [e] at h
  obtain ⟨h1, h2, h3, h4⟩ := ny e
  exact ⟨j, h1, h, h2, h3, h4⟩
def so {α : Type} {xs : List α} {j : Nat} {v : α} (h : xs[j]? = some v) : atI xs (j : Int) = some v := by
 have hj : j < xs.length := (gX h).1
 have e : ixN xs.length (j : Int) = some j := by
  unfold ixN
  rw [if_pos (by omega), if_pos (by omega)]; simp
 unfold atI; rw [e]; exact h
def j2 (b : Expr) : Prop := ∀ o i, subscripted b false o i = operate [o, i] (getItem o i)
noncomputable def IxR (X : Cx) (r : R2) : Prop :=
 ∀ (value slice : Expr) (pins : List (Addr × Obj)) (s : Shared) (σ : St) (H : Hp) (x y : V) (v u : Value) (Q : VK), Inv X pins σ H s -> RelV x v -> RelV y u -> r x y H Q →
  subscripted slice false v u = operate [v, u] (getItem v u) -> wpAny (model X.prog X.w) X.A (subscriptTail value slice v u) (EP X pins σ Q) X.xe s
noncomputable def MtR (X : Cx) (id : String) (r : V -> List V -> Hp -> VK -> Prop) : Prop :=
 ∀ (pins : List (Addr × Obj)) (s : Shared) (σ : St) (H : Hp) (x : V) (xs : List V) (v : Value) (us : List Value) (Q : VK), Inv X pins σ H s -> RelV x v -> Vals xs us -> r x xs H Q →
  wpAny (model X.prog X.w) X.A (call (.builtin id) (v :: us)) (EP X pins σ Q) X.xe s
section
variable {X : Cx} {a b : Expr} {ta tb : TE} {pos : Pos}
def IxR.or {r r' : R2} (h : IxR X r) (h' : IxR X r') : IxR X (fun x y H Q => r x y H Q ∨ r' x y H Q) := by
 intro value slice pins s σ H x y v u Q I rx ry q hs
 rcases q with q | q
 · exact h value slice pins s σ H x y v u Q I rx ry q hs
 · exact h' value slice pins s σ H x y v u Q I rx ry q hs
def uw {r : R2} (hr : IxR X r) (ha : PE X a ta) (hb : PE X b tb) (hs : j2 b) : PE X (.Subscript a b pos) (tOp r ta tb) := by
 intro pins s σ H Q I h
 exact Subscript_ (vn ha hb I h fun v u s2 x y H2 I2 rx ry q => hr a b pins s2 σ H2 x y v u Q I2 rx ry q (hs _ _))
def rIxL (K : PySem.W.Frag) : R2 := fun x y H Q => ∃ p xs i v, x = .ref p /\ y = .int i /\ SqL K H p xs /\ atI xs i = some v /\ Q v H
def rIxT (K : PySem.W.Frag) : R2 := fun x y H Q => ∃ p xs i v, x = .ref p /\ y = .int i /\ SqT K H p xs /\ atI xs i = some v /\ Q v H
def rIxS : R2 := fun x y H Q => ∃ z i c, x = .str z /\ y = .int i /\ z.length <= sizeLine /\ atI z.cps.toList i = some c /\ Q (.str ⟨#[c]⟩) H
def ix_list : IxR X (rIxL X.K) := by
 intro value slice pins s σ H x y v u Q I rx ry h hs
 obtain ⟨p, xs, i, z, rfl, rfl, hq, he, q⟩ := h
 cases rx
 obtain ⟨t, rfl⟩ := ry
 obtain ⟨its, r, pl, hz⟩ := I.list hq
 obtain ⟨j, h1, h2, h3, h4, h5⟩ := j1 he
 obtain ⟨w, ew, rw'⟩ := r.get h2
 have hl := r.length
 have hn := gH
 have fin : EP X pins σ Q w s := ⟨z, H, I, rw', q⟩
 by_cases h0 : 0 <= i
 · have hj : i.toNat = j := by
    rw [seqIndex_of h0 h5] at h1
    exact Option.some.inj h1
   exact item_listR pl.isList h0 (by omega) (by rw [hj]; simpa using ew) fin hs
 · have hj : (i + (its.toArray.size : Int)).toNat = j := by
    rw [seqIndex_neg (by omega) h4] at h1
    rw [List.size_toArray, <- hl]
    exact Option.some.inj h1
   exact subscriptTail_builtinR (x := w) pl.isList.typeIs slot_list_getitem.lookup
    (wpAny_getItem_list_neg (Q := fun r s' => r = w /\ EP X pins σ Q r s') pl.isList (by omega) (by rw [List.size_toArray] <;> omega) (by omega) (by rw [hj]; simpa using ew) ⟨rfl, fin⟩) hs
def ix_tup : IxR X (rIxT X.K) := by
 intro value slice pins s σ H x y v u Q I rx ry h hs
 obtain ⟨p, xs, i, z, rfl, rfl, hq, he, q⟩ := h
 cases rx
 obtain ⟨t, rfl⟩ := ry
 obtain ⟨its, r, pl, hz⟩ := I.tuple hq
 obtain ⟨j, h1, h2, h3, h4, h5⟩ := j1 he
 obtain ⟨w, ew, rw'⟩ := r.get h2
 have hl := r.length
 have hn := gH
 have fin : EP X pins σ Q w s := ⟨z, H, I, rw', q⟩
 exact subscriptTail_builtinR (x := w) pl.typeIs slot_tuple_getitem.lookup
  (getItem_tuple (j := j) (Q := fun r s' => r = w /\ EP X pins σ Q r s') pl (by omega) (by omega) (by rw [List.size_toArray, <- hl]; exact h1) (by simpa using ew) ⟨rfl, fin⟩) hs
def vK : IxR X rIxS := by
 intro value slice pins s σ H x y v u Q I rx ry h hs
 obtain ⟨z, i, c, rfl, rfl, hz, he, q⟩ := h
 obtain ⟨t, rfl⟩ := rx
 obtain ⟨t', rfl⟩ := ry
 obtain ⟨j, h1, h2, h3, h4, h5⟩ := j1 he
 have hl : z.cps.toList.length = z.length := by simp [Str.length]
 rw [hl] at h1 h4 h5
 have hn := gH
 exact tail_any (typeIs_str s z t) slot_str_getitem.lookup (getItem_str (c := c) (by
  have e1 : decide (i < -(2 ^ 63 : Int)) = false := decide_eq_false (by omega)
  have e2 : decide (i ≥ 2 ^ 63) = false := decide_eq_false (by omega)
  rw [e1, e2, Bool.or_false]) (by rw [h1]; simpa using h2) ⟨.str ⟨#[c]⟩, H, I.tok _, ⟨_, rfl⟩, q⟩) hs
def rIx (K : PySem.W.Frag) : R2 := fun x y H Q => rIxL K x y H Q ∨ rIxT K x y H Q ∨ rIxS x y H Q
def p5 : IxR X (rIx X.K) := ix_list.or (ix_tup.or vK)
def mw (its : List Value) (n j : Nat) (u : Value) : Obj.mapSeq (·.setIfInBounds j u) { cls := .type "list", data := .seq its.toArray n } = { cls := .type "list", data := .seq (its.set j u).toArray n } := by
 simp [Obj.mapSeq]
def Inv.lst {pins : List (Addr × Obj)} {σ : St} {H : Hp} {s : Shared} {p : Addr} {xs : List V} (I : Inv X pins σ H s) (h : H p = some (.lst xs)) :
  ∃ (its : List Value) (n : Nat), Vals xs its /\ s.heap.get? p = some { cls := .type "list", data := .seq its.toArray n } /\ xs.length <= sizeLine := by
 obtain ⟨z, its, n, r, e⟩ := I.hok p _ h
 exact ⟨its, n, r, e, z⟩
def Inv.lstUpd {pins : List (Addr × Obj)} {σ : St} {H : Hp} {s : Shared} {p : Addr} {xs ys : List V} {its its' : List Value} {n n' : Nat} {f : Obj -> Obj} (I : Inv X pins σ H s) (h : H p = some (.lst xs))
  (ho : s.heap.get? p = some { cls := .type "list", data := .seq its.toArray n }) (hf : f { cls := .type "list", data := .seq its.toArray n } = { cls := .type "list", data := .seq its'.toArray n' }) (r : Vals ys its') (hz : ys.length <= sizeLine) (t : Nat) :
  Inv X pins σ (upd H p (.lst ys)) { s with heap := s.heap.update p f, toks := t } := by
 have e : (s.heap.update p f).get? p = some { cls := .type "list", data := .seq its'.toArray n' } := by
  rw [Heap.get?_update_self f ho (by rw [hf] <;> rfl), hf]
 refine I.write (x := p) (e := p) (by rw [h]; trivial) (.inl rfl) (fun b u hb q => (Heap.get?_update_other _ _ (Ne.symm hb)).trans q) ⟨_, e⟩ ?_
 exact ⟨hz, its', n', r, e⟩
def xA : V -> V -> V -> Hp -> (Hp -> Prop) -> Prop := fun o i v H Q => ∃ p xs k j, o = .ref p /\ i = .int k /\ H p = some (.lst xs) /\ ixN xs.length k = some j /\ Q (upd H p (.lst (xs.set j v)))
def p6 : PSet X xA := by
 intro pins s σ H o i v ov iv u Q I ro ri rv h
 obtain ⟨p, xs, k, j, rfl, rfl, hp, hj, q⟩ := h
 cases ro
 obtain ⟨t, rfl⟩ := ri
 obtain ⟨its, n, r, ho, hz⟩ := I.lst hp
 obtain ⟨h1, h2, h3, h4⟩ := ny hj
 have hl := r.length
 have hn := gH
 have I' : Inv X pins σ (upd H p (.lst (xs.set j v))) { s with heap := s.heap.update p (Obj.mapSeq (·.setIfInBounds j u)) } :=
  I.lstUpd hp ho (mw its n j u) (r.set rv j) (by rw [List.length_set]; exact hz) s.toks
 by_cases h0 : 0 <= k
 · have hk : k.toNat = j := by
    rw [seqIndex_of h0 h4] at h1
    exact Option.some.inj h1
   exact PySem.W.ki_setAt ho h0 (by omega) (by rw [List.size_toArray, <- hl]; exact h4) (by rw [hk]; exact ⟨_, I', q⟩)
 · have hk : (k + (its.toArray.size : Int)).toNat = j := by
    rw [seqIndex_neg (by omega) h3] at h1
    rw [List.size_toArray, <- hl]
    exact Option.some.inj h1
   exact PySem.W.ki_setBack ho (by omega) (by rw [List.size_toArray, <- hl]; exact h3) (by omega) (by rw [hk]; exact ⟨_, I', q⟩)
def j3 (lo hi : Option Int) (n : Nat) : (sliceBounds lo hi none n).1 = ((HT.sIx n 0 lo : Nat) : Int) /\ (sliceBounds lo hi none n).2.1 = ((HT.sIx n n hi : Nat) : Int) /\ (sliceBounds lo hi none n).2.2 = 1 := by
 refine ⟨?_, ?_, rfl⟩
 · cases lo with
   | none => simp [sliceBounds, HT.sIx]
   | some i =>
    simp only [sliceBounds, HT.sIx, Option.getD_none, show (1 : Int) > 0 by decide, if_true]
    by_cases h : i < 0
    · simp only [h, if_true] <;> omega
    · simp only [h, if_false] <;> omega
 · cases hi with
   | none => simp [sliceBounds, HT.sIx]
   | some i =>
    simp only [sliceBounds, HT.sIx, Option.getD_none, show (1 : Int) > 0 by decide, if_true]
    by_cases h : i < 0
    · simp only [h, if_true] <;> omega
    · simp only [h, if_false] <;> omega
def jm (its : List Value) (lo hi : Option Int) : slicePick its.toArray lo hi none = ((its.drop (HT.sIx its.length 0 lo)).take (HT.sIx its.length its.length hi - HT.sIx its.length 0 lo)).toArray := by
 obtain ⟨h1, h2, h3⟩ := j3 lo hi its.toArray.size
 unfold slicePick
 rw [h1, h2, h3]
 simp only [sliceRange_one, pick_run, List.size_toArray] <;> rfl
def rSlL (K : PySem.W.Frag) : V -> Option Int -> Option Int -> Hp -> VK -> Prop := fun x lo hi H Q => ∃ a xs, x = .ref a /\ SqL K H a xs /\ ∀ p, H p = none -> Q (.ref p) (upd H p (.lst (lc xs lo hi)))
def sr : SlR X (rSlL X.K) := by
 intro pins s σ H x v vl vu lo hi sl Q I rx hs pl pu h
 obtain ⟨a, xs, rfl, hx, q⟩ := h
 cases rx
 obtain ⟨its, r, ht, hz⟩ := I.list hx
 have hlen := r.length
 refine ⟨"list", _, slot_list_getitem.lookup, ht.isList.typeIs, ?_⟩
 refine wpAny_getItem_list_slice ht.isList hs pl pu .none (by simp) ?_ (by rw [List.size_toArray] <;> omega)
 rw [jm, <- hlen]
 refine ⟨.ref s.heap.objs.size, _, I.laid (t' := s.toks) (o := .lst (lc xs lo hi)) (fun b ob q => gP _ q) (nL _) ?_, rfl, q _ (I.hok.fresh (nL _))⟩
 exact ⟨Nat.le_trans (hV xs lo hi) hz, _, 0, (r.drop (HT.sIx xs.length 0 lo)).take (HT.sIx xs.length xs.length hi - HT.sIx xs.length 0 lo), Heap.get?_push_size _ rfl⟩
def ux : V -> Bool
 | .non => true
 | .bl _ => true
 | .int _ => true
 | .str _ => true
 | _ => false
def eqV : V -> V -> Bool
 | .non, .non => true
 | .bl a, .bl b => a == b
 | .bl a, .int b => (if a then 1 else 0) == b
 | .int a, .bl b => a == (if b then 1 else 0)
 | .int a, .int b => a == b
 | .str a, .str b => a == b
 | _, _ => false
def iK {A : Around} {s : Shared} {y x : V} {u v : Value} (ry : RelV y u) (rx : RelV x v) (fy : ux y = true) (fx : ux x = true) : SeqAt.EqAt A s u v (eqV y x) := by
 cases y with
 | non =>
  cases ry
  cases x with
  | non => cases rx; exact SeqAt.EqAt.same _
  | bl b => cases rx; exact SeqAt.EqAt.none_bool b
  | int b => obtain ⟨t, rfl⟩ := rx; exact SeqAt.EqAt.none_int b t
  | str b => obtain ⟨t, rfl⟩ := rx; exact SeqAt.EqAt.none_str b t
  | _ => exact absurd (show false = true from fx) Bool.false_ne_true
 | bl a =>
  cases ry
  cases x with
  | non => cases rx; exact SeqAt.EqAt.bool_none a
  | bl b => cases rx; exact SeqAt.EqAt.bool_bool a b
  | int b => obtain ⟨t, rfl⟩ := rx; exact SeqAt.EqAt.bool_int a b t
  | str b => obtain ⟨t, rfl⟩ := rx; exact SeqAt.EqAt.bool_str a b t
  | _ => exact absurd (show false = true from fx) Bool.false_ne_true
 | int a =>
  obtain ⟨t', rfl⟩ := ry
  cases x with
  | non => cases rx; exact SeqAt.EqAt.int_none a t'
  | bl b => cases rx; exact SeqAt.EqAt.int_bool a t' b
  | int b => obtain ⟨t, rfl⟩ := rx; exact SeqAt.EqAt.int_int a t' b t
  | str b => obtain ⟨t, rfl⟩ := rx; exact SeqAt.EqAt.int_str a t' b t
  | _ => exact absurd (show false = true from fx) Bool.false_ne_true
 | str a =>
  obtain ⟨t', rfl⟩ := ry
  cases x with
  | non => cases rx; exact SeqAt.EqAt.str_none a t'
  | bl b => cases rx; exact SeqAt.EqAt.str_bool a t' b
  | int b => obtain ⟨t, rfl⟩ := rx; exact SeqAt.EqAt.str_int a t' b t
  | str b => obtain ⟨t, rfl⟩ := rx; exact SeqAt.EqAt.str_str a t' b t
  | _ => exact absurd (show false = true from fx) Bool.false_ne_true
 | _ => exact absurd (show false = true from fy) Bool.false_ne_true
def cm : cX X (.type "list") (fun xs H Q => ∃ p ys, xs = [.ref p] /\ (SqL X.K H p ys ∨ SqT X.K H p ys) /\ ∀ l, H l = none -> Q (.ref l) (upd H l (.lst ys))) := by
 intro pins s σ H xs us Q I r h
 obtain ⟨p, ys, rfl, hq, q⟩ := h
 obtain ⟨u, rfl, rx⟩ := la r
 cases rx
 have fin : ∀ (its : List Value), Vals ys its -> ys.length <= sizeLine -> ∀ (h' : Heap) (c' : Nat), (∀ b o', s.heap.get? b = some o' -> h'.get? b = some o') →
     h'.get? s.heap.objs.size = some { cls := .type "list", dict := none, data := .seq its.toArray c', slots := #[] } -> EP X pins σ Q (.ref s.heap.objs.size) { s with heap := h' } := fun its r' hz h' c' kp e =>
  ⟨.ref s.heap.objs.size, _, I.laid (t' := s.toks) kp (nL _) (show ObjOk X.prog X.w _ h' _ (.lst ys) from ⟨hz, its, c', r', e⟩), rfl, q _ (I.hok.fresh (nL _))⟩
 rcases hq with hq | hq
 · obtain ⟨its, r', pl, hz⟩ := I.list hq
   have hlen := r'.length
   obtain ⟨o, ho, hc, n, hd⟩ := pl.isList
   exact call_list_seq p (.inl rfl) ho hc hd (fun h' c' kp e => fin its r' hz h' c' kp e) (by simp only [List.size_toArray] <;> omega)
 · obtain ⟨its, r', pl, hz⟩ := I.tuple hq
   have hlen := r'.length
   obtain ⟨o, ho, hc, n, hd⟩ := pl
   exact call_list_seq p (.inr rfl) ho hc hd (fun h' c' kp e => fin its r' hz h' c' kp e) (by simp only [List.size_toArray] <;> omega)
def dy : cX X (.type "tuple") (fun xs H Q => ∃ p ys, xs = [.ref p] /\ ((SqL X.K H p ys /\ ∀ l, H l = none -> Q (.ref l) (upd H l (.tup ys))) ∨ (SqT X.K H p ys /\ Q (.ref p) H))) := by
 intro pins s σ H xs us Q I r h
 obtain ⟨p, ys, rfl, h⟩ := h
 obtain ⟨u, rfl, rx⟩ := la r
 cases rx
 rcases h with ⟨hq, q⟩ | ⟨hq, q⟩
 · obtain ⟨its, r', pl, hz⟩ := I.list hq
   have hlen := r'.length
   refine call_tuple_list pl.isList (fun h' kp => ?_) (by simp only [List.size_toArray] <;> omega)
   have I1 : Inv X pins σ H { s with heap := h' } := I.kept (t' := s.toks) kp
   have I2 : Inv X pins σ (upd H h'.objs.size (.tup ys)) { s with heap := h'.push { cls := .type "tuple", data := .seq its.toArray } } :=
    I1.laid (t' := s.toks) (fun b o e => gP _ e) (nL _) (show ObjOk X.prog X.w _ _ _ (.tup ys) from ⟨hz, its, r', IsTup.new _ _⟩)
   exact ⟨.ref h'.objs.size, _, I2, rfl, q _ (I1.hok.fresh (nL _))⟩
 · obtain ⟨its, r', pl, hz⟩ := I.tuple hq
   exact call_tuple_same pl ⟨.ref p, H, I, rfl, q⟩
noncomputable def tyV (K : PySem.W.Frag) (T : String) (x : V) (H : Hp) : Prop := match x with
 | .str _ => T = "str"
 | .int _ => T = "int"
 | .ref p => (T = "list" /\ ∃ xs, SqL K H p xs) ∨ (T = "tuple" /\ ∃ o, K.lookup p = some o /\ o.cls = .type "tuple" /\ o.dict = none) ∨
     (T = "dict" /\ ((∃ kvs, H p = some (.dK kvs)) ∨ ∃ kvs, H p = some (.dT kvs))) ∨ (T = "set" /\ ∃ S n, H p = some (.set S n))
 | _ => False
def p7 {pins : List (Addr × Obj)} {σ : St} {H : Hp} {s : Shared} {T : String} {x : V} {v : Value} (I : Inv X pins σ H s) (r : RelV x v) (ty : tyV X.K T x H) :
  s.TypeIs v T /\ ∀ a, v = .ref a -> ∃ ob, s.heap.get? a = some ob /\ ob.dict = none := by
 cases x with
 | str z =>
  obtain ⟨t, rfl⟩ := r
  cases (show T = "str" from ty)
  exact ⟨typeIs_str s z t, fun _ e => nomatch e⟩
 | int i =>
  obtain ⟨t, rfl⟩ := r
  cases (show T = "int" from ty)
  exact ⟨typeIs_int s i t, fun _ e => nomatch e⟩
 | ref p =>
  cases r
  rcases ty with ⟨rfl, xs, hq⟩ | ⟨rfl, o, hk, hc, hd⟩ | ⟨rfl, hk⟩ | ⟨rfl, S, n, hk⟩
  · obtain ⟨its, _, pl, _⟩ := I.list hq
    refine ⟨pl.isList.typeIs, fun a e => ?_⟩
    cases e
    obtain ⟨o, n, e, c, hd, _⟩ := pl
    exact ⟨o, e, hd⟩
  · refine ⟨⟨o, I.kIn p o hk, hc⟩, fun a e => ?_⟩
    cases e
    exact ⟨o, I.kIn _ o hk, hd⟩
  · have z : ∃ o, s.heap.get? p = some o /\ o.ExactDict := by
     rcases hk with ⟨kvs, hk⟩ | ⟨kvs, hk⟩
     · obtain ⟨_, _, _, _, o, _, _, e, ex, _⟩ := I.hok p _ hk
       exact ⟨o, e, ex⟩
     · obtain ⟨_, _, _, _, o, _, _, e, ex, _⟩ := I.hok p _ hk
       exact ⟨o, e, ex⟩
    obtain ⟨o, e, ex⟩ := z
    refine ⟨⟨o, e, ex.1⟩, fun a e2 => ?_⟩
    cases e2
    exact ⟨o, e, ex.2.1⟩
  · obtain ⟨o, _, _, _, e, ex, _⟩ := I.hok p _ hk
    refine ⟨⟨o, e, ex.1⟩, fun a e2 => ?_⟩
    cases e2
    exact ⟨o, e, ex.2.1⟩
 | _ => exact False.elim ty
def tBM0 (K : PySem.W.Frag) (T : String) (r : V -> List V -> Hp -> VK -> Prop) (to : TE) : TE := fun σ H Q => to σ H fun x H1 => tyV K T x H1 /\ r x [] H1 Q
def tBM (K : PySem.W.Frag) (T : String) (r : V -> List V -> Hp -> VK -> Prop) (to : TE) (t : TA) : TE := fun σ H Q => to σ H fun x H1 => tyV K T x H1 /\ t σ H1 fun xs H2 => r x xs H2 Q
variable {o e : Expr} {es : List Expr} {to : TE} {t : TA} {name : Str} {apos cpos : Pos} {T id : String} {r : V -> List V -> Hp -> VK -> Prop}
def vM (pa : PlainAttrs T) (slot : Slot T name id) (hty : typeOf (.builtin id) = pure (.type "method_descriptor")) (hm : MtR X id r) (ho : PE X o to)
  (hbase : attributeBase o name X.env (eval o X.env) = eval o X.env := by rfl) (hline : (apos.endLine == cpos.line) = true := by rfl) : PE X (.Call (.Attribute o name apos) [] [] cpos) (tBM0 X.K T r to) := by
 intro pins s σ H Q I h
 refine wpAny_Call_method0_late hbase hline (thn (ho pins s σ H _ I h) fun v s1 ⟨x, H1, I1, r1, ty, q1⟩ => ?_)
 obtain ⟨h1, h2⟩ := p7 I1 r1 ty
 exact ⟨T, id, pa, slot, hty, h1, h2, Calls.callWith_builtin rfl (PySem.evalArgs_none (hm pins s1 σ H1 x [] v [] Q I1 r1 .nil q1))⟩
def p8 (pa : PlainAttrs T) (slot : Slot T name id) (hty : typeOf (.builtin id) = pure (.type "method_descriptor")) (hm : MtR X id r) (ho : PE X o to) (ha : PA X (e :: es) t)
  (hbase : attributeBase o name X.env (eval o X.env) = eval o X.env := by rfl)
  (hfew : ((backTo cpos (starEach (e :: es) X.env)).all (fun x => !x.1) && (backToKw cpos (keywordEach [] X.env)).all (fun x => x.1.isSome)
   && decide ((e :: es).length + ([] : List Keyword).length + (if ([] : List Keyword).isEmpty then 0 else 1) < 30)) = true := by rfl)
  (hline : (apos.endLine == cpos.line) = true := by rfl) (hs : starEach (e :: es) X.env = (false, eval e X.env) :: starEach es X.env := by rfl) (hplain : (backTo cpos (starEach es X.env)).any (·.1) = false := by rfl) :
  PE X (.Call (.Attribute o name apos) (e :: es) [] cpos) (tBM X.K T r to t) := by
 intro pins s σ H Q I h
 refine wpAny_Call_method_late hbase hfew hline rfl (thn (ho pins s σ H _ I h) fun v s1 ⟨x, H1, I1, r1, ty, q1⟩ => ?_)
 obtain ⟨h1, h2⟩ := p7 I1 r1 ty
 refine ⟨T, id, pa, slot, hty, h1, h2, ?_⟩
 have hA := ha cpos pins s1 σ H1 _ I1 q1
 rw [hs] at hA ⊢
 refine Calls.callWith_builtin (by show (false || (backTo cpos (starEach es X.env)).any (·.1)) = false; rw [hplain] <;> rfl) (Calls.evalArgs_plain ?_)
 exact thn hA fun us s2 ⟨vs, H2, I2, r2, q2⟩ => hm pins s2 σ H2 x vs v us Q I2 r1 r2 q2
/- xs.append(e), list.index on a module's tuple .. are MtR facts of 06m -/
end
noncomputable def MtM (X : Cx) (id : String) (r : V -> List V -> Hp -> VK -> Prop) : Prop :=
 ∀ (pins : List (Addr × Obj)) (s : Shared) (σ : St) (H : Hp) (x : V) (xs : List V) (v : Value) (us : List Value) (Q : VK), Inv X pins σ H s -> RelV x v -> Vals xs us -> r x xs H Q →
  wpAny (model X.prog X.w) X.A (call (.builtin id) (v :: us)) (EP X pins σ Q) X.xe s
def Vals.one : ∀ {x : V} {us : List Value}, Vals [x] us -> ∃ u, us = [u] /\ RelV x u
 | _, _, .cons r .nil => ⟨_, rfl, r⟩
def Vals.zero : ∀ {us : List Value}, Vals [] us -> us = []
 | _, .nil => rfl
def Vals.rep {xs : List V} {us : List Value} (h : Vals xs us) : ∀ k : Nat, Vals (List.replicate k xs).flatten (List.replicate k us).flatten
 | 0 => .nil
 | k + 1 => by
  rw [List.replicate_succ, List.replicate_succ, List.flatten_cons, List.flatten_cons]
  exact Vals.append h (Vals.rep h k)
def jx (its : List Value) : ∀ (k : Nat) (acc : List Value),
  List.foldl (fun x1 x2 => x1 ++ x2) acc.toArray (List.replicate k its.toArray) = (acc ++ (List.replicate k its).flatten).toArray
 | 0, acc => by simp
 | k + 1, acc => by
  have e : acc.toArray ++ its.toArray = (acc ++ its).toArray := by simp
  have e2 : (acc ++ its) ++ (List.replicate k its).flatten = acc ++ (List.replicate (k + 1) its).flatten := by
   rw [List.replicate_succ, List.flatten_cons, List.append_assoc]
  rw [<- e2, <- jx its k (acc ++ its), <- e, List.replicate_succ, List.foldl_cons]
section
variable {X : Cx} {pins : List (Addr × Obj)} {σ : St} {H : Hp} {s : Shared} {l b : Addr} {xs ys zs : List V}
def Inv.lset {its its' : List Value} {n : Nat} {f : Array Value -> Array Value} {t' : Nat} (I : Inv X pins σ H s) (hH : H l = some (.lst xs))
  (e : s.heap.get? l = some { cls := .type "list", data := .seq its.toArray n }) (hf : f its.toArray = its'.toArray) (hv : Vals ys its') (hz : ys.length <= sizeLine) :
  Inv X pins σ (upd H l (.lst ys)) { s with heap := s.heap.update l (Obj.mapSeq f), toks := t' } := by
 have q := PySem.IsL.update e f
 rw [hf] at q
 refine I.write (x := l) (e := l) (by rw [hH]; exact trivial) (.inl rfl) (fun b' u hb hu => (Heap.get?_update_other s.heap (Obj.mapSeq f) (Ne.symm hb)).trans hu) ⟨_, q⟩ ?_
 exact ⟨hz, its', _, hv, q⟩
def Inv.lnew {its : List Value} {t' : Nat} (I : Inv X pins σ H s) (hv : Vals ys its) (hz : ys.length <= sizeLine) :
  Inv X pins σ (upd H s.heap.objs.size (.lst ys)) { s with heap := s.heap.push { cls := .type "list", data := .seq its.toArray }, toks := t' } :=
 I.laid (fun _ _ q => gP _ q) (nL _) ⟨hz, its, 0, hv, Heap.get?_push_size _ rfl⟩
def Inv.fresh (I : Inv X pins σ H s) : H s.heap.objs.size = none := I.hok.fresh (nL _)
def Inv.lstM (I : Inv X pins σ H s) (hH : H l = some (.lst xs)) : xs.length <= sizeLine /\ ∃ (its : List Value) (n : Nat), Vals xs its /\ xs.length = its.length /\ s.heap.get? l = some { cls := .type "list", data := .seq its.toArray n } := by
 obtain ⟨z, its, n, r, e⟩ := I.hok l _ hH
 exact ⟨z, its, n, r, r.length, e⟩
def p9 {n : Nat} (h : n <= sizeLine) : Builtin.List.listTooLong n = false := by
 unfold Builtin.List.listTooLong
 exact decide_eq_false (by omega)
end
section
variable {X : Cx}
def su : V -> List V -> Hp -> VK -> Prop := fun x vs H Q => ∃ l xs y, x = .ref l /\ vs = [y] /\ H l = some (.lst xs) /\ xs.length < sizeLine /\ Q .non (upd H l (.lst (xs ++ [y])))
def fG : MtM X "list.append" su := by
 intro pins s σ H x vs v us Q I rx rv h
 obtain ⟨l, xs, y, rfl, rfl, hH, hz, q⟩ := h
 cases rx
 obtain ⟨u, rfl, ru⟩ := rv.one
 obtain ⟨z, its, n, r, hl, e⟩ := I.lstM hH
 refine call_meets F.slot_list_append ⟨_, e, rfl⟩ F.entry_list_append (F.args_list_append_2 _ _) (PySem.list_append l its.toArray n u (by rw [List.size_toArray]; omega)) ⟨e, ?_⟩
 refine ⟨.non, _, I.lset (its' := its ++ [u]) hH e (by simp) (r.append (.cons ru .nil)) ?_, rfl, q⟩
 rw [List.length_append, List.length_singleton]
 omega
def vN : V -> List V -> Hp -> VK -> Prop := fun x vs H Q => ∃ l xs, x = .ref l /\ vs = [] /\ H l = some (.lst xs) /\ Q .non (upd H l (.lst []))
def qa : MtM X "list.clear" vN := by
 intro pins s σ H x vs v us Q I rx rv h
 obtain ⟨l, xs, rfl, rfl, hH, q⟩ := h
 cases rx
 have hus := rv.zero
 subst hus
 obtain ⟨z, its, n, r, hl, e⟩ := I.lstM hH
 refine call_meets F.slot_list_clear ⟨_, e, rfl⟩ F.entry_list_clear (F.args_list_clear_1 _) (AutoSeq1.list_clear_list_0 l its.toArray n (by rw [List.size_toArray]; omega)) ⟨e, ?_⟩
 exact ⟨.non, _, I.lset (its' := []) (ys := []) hH e rfl .nil (Nat.zero_le _), rfl, q⟩
def rRep : R2 := fun x y H Q => ∃ l k xs, x = .ref l /\ y = .int k /\ H l = some (.lst xs) /\ -(2 ^ 63) <= k /\ k < 2 ^ 63 /\ xs.length * k.toNat <= sizeLine ∧
 ∀ p, H p = none -> Q (.ref p) (upd H p (.lst (List.replicate k.toNat xs).flatten))
def sv {α : Type} (xs : List α) (k : Nat) : (List.replicate k xs).flatten.length = k * xs.length := by
 induction k with
 | zero => simp
 | succ k ih => rw [List.replicate_succ, List.flatten_cons, List.length_append, ih, Nat.succ_mul, Nat.add_comm]
def vO : OpR X (binaryOp .Mult) rRep := by
 intro pins s σ H x y v u Q I rx ry h
 obtain ⟨l, k, xs, rfl, rfl, hH, h1, h2, hz, q⟩ := h
 cases rx
 obtain ⟨t, rfl⟩ := ry
 obtain ⟨z, its, n, r, hl, e⟩ := I.lstM hH
 have hlen : its.toArray.size * k.toNat <= sizeLine := by rw [List.size_toArray, <- hl]; exact hz
 have hcap : ¬ its.toArray.size * k.toNat > (2 ^ 63 - 1) / 8 := by
  have : (sizeLine : Nat) <= (2 ^ 63 - 1) / 8 := by decide
  omega
 have hfit : ¬ (!Builtin.List.listFitsIndex k) = true := by
  rw [fitsIndex_both h1 h2]
  exact Bool.false_ne_true
 have hlong : ¬ Builtin.List.listTooLong (its.toArray.size * k.toNat) = true := by
  rw [p9 hlen]
  exact Bool.false_ne_true
 have hnew : List.foldl (fun x1 x2 => x1 ++ x2) #[] (List.replicate (if its.toArray.isEmpty = true then 0 else k.toNat) its.toArray) = (List.replicate k.toNat its).flatten.toArray := by
  have f0 : ∀ m : Nat, List.foldl (fun x1 x2 => x1 ++ x2) #[] (List.replicate m its.toArray) = (List.replicate m its).flatten.toArray := fun m => by
   have := jx its m []
   rw [List.nil_append] at this
   exact this
  rw [f0]
  cases its with
  | nil => simp
  | cons a r' => rw [if_neg (by simp)]
 refine wpAny_binaryOp_repeat_ref (T := "list") (U := "int") (by decide) ⟨_, e, rfl⟩ (fun s' => typeIs_int s' k t) noFill_list_mul F.fills_int_mul F.slot_int_rmul repeat_list F.slot_int_index.lookup
  (call_meets F.slot_int_rmul (typeIs_int s k t) F.entry_int_rmul (F.args_int_rmul_2 _ _) (int___rmul___int_list k t l its.toArray n)
   ⟨e, rfl, ⟨_, e, rfl⟩, call_meets F.slot_list_mul ⟨_, e, rfl⟩ F.entry_list_mul (F.args_list_mul_2 _ _) (AutoListH.list___mul___list_int_3 l its.toArray n k t hfit hcap hlong) ⟨e, ?_⟩⟩)
 rw [hnew]
 exact ⟨.ref _, _, I.lnew (t' := s.toks) (r.rep k.toNat) (by rw [sv, Nat.mul_comm]; exact hz), rfl, q _ I.fresh⟩
end
section
variable {prog : Program} {w : World} {A : Around} {E : Value -> Shared -> Prop} {s : Shared}
end
section
variable {X : Cx}
end
section
variable {κ : Type} [DecidableEq κ]
def dE (kvs : List (κ × V)) (k : κ) : Option V := (kvs.find? fun kv => decide (kv.1 = k)).map (·.2)
def cp (kvs : List (κ × V)) (k : κ) (v : V) : List (κ × V) :=
 if (kvs.any fun kv => decide (kv.1 = k)) = true then kvs.map (fun kv => if kv.1 = k then (kv.1, v) else kv) else kvs ++ [(k, v)]
def d9 {p : κ × V} {r : List (κ × V)} {k : κ} (e : p.1 = k) : dE (p :: r) k = some p.2 := by simp [dE, List.find?_cons, e]
def ef {p : κ × V} {r : List (κ × V)} {k : κ} (e : ¬ p.1 = k) : dE (p :: r) k = dE r k := by simp [dE, List.find?_cons, e]
def gi (k : κ) : ∀ kvs : List (κ × V), (kvs.any fun kv => decide (kv.1 = k)) = (dE kvs k).isSome
 | [] => rfl
 | p :: r => by
  rw [List.any_cons]
  by_cases e : p.1 = k
  · simp only [d9 e, decide_eq_true e, Bool.true_or, Option.isSome_some]
  · rw [ef e, decide_eq_false e, Bool.false_or]; exact gi k r
def dn (kvs : List (κ × V)) (k : κ) (v : V) : (cp kvs k v).length <= kvs.length + 1 := by
 unfold cp
 split
 · rw [List.length_map]; omega
 · rw [List.length_append, List.length_cons, List.length_nil]; omega
def qb {kvs : List (κ × V)} {k : κ} (v : V) (h : dE kvs k = none) : cp kvs k v = kvs ++ [(k, v)] := by
 unfold cp
 rw [gi, h]
 exact if_neg (by decide)
def RelO.isSome_eq {o : Option V} {u : Option Value} (r : RelO o u) : o.isSome = u.isSome := by
 cases o with
 | none => cases u with
  | none => rfl
  | some _ => exact (show False from r).elim
 | some _ => cases u with
  | none => exact (show False from r).elim
  | some _ => rfl
def RelO.getD {o : Option V} {u : Option Value} {d : V} {d' : Value} (r : RelO o u) (rd : RelV d d') : RelV (o.getD d) (u.getD d') := by
 cases o with
 | none => cases u with
  | none => exact rd
  | some _ => exact (show False from r).elim
 | some _ => cases u with
  | none => exact (show False from r).elim
  | some _ => exact r
def KV.val {kvs : List (κ × V)} {vs : List (κ × Value)} (r : KV kvs vs) (k : κ) : RelO (dE kvs k) (valueAt vs k) := by
 unfold KV at r
 induction r with
 | nil => exact True.intro
 | @cons p q ps qs h t ih =>
  obtain ⟨h1, h2⟩ := h
  by_cases e : p.1 = k
  · have e' : q.1 = k := h1.symm.trans e
    have b : valueAt (q :: qs) k = some q.2 := by simp [valueAt, List.find?_cons, e']
    rw [d9 e, b]; exact h2
  · have e' : ¬ q.1 = k := fun z => e (h1.trans z)
    have b : valueAt (q :: qs) k = valueAt qs k := by simp [valueAt, List.find?_cons, e']
    rw [ef e, b]; exact ih
def KV.any {kvs : List (κ × V)} {vs : List (κ × Value)} (r : KV kvs vs) (k : κ) : (kvs.any fun kv => decide (kv.1 = k)) = vs.any fun kv => decide (kv.1 = k) := by
 unfold KV at r
 induction r with
 | nil => rfl
 | cons h t ih => rw [List.any_cons, List.any_cons, ih, h.1]
def KV.repl {kvs : List (κ × V)} {vs : List (κ × Value)} (r : KV kvs vs) (k : κ) {y : V} {u : Value} (ry : RelV y u) :
  KV (kvs.map fun kv => if kv.1 = k then (kv.1, y) else kv) (vs.map fun kv => if kv.1 = k then (kv.1, u) else kv) := by
 unfold KV at r ⊢
 induction r with
 | nil => exact .nil
 | @cons p q ps qs h t ih =>
  rw [List.map_cons, List.map_cons]
  refine .cons ?_ ih
  obtain ⟨h1, h2⟩ := h
  by_cases e : p.1 = k
  · rw [if_pos e, if_pos (h1.symm.trans e)]; exact ⟨h1, ry⟩
  · rw [if_neg e, if_neg (fun z => e (h1.trans z))]; exact ⟨h1, h2⟩
def KV.put {kvs : List (κ × V)} {vs : List (κ × Value)} (r : KV kvs vs) (k : κ) {y : V} {u : Value} (ry : RelV y u) : KV (cp kvs k y) (stored vs k u) := by
 unfold cp stored
 rw [r.any k]
 by_cases e : (vs.any fun kv => decide (kv.1 = k)) = true
 · rw [if_pos e, if_pos e]; exact r.repl k ry
 · rw [if_neg e, if_neg e]; exact Paired.snoc r ⟨rfl, ry⟩
def KV.keys {kvs : List (κ × V)} {vs : List (κ × Value)} (r : KV kvs vs) : kvs.map (·.1) = vs.map (·.1) := by
 unfold KV at r
 induction r with
 | nil => rfl
 | cons h t ih => rw [List.map_cons, List.map_cons, ih, h.1]
def KV.length {kvs : List (κ × V)} {vs : List (κ × Value)} (r : KV kvs vs) : kvs.length = vs.length := Paired.length r
end
def jy {P : Program} {w : World} {k : Key} {u : Value} (r : RelV (kV k) u) : (aQ P w).is k u = true := by
 cases k with
 | inl i => obtain ⟨t, e⟩ := (show ∃ t, u = Value.int i t from r); subst e; exact kR P w i t
 | inr x => obtain ⟨t, e⟩ := (show ∃ t, u = Value.str x t from r); subst e; exact kS P w x t
def jz {P : Program} {w : World} : ∀ {ks : List Key} {us : List Value}, Vals (ks.map kV) us -> ItemsAre (aQ P w) ks us
 | [], _, r => by rw [List.map_nil] at r; cases r; exact .nil
 | k :: ks, _, r => by
  rw [List.map_cons] at r
  cases r with
  | cons h t => exact .cons (jy h) (jz t)
abbrev KT (H : Hp) : List (List Key × V) -> List (List Key × Addr × Value) -> Prop := Paired fun p q => p.1 = q.1 /\ H q.2.1 = some (.tup (p.1.map kV)) /\ RelV p.2 q.2.2
def KT.val {H : Hp} {kvs : List (List Key × V)} {xs : List (List Key × Addr × Value)} (r : KT H kvs xs) (k : List Key) : RelO (dE kvs k) ((atKey xs k).map (·.2)) := by
 induction r with
 | nil => exact True.intro
 | @cons p q ps qs h t ih =>
  obtain ⟨h1, _, h2⟩ := h
  by_cases e : p.1 = k
  · have e' : q.1 = k := h1.symm.trans e
    have b : atKey (q :: qs) k = some q.2 := by simp [atKey, List.find?_cons, e']
    rw [d9 e, b]; exact h2
  · have e' : ¬ q.1 = k := fun z => e (h1.trans z)
    have b : atKey (q :: qs) k = atKey qs k := by simp [atKey, List.find?_cons, e']
    rw [ef e, b]; exact ih
def KT.repl {H : Hp} {kvs : List (List Key × V)} {xs : List (List Key × Addr × Value)} (r : KT H kvs xs) (k : List Key) {y : V} {u : Value} (ry : RelV y u) :
  KT H (kvs.map fun kv => if kv.1 = k then (kv.1, y) else kv) (xs.map (putAt k u)) := by
 induction r with
 | nil => exact .nil
 | @cons p q ps qs h t ih =>
  rw [List.map_cons, List.map_cons]
  refine .cons ?_ ih
  obtain ⟨h1, h2, h3⟩ := h
  unfold putAt
  by_cases e : p.1 = k
  · rw [if_pos e, if_pos (h1.symm.trans e)]; exact ⟨h1, h2, ry⟩
  · rw [if_neg e, if_neg (fun z => e (h1.trans z))]; exact ⟨h1, h2, h3⟩
def KT.put {H : Hp} {kvs : List (List Key × V)} {xs : List (List Key × Addr × Value)} (r : KT H kvs xs) (k : List Key) {b : Addr} {y : V} {u : Value} (hb : H b = some (.tup (k.map kV))) (ry : RelV y u) :
  KT H (cp kvs k y) (storedH xs k b u) := by
 have e : (kvs.any fun kv => decide (kv.1 = k)) = (atKey xs k).isSome := by
  rw [gi, (r.val k).isSome_eq, Option.isSome_map]
 unfold cp storedH
 rw [e]
 by_cases q : (atKey xs k).isSome = true
 · rw [if_pos q, if_pos q]; exact r.repl k ry
 · rw [if_neg q, if_neg q]; exact Paired.snoc r ⟨rfl, hb, ry⟩
def KT.keeps {H H' : Hp} {kvs : List (List Key × V)} {xs : List (List Key × Addr × Value)} (r : KT H kvs xs) (ht : ∀ b ys, H b = some (.tup ys) -> H' b = some (.tup ys)) : KT H' kvs xs :=
 Paired.mapP r fun _ _ z => ⟨z.1, ht _ _ z.2.1, z.2.2⟩
section
variable {P : Program} {w : World} {H : Hp} {h : Heap} {a : Addr}
def uy {u : HO} (ok : HOk P w H h) (e : Rd H a u) : ObjOk P w H h a u := e.ok ok
def jA {kvs : List (Key × V)} (ok : HOk P w H h) (e : Rd H a (.dK kvs)) : kvs.length <= sizeLine /\ (a == sysModules) = false /\ ∃ vs, KV kvs vs /\ h.DictOf (aQ P w) a vs :=
 show ObjOk P w H h a (.dK kvs) from uy ok e
def uz {kvs : List (Key × V)} (ok : HOk P w H h) (e : H a = some (.dK kvs)) : kvs.length <= sizeLine /\ (a == sysModules) = false /\ ∃ vs, KV kvs vs /\ h.DictOf (aQ P w) a vs := jA ok (.inl e)
def j4 {ks : List Key} (ok : HOk P w H h) (e : H a = some (.tup (ks.map kV))) : (tupleKind (aQ P w)).is h ks a := by
 obtain ⟨_, its, r, o, h1, h2, n, h3⟩ := (show ObjOk P w H h a (.tup (ks.map kV)) from ok a _ e)
 exact ⟨o, its.toArray, n, h1, h2, h3, by simpa using jz r⟩
def ld {kvs : List (List Key × V)} (ok : HOk P w H h) (e : Rd H a (.dT kvs)) : kvs.length <= sizeLine /\ (a == sysModules) = false ∧
  ∃ xs, KT H kvs xs /\ h.DictOfH (tupleKind (aQ P w)) a xs := by
 obtain ⟨z, y, xs, r, o, es, ep, h1, h2, h3, h4, h5⟩ := (show ObjOk P w H h a (.dT kvs) from uy ok e)
 refine ⟨z, y, xs, r, o, es, ep, h1, h2, h3, h4, fun x hx => ?_, h5⟩
 have all : ∀ {l : List (List Key × V)} {m : List (List Key × Addr × Value)}, KT H l m -> ∀ x ∈ m, (tupleKind (aQ P w)).is h x.1 x.2.1 := by
  intro l m q
  induction q with
  | nil => intro x hx; exact nomatch hx
  | @cons p q ps qs hq t ih =>
   intro x hx
   rcases List.mem_cons.mp hx with e | hx
   · subst e
     exact j4 ok (by rw [<- hq.1]; exact hq.2.1)
   · exact ih x hx
 exact all r x hx
def xB {kvs : List (List Key × V)} (ok : HOk P w H h) (e : H a = some (.dT kvs)) : kvs.length <= sizeLine /\ (a == sysModules) = false ∧
  ∃ xs, KT H kvs xs /\ h.DictOfH (tupleKind (aQ P w)) a xs := ld ok (.inl e)
end
def DGet (H : Hp) (a : Addr) (y : V) (r : Option V) : Prop :=
 (∃ kvs k, Rd H a (.dK kvs) /\ y = kV k /\ r = dE kvs k) ∨ ∃ kvs k b, Rd H a (.dT kvs) /\ y = .ref b /\ H b = some (.tup (k.map kV)) /\ r = dE kvs k
noncomputable def DPut (H : Hp) (a : Addr) (y v : V) (H' : Hp) : Prop :=
 (∃ kvs k, H a = some (.dK kvs) /\ y = kV k /\ kvs.length < sizeLine /\ H' = upd H a (.dK (cp kvs k v))) ∨
 ∃ kvs k b, H a = some (.dT kvs) /\ y = .ref b /\ H b = some (.tup (k.map kV)) /\ kvs.length < sizeLine /\ H' = upd H a (.dT (cp kvs k v))
def DGet.k {H : Hp} {a : Addr} {kvs : List (Key × V)} {k : Key} (e : H a = some (.dK kvs)) : DGet H a (kV k) (dE kvs k) := .inl ⟨kvs, k, .inl e, rfl, rfl⟩
def DPut.k {H : Hp} {a : Addr} {kvs : List (Key × V)} {k : Key} {v : V} (e : H a = some (.dK kvs)) (hl : kvs.length < sizeLine) : DPut H a (kV k) v (upd H a (.dK (cp kvs k v))) := .inl ⟨kvs, k, e, rfl, hl, rfl⟩
section
variable {X : Cx} {pins : List (Addr × Obj)} {σ : St} {H : Hp} {s : Shared} {a : Addr} {y v : V} {u r : Value} {o : Option V} {A : Around} {E : Value -> Shared -> Prop}
def Inv.big (I : Inv X pins σ H s) : sysModules < s.heap.objs.size := by
 have h : mainGlobals < s.heap.objs.size := (I.mod.glob.keeps I.bk).lt
 exact Nat.lt_trans (by decide) h
def oY {Q : Value -> Shared -> Prop} (hu : A.units + 1 < cLine) (I : Inv X pins σ H s) (g : DGet H a y (some v)) (ry : RelV y u) (h : ∀ w' s', Inv X pins σ H s' -> RelV v w' -> Q w' s') :
  wpAny (model X.prog X.w) A (getItem (.ref a) u) Q E s := by
 rcases g with ⟨kvs, k, e, ey, l⟩ | ⟨kvs, k, b, e, ey, eb, l⟩
 · subst ey
   obtain ⟨z, hd, vs, rel, dd⟩ := jA I.hok e
   obtain ⟨w', hw, rw'⟩ := RelO.some_of (v := v) (o := valueAt vs k) (by rw [l]; exact rel.val k)
   exact wpAny_getItem_of (jy ry) dd.mapOf hw (h w' _ (I.tok _) rw')
 · subst ey
   cases (show u = Value.ref b from ry)
   obtain ⟨z, hd, xs, rel, dd⟩ := ld I.hok e
   obtain ⟨w', hw, rw'⟩ := RelO.some_of (v := v) (o := (atKey xs k).map (·.2)) (by rw [l]; exact rel.val k)
   obtain ⟨p, hp, hp2⟩ := mS hw
   refine wpAny_getItem_heap (tupleKind_room_in1 hu) (j4 I.hok eb) dd hp ?_
   rw [hp2]
   exact h w' _ (I.tok _) rw'
def j5 {h' : Heap} {t' : Nat} {ob : HO} (I : Inv X pins σ H s) (mu : Mut (H a)) (hs : Heap.SameBut a s.heap h') (he : ∃ q, h'.get? a = some q) (new : ObjOk X.prog X.w (upd H a ob) h' a ob) :
  Inv X pins σ (upd H a ob) { s with heap := h', toks := t' } :=
 I.write (x := a) (e := a) mu (.inl rfl) (fun b q hb z => (hs.2 b hb).trans z) he new
def mx {P : Program} {w : World} {H' : Hp} {h' : Heap} {kvs : List (Key × V)} {vs : List (Key × Value)} (z : kvs.length <= sizeLine) (hd : (a == sysModules) = false) (rel : KV kvs vs) (dd : h'.DictOf (aQ P w) a vs) :
  ObjOk P w H' h' a (.dK kvs) := ⟨z, hd, vs, rel, dd⟩
def oZ {H' : Hp} {Q : Unit -> Shared -> Prop} (hu : A.units + 1 < cLine) (I : Inv X pins σ H s) (g : DPut H a y v H') (ry : RelV y u) (rv : RelV v r) (h : ∀ s', Inv X pins σ H' s' -> Q () s') :
  wpAny (model X.prog X.w) A (setItem (.ref a) u r) Q E s := by
 rcases g with ⟨kvs, k, e, ey, l, eH⟩ | ⟨kvs, k, b, e, ey, eb, l, eH⟩
 · subst ey eH
   obtain ⟨z, hd, vs, rel, dd⟩ := uz I.hok e
   have hz : vs.length <= sizeLine := by rw [<- rel.length]; exact z
   have hl : (cp kvs k v).length <= sizeLine := by have := dn kvs k v; omega
   refine wpAny_setItem_pairs (hsz := hz) (jy ry) dd fun h' dd' hs => h _ ?_
   have he : ∃ q, h'.get? a = some q := let ⟨q, _, _, hq, _⟩ := dd'; ⟨q, hq⟩
   exact j5 I (by rw [e]; exact True.intro) hs he (mx hl hd (rel.put k rv) dd')
 · subst ey eH
   cases (show u = Value.ref b from ry)
   obtain ⟨z, hd, xs, rel, dd⟩ := xB I.hok e
   have hz : xs.length <= sizeLine := by rw [<- Paired.length rel]; exact z
   have hl : (cp kvs k v).length <= sizeLine := by have := dn kvs k v; omega
   refine wpAny_setItem_heap (hsz := hz) (tupleKind_room_in1 hu) (j4 I.hok eb) dd fun h' dd' hs => h _ ?_
   obtain ⟨q, es, ep, hq, h2, h3, h4, _, h5⟩ := dd'
   refine j5 I (by rw [e]; exact True.intro) hs ⟨q, hq⟩ ⟨hl, hd, _, (rel.put k eb rv).keeps fun c ys ec => ?_, q, es, ep, hq, h2, h3, h4, h5⟩
   rw [ay (xg ec e (fun z => nomatch z))]
   exact ec
end
section
variable {X : Cx} {pins : List (Addr × Obj)} {σ : St} {H : Hp} {s : Shared} {a : Addr} {kvs : List (Key × V)} {k : Key} {u : Value} {A : Around} {E : Value -> Shared -> Prop}
end
def sw (i : Expr) : Prop := ∀ ov iv, subscripted i false ov iv = operate [ov, iv] (getItem ov iv)
def sx {prog : Program} {w : World} {A : Around} {E : Value -> Shared -> Prop} {s : Shared} {env : Env} {value slice : Expr} {pos : Pos} {T id : String} {Q : Value -> Shared -> Prop}
  (hl : typeLookup (.type T) "__getitem__" = pure (some (.builtin id))) (hs : sw slice)
  (h : wpAny (model prog w) A (eval value env) (fun o s₁ => wpAny (model prog w) A (eval slice env) (fun i s₂ => s₂.TypeIs o T /\ wpAny (model prog w) A (getItem o i) Q E s₂) E s₁) E s) :
  wpAny (model prog w) A (eval (.Subscript value slice pos) env) Q E s := by
 refine Subscript_ (wpAny_mono h (fun o s₁ h₁ => wpAny_mono h₁ (fun i s₂ h₂ => ?_) fun _ _ x => x) fun _ _ x => x)
 obtain ⟨hT, h₂⟩ := h₂
 unfold subscriptTail
 refine wB ?_
 rw [getitemInPython_of_ne hT.not_modules]
 refine wB (wpAny_specialOf hT hl ?_)
 have fin : wpAny (model prog w) A (subscripted slice false o i) (fun r s₃ => wpAny (model prog w) A (letTemporaryGo value o r >>= fun _ => pure r) Q E s₃) E s₂ := by
  rw [hs o i]
  exact wpAny_operating (wpAny_mono h₂ (fun r s₃ h₃ => wB (wpAny_letTemporaryGo (wpAny_pure h₃))) fun _ _ x => x)
 first
  | exact wpAny_pure (wB fin)
  | exact wB (wpAny_pure (wB fin))
  | exact wB fin
def le {X : Cx} {pins : List (Addr × Obj)} {σ : St} {H : Hp} {s : Shared} {a : Addr} {y : V} {o : Option V} (I : Inv X pins σ H s) (g : DGet H a y o) : s.TypeIs (.ref a) "dict" := by
 rcases g with ⟨kvs, k, e, _, _⟩ | ⟨kvs, k, b, e, _, _, _⟩
 · obtain ⟨_, _, vs, _, dd⟩ := jA I.hok e
   exact dd.typeIs
 · obtain ⟨_, _, xs, _, dd⟩ := ld I.hok e
   exact dd.typeIs
def xC (td ty : TE) : TE := fun σ H Q => td σ H fun x H1 => ty σ H1 fun y H2 => ∃ a v, x = .ref a /\ DGet H2 a y (some v) /\ Q v H2
def xD (td ty tv : TE) : TS := fun D σ H => tv σ H fun v H1 => td σ H1 fun x H2 => ty σ H2 fun y H3 => ∃ a H4, x = .ref a /\ DPut H3 a y v H4 /\ D.nx σ H4
section
variable {X : Cx} {o i e value : Expr} {pos pos' tpos : Pos} {td ty tv : TE}
def nz (hu : X.A.units + 1 < cLine) (ho : PE X o td) (hi : PE X i ty) (hs : sw i) : PE X (.Subscript o i pos) (xC td ty) := by
 intro pins s σ H Q I h
 refine sx PySem.F.slot_dict_getitem.lookup hs (thn (ho pins s σ H _ I h) fun u s1 ⟨x, H1, I1, rx, q1⟩ => thn (hi pins s1 σ H1 _ I1 q1) fun iv s2 ⟨y, H2, I2, ry, a, v, ex, g, q2⟩ => ?_)
 subst ex
 obtain rfl : u = Value.ref a := rx
 exact ⟨le I2 g, oY hu I2 g ry fun w' s3 I3 rw' => ⟨v, H2, I3, rw', q2⟩⟩
def sy (hu : X.A.units + 1 < cLine) (ho : PE X o td) (hi : PE X i ty) (hv : PE X value tv) (hs : swapsWith value (some (.Subscript o i pos')) pos.line X.env = pure false) :
  PS X (.Assign [.Subscript o i pos'] value pos) (xD td ty tv) := by
 intro pins s σ H D I h
 refine wpAny_Assign_Subscript (thn (hv pins s σ H _ I h) fun r s1 ⟨v, H1, I1, rv, q1⟩ => thn (ho pins s1 σ H1 _ I1 q1) fun u s2 ⟨x, H2, I2, rx, q2⟩ => thn (hi pins s2 σ H2 _ I2 q2) fun iv s3 ⟨y, H3, I3, ry, a, H4, ex, g, q3⟩ => ?_) hs
 subst ex
 obtain rfl : u = Value.ref a := rx
 exact oZ hu I3 g ry rv fun s4 I4 => ⟨σ, H4, I4, q3⟩
end
def lg {P : Program} {w : World} {H : Hp} (h : Heap) (hb : sysModules < h.objs.size) : ObjOk P w H (h.push { cls := .type "dict", data := .dict #[] }) h.objs.size (.dK []) :=
 ⟨Nat.zero_le _, beq_eq_false_iff_ne.mpr (Ne.symm (Nat.ne_of_lt hb)), [], .nil, Heap.DictOf.new h⟩
def vP : TE := fun _ H Q => ∀ p, H p = none -> Q (.ref p) (upd H p (.dK []))
section
variable {X : Cx} {pos : Pos}
def qc : PE X (.Dict [] [] pos) vP := fun pins s σ H Q I h =>
 wpAny_Dict_empty ⟨.ref s.heap.objs.size, _, I.laid (a := s.heap.objs.size) (o := .dK []) (t' := s.toks) (fun _ _ q => gP _ q) (nL _) (lg s.heap I.big), rfl, h _ (I.hok.fresh (nL _))⟩
end
def j6 : List (TE × TE) -> St -> Hp -> (List (V × V) -> Hp -> Prop) -> Prop
 | [], _, H, Q => Q [] H
 | (tk, tv) :: r, σ, H, Q => tk σ H fun x H1 => tv σ H1 fun y H2 => j6 r σ H2 fun ps H3 => Q ((x, y) :: ps) H3
abbrev VV : List (V × V) -> List (Value × Value) -> Prop := Paired fun p q => RelV p.1 q.1 /\ RelV p.2 q.2
noncomputable def PPs (X : Cx) (pos : Pos) (keys : List (Option Expr)) (values : List Expr) (trs : List (TE × TE)) : Prop :=
 ∀ (pins : List (Addr × Obj)) (s : Shared) (σ : St) (H : Hp) (Q : List (V × V) -> Hp -> Prop), Inv X pins σ H s -> j6 trs σ H Q →
  wpAny (model X.prog X.w) X.A (evalPairs (pairTrees keys values X.env pos)) (fun vs s' => ∃ ps H', Inv X pins σ H' s' /\ VV ps vs /\ Q ps H') X.xe s
def sA {X : Cx} {pos : Pos} : PPs X pos [] [] [] := fun pins s σ H Q I h => pairTrees_nil_walk ⟨[], H, I, .nil, h⟩
def qd {X : Cx} {pos : Pos} {k v : Expr} {ks : List (Option Expr)} {vs : List Expr} {tk tv : TE} {trs : List (TE × TE)} (hk : PE X k tk) (hv : PE X v tv) (hr : PPs X pos ks vs trs) :
  PPs X pos (some k :: ks) (v :: vs) ((tk, tv) :: trs) := fun pins s σ H Q I h =>
 pairTrees_cons_walk (thn (hk pins s σ H _ I h) fun u s1 ⟨x, H1, I1, rx, q1⟩ => thn (hv pins s1 σ H1 _ I1 q1) fun w2 s2 ⟨y, H2, I2, ry, q2⟩ =>
  thn (hr pins s2 σ H2 _ I2 q2) fun ws s3 ⟨ps, H3, I3, rel, q3⟩ => ⟨(x, y) :: ps, H3, I3, .cons ⟨rx, ry⟩ rel, q3⟩)
def eg (kvs more : List (Key × V)) : List (Key × V) := more.foldl (fun acc kv => cp acc kv.1 kv.2) kvs
def KV.merge : ∀ {more : List (Key × V)} {rs : List (Key × Value)} {kvs : List (Key × V)} {vs : List (Key × Value)}, KV more rs -> KV kvs vs -> KV (eg kvs more) (merged vs rs) := by
 intro more rs kvs vs r
 unfold KV at r
 induction r generalizing kvs vs with
 | nil => intro q; exact q
 | @cons p q ps qs h t ih =>
  intro r0
  have e : KV (cp kvs p.1 p.2) (stored vs q.1 q.2) := by
   have := r0.put p.1 h.2
   rw [<- h.1]; exact this
  exact ih e
def fP : ∀ (more kvs : List (Key × V)), (eg kvs more).length <= kvs.length + more.length
 | [], kvs => by show kvs.length <= kvs.length + 0; omega
 | p :: r, kvs => by
  have h1 := fP r (cp kvs p.1 p.2)
  have h2 := dn kvs p.1 p.2
  show (eg (cp kvs p.1 p.2) r).length <= _
  rw [List.length_cons]; omega
def iL {P : Program} {w : World} : ∀ {kvs : List (Key × V)} {ws : List (Value × Value)}, VV (kvs.map fun kv => (kV kv.1, kv.2)) ws -> ∃ rs, Carries (aQ P w) ws rs /\ KV kvs rs
 | [], _, r => by rw [List.map_nil] at r; cases r; exact ⟨[], True.intro, .nil⟩
 | p :: kvs, _, r => by
  rw [List.map_cons] at r
  cases r with
  | @cons a b as bs h t =>
   obtain ⟨rs, c, q⟩ := iL (P := P) (w := w) t
   obtain ⟨b1, b2⟩ := b
   exact ⟨(p.1, b2) :: rs, ⟨jy h.1, rfl, c⟩, .cons ⟨rfl, h.2⟩ q⟩
noncomputable def xE (trs : List (TE × TE)) : TE := fun σ H Q => ∀ p, H p = none -> j6 trs σ (upd H p (.dK [])) fun ps H2 => H2 p = some (.dK []) /\ ∃ kvs : List (Key × V), ps = kvs.map (fun kv => (kV kv.1, kv.2)) /\ kvs.length <= 15 /\ Q (.ref p) (upd H2 p (.dK (eg [] kvs)))
def sB {X : Cx} {pos : Pos} {keys : List (Option Expr)} {values : List Expr} {trs : List (TE × TE)} (h : PPs X pos keys values trs) (hall : keys.all (·.isSome) = true) (hl : keys.length = values.length) (h0 : keys ≠ [])
  (h15 : keys.length <= 15) : PE X (.Dict keys values pos) (xE trs) := by
 intro pins s σ H Q I q
 have hn := I.hok.fresh (nL s.heap.objs.size)
 have I1 := I.laid (a := s.heap.objs.size) (o := .dK []) (h' := s.heap.push { cls := .type "dict", data := .dict #[] }) (t' := s.toks) (fun _ _ q => gP _ q) (nL _) (lg s.heap I.big)
 refine wpAny_Dict_walk (knd := aQ X.prog X.w) hall hl h0 h15 (thn (h pins _ σ _ _ I1 (q _ hn)) fun ws s2 ⟨ps, H2, I2, rel, e, kvs, ep, lk, q2⟩ => ?_)
 subst ep
 obtain ⟨rs, c, rk⟩ := iL (P := X.prog) (w := X.w) rel
 obtain ⟨z, hd, vs0, r0, dd⟩ := uz I2.hok e
 cases r0
 refine ⟨rs, c, dd, fun h' dd' hs => ⟨.ref s.heap.objs.size, _, ?_, rfl, q2⟩⟩
 have hz : (eg [] kvs).length <= sizeLine := by
  have h1 := fP kvs []
  rw [List.length_nil] at h1
  rw [sizeLine_eq]; omega
 have he : ∃ q, h'.get? s.heap.objs.size = some q := let ⟨q, _, _, hq, _⟩ := dd'; ⟨q, hq⟩
 exact j5 I2 (by rw [e]; exact True.intro) hs he (mx hz hd (rk.merge .nil) dd')
structure M2 (X : Cx) (o : Expr) (m : Str) (apos : Pos) (e f : Expr) (cpos : Pos) : Prop where
 base : attributeBase o m X.env (eval o X.env) = eval o X.env
 few : ((backTo cpos (starEach [e, f] X.env)).all (fun x => !x.1) && (backToKw cpos (keywordEach [] X.env)).all (fun x => x.1.isSome)
  && decide (([e, f] : List Expr).length + ([] : List Keyword).length + (if ([] : List Keyword).isEmpty then 0 else 1) < 30)) = true
 line : (apos.endLine == cpos.line) = true
 trees : backTo cpos (starEach [e, f] X.env) = [(false, eval e X.env), (false, eval f X.env)]
def IsD (H : Hp) (a : Addr) : Prop := (∃ kvs, Rd H a (.dK kvs)) ∨ ∃ kvs, Rd H a (.dT kvs)
def vQ {X : Cx} {pins : List (Addr × Obj)} {σ : St} {H : Hp} {s : Shared} {a : Addr} (I : Inv X pins σ H s) (d : IsD H a) :
  s.TypeIs (.ref a) "dict" /\ (∀ b, Value.ref a = .ref b -> ∃ ob, s.heap.get? b = some ob /\ ob.dict = none) /\ (a == sysModules) = false := by
 rcases d with ⟨kvs, e⟩ | ⟨kvs, e⟩
 · obtain ⟨_, hd, vs, _, dd⟩ := jA I.hok e
   refine ⟨dd.typeIs, fun b q => ?_, hd⟩
   cases q
   obtain ⟨ob, _, _, h1, h2, _⟩ := dd
   exact ⟨ob, h1, h2.2.1⟩
 · obtain ⟨_, hd, xs, _, dd⟩ := ld I.hok e
   refine ⟨dd.typeIs, fun b q => ?_, hd⟩
   cases q
   obtain ⟨ob, _, _, h1, h2, _⟩ := dd
   exact ⟨ob, h1, h2.2.1⟩
section
variable {X : Cx} {pins : List (Addr × Obj)} {σ : St} {H : Hp} {s : Shared} {a : Addr} {y d : V} {u r : Value} {o : Option V} {A : Around} {E : Value -> Shared -> Prop}
def vR {Q : Value -> Shared -> Prop} (hu : A.units + 1 < cLine) (I : Inv X pins σ H s) (g : DGet H a y o) (ry : RelV y u) (rd : RelV d r) (h : ∀ w' s', Inv X pins σ H s' -> RelV (o.getD d) w' -> Q w' s') :
  wpAny (model X.prog X.w) A (call (.builtin "dict.get") [.ref a, u, r]) Q E s := by
 rcases g with ⟨kvs, k, e, ey, l⟩ | ⟨kvs, k, b, e, ey, eb, l⟩
 · subst ey
   obtain ⟨z, hd, vs, rel, dd⟩ := jA I.hok e
   refine call_meetsIn PySem.F.slot_dict_get dd.typeIs PySem.F.entry_dict_get (PySem.F.args_dict_get_3 _ _ _) (meets_dict_get_default (aQ X.prog X.w) a (jy ry) hd r) ⟨_, dd.mapOf, h _ _ (I.tok _) ?_⟩
   rw [l]
   exact (rel.val k).getD rd
 · subst ey
   cases (show u = Value.ref b from ry)
   obtain ⟨z, hd, xs, rel, dd⟩ := ld I.hok e
   refine call_meetsIn PySem.F.slot_dict_get dd.typeIs PySem.F.entry_dict_get (PySem.F.args_dict_get_3 _ _ _) (meetsH_dict_get_default (tupleKind (aQ X.prog X.w)) a b hd r) ⟨tupleKind_room_in1 hu, k, xs, j4 I.hok eb, dd, h _ _ (I.tok _) ?_⟩
   rw [l]
   exact (rel.val k).getD rd
end
def vS (td ty tx : TE) : TE := fun σ H Q => td σ H fun x H1 => ∃ a, x = .ref a /\ IsD H1 a /\ ty σ H1 fun y H2 => tx σ H2 fun z H3 => ∃ o, DGet H3 a y o /\ Q (o.getD z) H3
section
variable {X : Cx} {o e f : Expr} {apos cpos : Pos} {td ty tx : TE}
def qe (hu : X.A.units + 1 < cLine) (ho : PE X o td) (he : PE X e ty) (hf : PE X f tx) (m : M2 X o "get" apos e f cpos) : PE X (.Call (.Attribute o "get" apos) [e, f] [] cpos) (vS td ty tx) := by
 intro pins s σ H Q I h
 refine wpAny_Call_method m.base m.few m.line PySem.F.plainAttrs_dict PySem.F.slot_dict_get PySem.F.type_dict_get (thn (ho pins s σ H _ I h) fun u s1 ⟨x, H1, I1, rx, a, ex, d, q1⟩ => ?_)
 subst ex
 obtain rfl : u = Value.ref a := rx
 obtain ⟨t1, t2, _⟩ := vQ I1 d
 refine ⟨t1, t2, ?_⟩
 rw [m.trees]
 refine Calls.callWith_builtin rfl (Calls.evalArgs_plain (Calls.spliced_cons (thn (he pins s1 σ H1 _ I1 q1) fun iv s2 ⟨y, H2, I2, ry, q2⟩ =>
  Calls.spliced_cons (thn (hf pins s2 σ H2 _ I2 q2) fun fv s3 ⟨z, H3, I3, rz, ov, g, q3⟩ => Calls.spliced_nil ?_))))
 exact vR hu I3 g ry rz fun w' s4 I4 rw' => ⟨_, H3, I4, rw', q3⟩
end
section
variable {X : Cx} {pins : List (Addr × Obj)} {σ : St} {H : Hp} {s : Shared} {a : Addr} {kvs : List (Key × V)} {A : Around} {E : Value -> Shared -> Prop}
end
section
variable {X : Cx} {pins : List (Addr × Obj)} {σ : St} {H : Hp} {s : Shared} {a : Addr} {y : V} {u : Value} {A : Around} {E : Value -> Shared -> Prop}
end
end L2
namespace Att
open PySem PySem.W PySem.Calls PyProof.Rows
def ii {P : Params} {h : Heap} : ∀ (ns : List Int) (vs : List Value), WellAll P h vs (ns.map WData.int) -> IntsAre vs ns := by
 intro ns
 induction ns with
 | nil =>
  intro vs w
  rw [List.map_nil] at w
  cases w
  exact .nil
 | cons n ns ih =>
  intro vs w
  rw [List.map_cons] at w
  cases w with
  | cons a b =>
   cases a
   exact .cons _ _ (ih _ b)
def o7 {l : OpenLaw} {n : Nat} (hn : l.most = some n) {P : Params} {h : Heap} {args : List WData} {vals : List Value}
  (hpre : l.row.toRowW.claim.pre args = true) (hwl : WellAll P h vals args) :
  ∃ a vs ns, vals = [Value.ref a] /\ args = [WData.list (ns.map WData.int)] /\ h.get? a = some { cls := .type "list", data := .seq vs.toArray } /\ IntsAre vs ns /\ ns.length <= n := by
 have hsh : WShape.hasAll [] args [.list .int] = true := (pre_splitW hpre).1
 have hc : l.pre.holds [] { args := args } = true := (pre_splitW hpre).2
 obtain ⟨d, r, rfl, h1, h2⟩ := hasAllW_cons hsh
 obtain rfl := hasAllW_nil h2
 obtain ⟨xs, rfl, h3⟩ := hasW_list h1
 obtain ⟨ns, rfl⟩ := items_int h3
 have hlen : ns.length <= n := by
  unfold OpenLaw.pre at hc
  have h4 : (WTm.not (.lt (.lit (.int (n : Int))) (.len (.arg 0)))).holds [] { args := [.list (ns.map .int)] } = true := by
   have h4 := (holds_andW hc).1
   rw [hn] at h4
   exact h4
  have h5 := condW_of h4 (w_not (w_lt w_lit (w_len_list (w_arg rfl))))
  rw [List.length_map] at h5
  refine Nat.le_of_not_lt fun q => ?_
  have q' : (n : Int) < ((ns.length : Nat) : Int) := by omega
  first
   | (rw [decide_eq_true q'] at h5; exact absurd h5 (by decide))
   | (simp at h5; omega)
 cases hwl with
 | cons w1 w2 =>
  cases w2
  cases w1 with
  | list ho hall => exact ⟨_, _, ns, rfl, rfl, ho, ii ns _ hall, hlen⟩
def o8 (l : OpenLaw) (args : List WData) : l.row.toRowW.claim.post args (.bool true) args = true :=
 postW_of (r := l.row.toRowW) (X := (true == true))
  (show WShape.has [] (.bool true) .bool = true by first | rfl | decide | simp [WShape.has, WShape.arms, WShape.armsAll])
  (show (WTm.eq .res (.lit (.bool true))).value [] { args := args, res := some (.bool true), after := args } = some (.bool (true == true)) from w_eq_bool (w_res rfl) w_lit) rfl
def uA {l : OpenLaw} {n : Nat} {q : Program} {loose : List Str} {XP : (Str -> Option Value) -> Heap -> Prop} {YP : World -> Heap -> Prop} {d : DefRec}
  (hn : l.most = some n) (hdf : d.params.defaults = [])
  (call : ∀ (w : World) (s₀ s₁ : Shared) (mg mb : Str -> Option Value) (fa : Addr) (o : Obj) (pm cd doc : Value) (a : Addr) (vs : List Value) (ns : List Int),
   Ground q loose [] XP w s₀ mg mb s₁.heap -> YP w s₁.heap →
   s₁.heap.get? fa = some o -> o.data = .func (docDef d.name d.params d.body d.scope pm cd doc) -> s₁.heap.CodeRec cd d.name -> mg d.name = some (.ref fa) →
   s₁.heap.get? a = some { cls := .type "list", data := .seq vs.toArray } -> IntsAre vs ns -> ns.length <= n -> s₁.gens = #[] →
   codeAny (model l.prog w) callerA (.call (.ref fa) ⟨[.ref a], []⟩) (fun r s' => r = .ok (.ret (.bool true)) /\ OldK s₁.heap s'.heap /\ s'.os = s₁.os /\ AllBare s'.gens) s₁) :
  WalkO q loose XP YP l.row.toRowW d [] (fun f vs => PySem.call f vs) := by
 intro w s₀ s₁ mg mb G Y fa o pm cd doc dV kV ho hd hcd hD hmg hg args vals as hpre hlay hrd hwl hlo
 obtain rfl : dV = .none := Dflts.none hD hdf
 obtain rfl : kV = .none := Dflts.noKw hD
 obtain ⟨a, vs, ns, rfl, rfl, hobj, hints, hlen⟩ := o7 hn hpre hwl
 refine enter_call (codeAny_mono (call w s₀ s₁ mg mb fa o pm cd doc a vs ns G Y ho (fd_plain hd) hcd hmg hobj hints hlen hg) fun r s' hq => ?_)
 obtain ⟨rfl, h2, h3, h4⟩ := hq
 exact ⟨.inl ⟨.bool true, .bool true, [], rfl, fun _ => rfl, .bool true, o8 l _, fun _ => ⟨List.Pairwise.nil, fun _ hm => (nomatch hm)⟩⟩, h2, h3, h4⟩
section
variable {prog : Program} {w : World} {A : Around} {E : Value -> Shared -> Prop} {s : Shared} {K : Frag}
end
end Att
namespace L2
open PySem PySem.Spec PyProof.Rows
def jB : ∀ {vs : List Value} {ns : List Int}, IntsAre vs ns -> Vals (ns.map V.int) vs
 | _, _, .nil => .nil
 | _, _, .cons n t h => .cons ⟨t, rfl⟩ (jB h)
def sC (H : Hp) : Prop := ∀ b, H b = none ∨ ∃ o xs, H b = some (.frz o (.lst xs))
def qf {P : Program} {w : World} {K : PySem.W.Frag} {mg mb : Str -> Option Value} {CX : CXT} {k : Nat} {fa a : Addr} {fd : FuncData} {x : Str} {sp : Sp} {s₁ : Shared} {vs : List Value} {ns : List Int}
  (KX : K.In s₁.heap) (hns : s₁.heap.Ns mainGlobals mg) (hb : s₁.heap.Ns builtinsNs mb) (hbb : ∀ x : Str, x ≠ "__name__" -> mb x = bootBuiltins x) (hlim : s₁.heap.NoLimit) (hg : s₁.gens = #[])
  (ha : s₁.heap.get? a = some { cls := .type "list", data := .seq vs.toArray }) (hi : IntsAre vs ns) (hl : ns.length <= sizeLine) (hr : Room k callerA)
  (F : ∀ base : Heap, K.In base -> base.Ns mainGlobals mg -> FnOk P w K mg base CX k fa fd [x] sp) (hbind : ∀ (s : Shared) (u : Value), BindsTo s fd ⟨[u], []⟩ [(x, u)])
  (hsp : ∀ H : Hp, sC H -> SqL K H a (ns.map V.int) -> sp [.ref a] H (fun v _ => v = .bl true) fun _ _ _ => False)
  (hCX : ∀ H e s', CX [] H s₁ (fun _ _ _ => False) e s' -> False) :
  codeAny (model P w) callerA (.call (.ref fa) ⟨[.ref a], []⟩) (fun r s' => r = .ok (.ret (.bool true)) /\ OldK s₁.heap s'.heap /\ s'.os = s₁.os /\ AllBare s'.gens) s₁ := by
 have rv := jB hi
 have lenV := hi.length
 -- from an abstract heap in which nothing but the script may be tracked
 have core : ∀ H : Hp, sC H -> SqL K H a (ns.map V.int) -> HOk P w H s₁.heap -> (∀ b, H b ≠ none -> b = a) -> (H a ≠ none -> K.lookup a = none) →
     codeAny (model P w) callerA (.call (.ref fa) ⟨[.ref a], []⟩) (fun r s' => r = .ok (.ret (.bool true)) /\ OldK s₁.heap s'.heap /\ s'.os = s₁.os /\ AllBare s'.gens) s₁ := by
  intro H hO hS hok hA hK
  have base_of : ∀ {b : Addr} {o : Obj}, s₁.heap.get? b = some o -> H b = none -> (jZ s₁.heap H).get? b = some o := fun e n => pE e n
  have noA : ∀ {b : Addr} {o : Obj} {es : Array DictEntry} {ep : Nat}, s₁.heap.get? b = some o -> o.data = .dict es ep -> H b = none := fun {b o es ep} e d => by
   cases q : H b with
   | none => rfl
   | some u =>
    have e' : b = a := hA b (by rw [q]; simp)
    subst e'
    rw [ha] at e; cases e
    have d' : Data.seq vs.toArray _ = Data.dict es ep := d
    cases d'
  have nsK : ∀ {b : Addr} {m : Str -> Option Value}, s₁.heap.Ns b m -> (jZ s₁.heap H).Ns b m := fun {b m} ⟨o, es, ep, e, d, r⟩ => ⟨o, es, ep, base_of e (noA e d), d, r⟩
  have hKb : K.In (jZ s₁.heap H) := fun b o e => base_of (KX b o e) (by
   cases q : H b with
   | none => rfl
   | some u =>
    have e' : b = a := hA b (by rw [q]; simp)
    subst e'
    rw [hK (by rw [q]; simp)] at e; cases e)
  have hM : Mod K mg (jZ s₁.heap H) := ⟨hKb, nsK hns, ⟨mb, nsK hb, hbb⟩, let ⟨mc, h1, h2⟩ := hlim; ⟨mc, nsK h1, h2⟩⟩
  have e0 : Env0 P w K mg (jZ s₁.heap H) callerA [] s₁ H := ⟨rfl, hM, fun b o e => rR e, Nat.le_of_eq (oN _ _), trivial, fun b hb => absurd (show b ∈ ([] : List Addr) from hb) (by simp), hok, .of_eq hg⟩
  refine codeAny_mono ((F _ hKb (nsK hns)).run callerA [] s₁ H ⟨[.ref a], []⟩ [.ref a] [.ref a] _ _ hr e0 (hbind s₁ (.ref a)) (.cons rfl .nil) (hsp H hO hS)) fun r s' h => ?_
  cases r with
  | error e => exact (hCX H e s' h).elim
  | ok fl =>
   cases fl with
   | next => exact False.elim h
   | brk => exact False.elim h
   | cont => exact False.elim h
   | ret u =>
    obtain ⟨v, H', os, bare, un, hok', r', q⟩ := h
    have q' : v = .bl true := q
    subst q'
    obtain rfl : u = Value.bool true := r'
    refine ⟨rfl, OldK.of_keep fun b o e => ?_, os, bare⟩
    cases q : H b with
    | none => exact un.keep b o e q (by intro z; exact absurd (show b ∈ ([] : List Addr) from z) (by simp)) (by simp)
    | some u =>
     rcases hO b with z | ⟨ob, xs, z⟩
     · rw [q] at z; cases z
     · have z2 := un.frzs b ob _ z
       obtain ⟨e1, _⟩ := hok b _ z
       obtain ⟨e2, _⟩ := hok' b _ z2
       rw [e] at e1; cases e1
       exact e2
 cases hk : K.lookup a with
 | some o =>
  -- the script is one of the module's own objects
  have e := KX a o hk
  rw [ha] at e
  cases e
  refine core (fun _ => none) (fun _ => .inl rfl) (.inr ⟨_, vs.toArray, _, hk, rfl, rfl, rfl, by rw [List.size_toArray, lenV]; exact hl, by simpa using rv⟩) (fun b u z => by have z' : (none : Option HO) = some u := z; cases z') (fun b z => absurd rfl z) fun z => absurd rfl z
 | none =>
  refine core (fun b => if b = a then some (.frz { cls := .type "list", data := .seq vs.toArray } (.lst (ns.map V.int))) else none) (fun b => ?_) (.inl (.inr ⟨{ cls := .type "list", data := .seq vs.toArray }, if_pos rfl⟩)) (fun b u z => ?_) (fun b z => ?_) fun _ => hk
  · by_cases hb : b = a
    · exact .inr ⟨_, _, if_pos hb⟩
    · exact .inl (if_neg hb)
  · by_cases hb : b = a
    · have z' := (if_pos hb).symm.trans z
      cases z'
      subst hb
      exact ⟨ha, by rw [List.length_map]; exact hl, vs, _, rv, ha⟩
    · have z' := (if_neg hb).symm.trans z
      cases z'
  · by_cases hb : b = a
    · exact hb
    · exact absurd (if_neg hb) z
def ya {l : PySem.W.OpenLaw} {n k : Nat} {q : Program} {loose : List Str} {XP : (Str -> Option Value) -> Heap -> Prop} {YP : World -> Heap -> Prop} {d : DefRec} {K : Params -> PySem.W.Frag} {CX : World -> CXT} {sp : World -> Sp} {x : Str}
  (hn : l.most = some n) (hn2 : n <= sizeLine) (hdf : d.params.defaults = []) (hr : Room k callerA)
  (hY : ∀ (w : World) (h : Heap), YP w h -> (K w.params).In h)
  (F : ∀ (w : World) (mg : Str -> Option Value) (fa : Addr) (h : Heap), (K w.params).In h -> h.Ns mainGlobals mg -> mg d.name = some (.ref fa) →
   ∃ fd : FuncData, (∀ (s : Shared) (u : Value), BindsTo s fd ⟨[u], []⟩ [(x, u)]) ∧
    ∀ base : Heap, (K w.params).In base -> base.Ns mainGlobals mg -> FnOk l.prog w (K w.params) mg base (CX w) k fa fd [x] (sp w))
  (hsp : ∀ (w : World) (H : Hp) (a : Addr) (ns : List Int), ns.length <= n -> sC H -> SqL (K w.params) H a (ns.map V.int) -> sp w [.ref a] H (fun v _ => v = .bl true) fun _ _ _ => False)
  (hCX : ∀ (w : World) (H : Hp) (s : Shared) (e : Value) (s' : Shared), CX w [] H s (fun _ _ _ => False) e s' -> False) :
  PySem.W.WalkO q loose XP YP l.row.toRowW d [] (fun f vs => PySem.call f vs) := by
 refine Att.uA hn hdf fun w s₀ s₁ mg mb fa o pm cd doc a vs ns G Y ho hd hcd hmg hobj hints hlen hg => ?_
 have KX := hY w _ Y
 obtain ⟨fd, hb, hF⟩ := F w mg fa _ KX G.T.g hmg
 exact qf KX G.T.g G.T.b G.T.builtins G.T.nolimit hg hobj hints (Nat.le_trans hlen hn2) hr hF hb (fun H hO hS => hsp w H a ns hlen hO hS) fun H e s' => hCX w H s₁ e s'
end L2
/- THE LAST THEOREM (shape; LID, My.* are yours):
   My.Adr: a structure of the addresses that your layer names (classes, functions); My.Txt K t: a structure (Prop) of the equations over K;
   My.txt_mk : {K} {implicit addresses ..} (e1 : nsIn K mainGlobals "law" = some (some (.ref f))) (e2 : K.lookup f = some ⟨oc, od, .func (fnOf "law" "law" params body scope dV kV doc pm an cdv ct), sl⟩) (e3 : codeIn K cdv "law" = true) .. : ∃ t, My.Txt K t
(the tactic k_is has no namespace: write k_is) -/
namespace L2
open PySem PySem.Spec PyProof.Rows
def aK (s : Stmt) : Arguments := match s with
 | .FunctionDef _ a _ _ _ _ _ _ _ _ => a
 | _ => { posonlyargs := [], args := [], vararg := none, kwonlyargs := [], kw_defaults := [], kwarg := none, defaults := [] }
def aE (s : Stmt) : List Stmt := match s with
 | .FunctionDef _ _ b _ _ _ _ _ _ _ => b
 | _ => []
def ab (s : Stmt) : Scope := match s with
 | .FunctionDef _ _ _ _ _ _ sc _ _ _ => sc
 | _ => { kind := .function, names := [], isGenerator := false, isCoroutine := false }
abbrev CX0 : CXT := fun _ _ _ _ _ _ => False
abbrev E0 : XK := fun _ _ _ => False
def nA {X : Cx} : fW CX0 X E0 := fun _ _ _ _ _ _ _ h => h.elim
structure Fun (K : PySem.W.Frag) (x qual : Str) (st : Stmt) (f : Addr) (fd : FuncData) : Prop where
 ex : ∃ (oc : Value) (od : Option Addr) (kV doc pm : Value) (an : Option Addr) (cdv ct : Value) (osl : Array (Option Value)),
  fd = PySem.W.fnOf x qual (aK st) (aE st) (ab st) .none kV doc pm an cdv ct /\ K.lookup f = some ⟨oc, od, .func fd, osl⟩ /\ PySem.W.codeIn K cdv qual = true
 kp : PySem.W.keepIn K (.ref f) = true
section
variable {P : Program} {w : World} {K : PySem.W.Frag} {mg : Str -> Option Value} {base : Heap}
def Fun.ok {x qual : Str} {st : Stmt} {f : Addr} {fd : FuncData} {N ps : List Str} {k : Nat} {sp : Sp} (F : Fun K x qual st f fd) (S : FnScope N ps (ab st)) (len : ∀ vs H Q E, sp vs H Q E -> vs.length = ps.length)
  (hbody : ∀ (cdv : Value) (A : Around) (outer : List Env) (s : Shared) (H : Hp) (vs : List V) (Q : VK) (E : XK), Room k (A.deeper (envOfC qual (ab st) s.heap.objs.size f cdv)) -> sp vs H Q E →
   ∃ t, PSs (ig CX0 P w K mg base N qual (ab st) f cdv A outer s H E).nox (aE st) t /\ t { nx := fun _ H' => Q .non H', rt := Q } (cP N vs) H) : FnOk P w K mg base CX0 (k + 1) f fd ps sp := by
 obtain ⟨oc, od, kV, doc, pm, an, cdv, ct, osl, rfl, lk, hcd⟩ := F.ex
 refine xx lk hcd S len fun A outer s H vs Q E hr hsp => ?_
 obtain ⟨t, h, q⟩ := hbody cdv A outer s H vs Q E hr hsp
 exact ⟨t, h.nox, q⟩
def Fun.binds {x qual : Str} {st : Stmt} {f : Addr} {fd : FuncData} {ps : List Str} (F : Fun K x qual st f fd)
  (h : ∀ (kV doc pm : Value) (an : Option Addr) (cdv ct : Value) (us : List Value), us.length = ps.length -> bindArgs (PySem.W.fnOf x qual (aK st) (aE st) (ab st) .none kV doc pm an cdv ct) ⟨us, []⟩ = pure (ps.zip us)) : Binds K fd ps [] := by
 obtain ⟨oc, od, kV, doc, pm, an, cdv, ct, osl, rfl, lk, hcd⟩ := F.ex
 exact .all (h kV doc pm an cdv ct)
def bR {x qual : Str} {st : Stmt} {f : Addr} {oc : Value} {od an : Option Addr} {osl : Array (Option Value)} {kV doc pm cdv ct : Value} (l : K.lookup f = some ⟨oc, od, .func (PySem.W.fnOf x qual (aK st) (aE st) (ab st) .none kV doc pm an cdv ct), osl⟩)
  (c : PySem.W.codeIn K cdv qual = true) (k : PySem.W.keepIn K (.ref f) = true) : Fun K x qual st f (PySem.W.fnOf x qual (aK st) (aE st) (ab st) .none kV doc pm an cdv ct) := ⟨⟨oc, od, kV, doc, pm, an, cdv, ct, osl, rfl, l, c⟩, k⟩
end
def nB {A : Around} {k : Nat} (hr : Room k A) : A.units + 1 < cLine := Nat.lt_of_le_of_lt (Nat.add_le_add_left (by decide : 1 <= 64) _) hr.units
section
variable {X : Cx}
end
def Same (H H' : Hp) : Prop := ∀ b o, H b = some o -> H' b = some o
def Same.refl (H : Hp) : Same H H := fun _ _ h => h
def Same.trans {H H1 H2 : Hp} (a : Same H H1) (b : Same H1 H2) : Same H H2 := fun c o h => b c o (a c o h)
def Same.free {H H' : Hp} (e : Same H H') {l : Addr} (h : H' l = Option.none) : H l = Option.none := by
 cases q : H l with
 | none => rfl
 | some o =>
  rw [e l o q] at h
  cases h
def Same.seq {K : PySem.W.Frag} {H H' : Hp} {a : Addr} {xs : List V} (e : Same H H') (h : SqL K H a xs) : SqL K H' a xs := by
 rcases h with (h | ⟨o, h⟩) | h
 · exact .inl (.inl (e _ _ h))
 · exact .inl (.inr ⟨o, e _ _ h⟩)
 · exact .inr h
section
variable {κ : Type} [DecidableEq κ]
def sD {kvs : List (κ × V)} {k : κ} {v : V} (h : dE kvs k = some v) : k ∈ kvs.map (·.1) := by
 have q : (kvs.any fun kv => decide (kv.1 = k)) = true := by
  rw [gi, h]
  all_goals rfl
 obtain ⟨p, hp, e⟩ := List.any_eq_true.mp q
 exact List.mem_map.mpr ⟨p, hp, of_decide_eq_true e⟩
end
set_option maxRecDepth 100000
set_option maxHeartbeats 4000000
def lh (names : List (Str × NameKind)) (cells : List (Str × Addr)) : List (Str × Addr) :=
 names.foldl (fun cs nk => if nk.2 == NameKind.free then (nk.1, (cells.lookup nk.1).getD 0) :: cs else cs) []
def nC {cells : List (Str × Addr)} {env : Env} (hc : env.cells = cells) : ∀ (names : List (Str × NameKind)) (acc : List (Str × Addr)), (∀ x ∈ names, x.2 = .free -> ∃ c, cells.lookup x.1 = some c) →
  (forIn names acc (fun (x : Str × NameKind) (r : List (Str × Addr)) => if (x.2 == NameKind.free) = true then (do let c <- cellOf env x.1; pure (ForInStep.yield ((x.1, c) :: r))) else (pure (ForInStep.yield r) : Sem _)))
   = (pure (names.foldl (fun cs nk => if nk.2 == NameKind.free then (nk.1, (cells.lookup nk.1).getD 0) :: cs else cs) acc) : Sem (List (Str × Addr)))
 | [], acc, _ => rfl
 | x :: r, acc, h => by
  have ih := fun acc => nC hc r acc fun y hy => h y (List.mem_cons_of_mem _ hy)
  simp only [List.forIn_cons, List.foldl_cons]
  cases e : (x.2 == NameKind.free) with
  | false =>
   simp only [Bool.false_eq_true, if_false]
   exact ih acc
  | true =>
   obtain ⟨c, hcx⟩ := h x List.mem_cons_self (by simpa using e)
   have hcell : cellOf env x.1 = pure c := by unfold cellOf; rw [hc, hcx]
   simp only [if_true, hcell, hcx, Option.getD_some]
   exact ih _
def iM {scope : Scope} {env : Env} (h : ∀ x ∈ scope.names, x.2 = .free -> ∃ c, env.cells.lookup x.1 = some c) : closureFor scope env = pure (lh scope.names env.cells) := by
 have := nC (env := env) rfl scope.names [] h
 unfold closureFor lh
 rw [<- this]
 simp only [bind_pure]
def jC {cells : List (Str × Addr)} : ∀ {names : List (Str × NameKind)} {acc : List (Str × Addr)} {x : Str} {c : Addr}, (∀ y ∈ names, y.2 = .free -> ∃ c, cells.lookup y.1 = some c) →
  (names.foldl (fun cs nk => if nk.2 == NameKind.free then (nk.1, (cells.lookup nk.1).getD 0) :: cs else cs) acc).lookup x = some c -> (∀ c, acc.lookup x = some c -> cells.lookup x = some c) -> cells.lookup x = some c
 | [], acc, x, c, _, h, ha => ha c h
 | y :: r, acc, x, c, hy, h, ha => by
  simp only [List.foldl_cons] at h
  refine jC (fun z hz => hy z (List.mem_cons_of_mem _ hz)) h ?_
  intro c' h'
  split at h'
  · rename_i hf
    obtain ⟨c0, e0⟩ := hy y List.mem_cons_self (by simpa using hf)
    rw [List.lookup_cons] at h'
    split at h'
    · rename_i hx
      have hx' : x = y.1 := by simpa using hx
      rw [e0] at h'
      subst hx'
      rw [e0]
      simpa using h'
    · exact ha c' h'
  · exact ha c' h'
def eh {names : List (Str × NameKind)} {cells : List (Str × Addr)} {x : Str} {c : Addr} (hy : ∀ y ∈ names, y.2 = .free -> ∃ c, cells.lookup y.1 = some c) (h : (lh names cells).lookup x = some c) : cells.lookup x = some c :=
 jC hy h fun c h => by simp at h
def jD {cells : List (Str × Addr)} : ∀ {names : List (Str × NameKind)} {acc : List (Str × Addr)} {x : Str}, ((x, NameKind.free) ∈ names ∨ (acc.lookup x).isSome) →
  ((names.foldl (fun cs nk => if nk.2 == NameKind.free then (nk.1, (cells.lookup nk.1).getD 0) :: cs else cs) acc).lookup x).isSome
 | [], acc, x, h => by simpa using h
 | y :: r, acc, x, h => by
  simp only [List.foldl_cons]
  refine jD ?_
  rcases h with h | h
  · rcases List.mem_cons.mp h with e | h
    · subst e
      right
      simp [List.lookup_cons]
    · exact .inl h
  · right
    split
    · rw [List.lookup_cons]
      split
      · rfl
      · exact h
    · exact h
def lj {names : List (Str × NameKind)} {cells : List (Str × Addr)} {x : Str} (h : (x, NameKind.free) ∈ names) : ∃ c, (lh names cells).lookup x = some c :=
 Option.isSome_iff_exists.mp (jD (.inl h))
structure CmpScope (N : List Str) (outer scope : Scope) (M : List Str) (src : List (Option Nat)) : Prop where
 kind : scope.kind = .function
 nocell : ∀ y ∈ scope.names, y.2 ≠ .cell
 free : ∀ y ∈ scope.names, y.2 = .free -> outer.names.lookup y.1 = some .cell ∨ outer.names.lookup y.1 = some .free
 names : ∀ y ∈ scope.names, y.2 = .local -> scope.names.lookup y.1 = some .local
 lf : ∀ y ∈ scope.names, y.2 = .free -> scope.names.lookup y.1 = some .free
 len : M.length = src.length
 nd : M.Nodup
 src : ∀ p ∈ M.zip src, ∀ j ∈ p.2, N[j]? = some p.1 /\ (p.1, NameKind.free) ∈ scope.names
def stC (src : List (Option Nat)) (σ : St) : St := src.map fun o => o.bind fun j => (σ[j]?).join
noncomputable def cxC (X : Cx) (M : List Str) (scope : Scope) (C : Addr) (s : Shared) (H : Hp) (ex : List Addr) : Cx :=
 { X with N := M, s₀ := s, H₀ := H, env := compEnvC scope (lh scope.names X.env.cells) C X.env, outer := X.stack, ex := ex, fn := fun _ => false, pn := [], xe := fun _ _ => False }
noncomputable def PTs (X : Cx) (ifs : List Expr) (t : TT) : Prop :=
 ∀ (pins : List (Addr × Obj)) (s : Shared) (σ : St) (H : Hp) (Q : Bool -> Hp -> Prop), Inv X pins σ H s -> t σ H Q →
  wpAny (model X.prog X.w) X.A (forIn ifs true fun c r => if r = true then do let ok <- isTrue c X.env (eval c X.env); pure (ForInStep.yield ok) else pure (ForInStep.yield r)) (TP X pins σ Q) X.xe s
def tYes : TT := fun _ H Q => Q true H
def sE {X : Cx} : PTs X [] tYes := fun pins s σ H Q I h => wpAny_tests_nil ⟨H, I, h⟩
def Wk (a b : St) : Prop := a.length = b.length /\ ∀ (i : Nat) v, a[i]? = some (some v) -> b[i]? = some (some v)
noncomputable def jE (src : List (Option Nat)) (wi : TI) (g : TG) (tt : TT) (te : TE) : TE := fun σ H Q => wi σ H fun J H1 => ∀ D, H1 D = none -> ∃ W : Nat -> Nat -> Hp -> Prop, (∃ m, W 0 m (upd H1 D (.lst []))) /\ ∀ i m H, W i m H →
 (J.stop i H /\ Q (.ref D) H) ∨ (J.go i H /\ ∃ N : Hp -> Prop, (∀ H', N H' -> ∃ m', m' < m /\ W (i + 1) m' H') /\ ∀ x H', J.yld i H x H' →
  g x (stC src σ) H' fun σ2 H2 => Wk (stC src σ) σ2 /\ tt σ2 H2 fun b H3 => if b = true then te σ2 H3 fun v H4 => ∃ ys, H4 D = some (.lst ys) /\ ys.length < sizeLine /\ N (upd H4 D (.lst (ys ++ [v]))) else N H3)
def gj {prog : Program} {w : World} {A : Around} {R : Result -> Shared -> Prop} {s : Shared} {elt target iter : Expr} {ifs : List Expr} {scope : Scope} {pos : Pos} {it acc : Value} {env : Env} (I : Nat -> Shared -> Prop)
  (turn : ∀ n s, I n s -> wpAny (model prog w) A (pyNext it) (fun r s₁ => match r with
   | none => R (.ok .next) s₁
   | some v => wpAny (model prog w) A (letOwnedTupleGo target it v) (fun _ s₁' => wpAny (model prog w) A (assign target env v) (fun _ s₂ =>
       wpAny (model prog w) A (forIn ifs true fun c r => if r = true then do let ok <- isTrue c env (eval c env); pure (ForInStep.yield ok) else pure (ForInStep.yield r)) (fun ok s₃ =>
        if ok = true then wpAny (model prog w) A (eval elt env) (fun x s₄ =>
         wpAny (model prog w) A (call (.builtin "list.append") [acc, x]) (fun _ s₅ => ∃ m, m < n /\ I m s₅) (fun _ _ => False) s₄) (fun _ _ => False) s₃
        else ∃ m, m < n /\ I m s₃) (fun _ _ => False) s₂) (fun _ _ => False) s₁') (fun _ _ => False) s₁) (fun _ _ => False) s)
  (n : Nat) (h : I n s) :
  codeAny (model prog w) A (.compLoop (.ListComp elt [⟨target, iter, ifs, 0⟩] scope pos) 0 it acc env) R s := by
 refine codeAny_loop rfl I (fun n s hI => ?_) n h
 show wpAny _ A ((compTurn (.ListComp elt [⟨target, iter, ifs, 0⟩] scope pos) 0 it acc env).onRaise (fun x => do noteFrame x env; theTreesLotGoes x)) _ _ s
 refine wpAny_noted ?_
 rw [compTurn_list]
 refine wB (wpAny_standAt (wB (wpAny_mono (turn n s hI) (fun r s₁ h₁ => ?_) fun _ _ h' => h'.elim)))
 cases r with
 | none => exact wpAny_pure h₁
 | some v =>
  refine wB (wpAny_mono h₁ (fun _ s₁' h₁' => ?_) fun _ _ h' => h'.elim)
  refine wB (wpAny_mono h₁' (fun _ s₂ h₂ => wB (wpAny_mono h₂ (fun ok s₃ h₃ => ?_) fun _ _ h' => h'.elim)) fun _ _ h' => h'.elim)
  cases ok with
  | false => exact wpAny_pure ⟨rfl, h₃⟩
  | true =>
   exact wB (wB (wpAny_mono h₃ (fun x s₄ h₄ => wB (wpAny_mono h₄ (fun _ s₅ h₅ => wpAny_pure (wpAny_pure ⟨rfl, h₅⟩)) fun _ _ h' => h'.elim)) fun _ _ h' => h'.elim))
section
variable {X : Cx} {elt tg iter : Expr} {ifs : List Expr} {scope : Scope} {pos : Pos} {M : List Str} {src : List (Option Nat)} {wi : TI} {g : TG} {tt : TT} {te : TE}
def j7 {env : Env} {scope : Scope} {x : Str} (hn : ∀ y ∈ scope.names, y.2 ≠ .cell) (h : (relabel scope env).names.lookup x = some .cell ∨ (relabel scope env).names.lookup x = some .free) : (x, NameKind.free) ∈ scope.names := by
 have key : ∀ k, (relabel scope env).names.lookup x = some k -> (k = .cell ∨ k = .free) -> (x, NameKind.free) ∈ scope.names := by
  intro k hk hkk
  have hm := PySem.mem_of_lookup hk
  unfold relabel at hm
  obtain ⟨⟨n, k0⟩, hy, e⟩ := List.mem_map.mp hm
  dsimp only at e
  split at e
  · rename_i hc
    simp only [Bool.and_eq_true] at hc
    have : k0 = .free := by simpa using hc.1.1
    subst this
    cases e
    exact hy
  · cases e
    rcases hkk with z | z
    · subst z; exact absurd rfl (hn _ hy)
    · subst z; exact hy
 rcases h with h | h
 · exact key _ h (.inl rfl)
 · exact key _ h (.inr rfl)
def ll {pins : List (Addr × Obj)} {σ : St} {H : Hp} {s s1 : Shared} {fp : List Addr} {m1 : Str -> Option Value} (S : CmpScope X.N X.env.scope scope M src) (I : Inv X pins σ H s) (hf : ∀ b ∈ fp, fS X pins H b)
  (hfl : ∀ b ∈ fp, b < s.heap.objs.size) (hn : s1.heap.Ns s.heap.objs.size m1) (hk : ∀ b o, s.heap.get? b = some o -> s1.heap.get? b = some o) (hos : s1.os = s.os) (hg : s1.gens = s.gens) :
  Inv (cxC X M scope s.heap.objs.size s H fp) [] (stC src σ) H s1 := by
 have hcells : ∀ x ∈ scope.names, x.2 = .free -> ∃ c, X.env.cells.lookup x.1 = some c := fun x hx hfr => I.ok.has x.1 (S.free x hx hfr)
 have sub : ∀ x c, (lh scope.names X.env.cells).lookup x = some c -> X.env.cells.lookup x = some c := fun x c h => eh hcells h
 have cellK : ∀ c v, s.heap.IsCell c v -> s1.heap.IsCell c v := fun c v ⟨o, ho, hd⟩ => ⟨o, hk c o ho, hd⟩
 refine ⟨⟨I.ok.mod, S.kind, I.ok.glob, I.ok.blt, nL _, fun y z c h1 h2 => I.ok.inj y z c (sub _ _ h1) (sub _ _ h2), fun x hx => lj (j7 S.nocell hx), fun x c h => (nomatch h), I.ok.hd, I.ok.frames, .inl rfl,
  fun b hb => ⟨Nat.ne_of_lt (hfl b hb), fun x c h => (hf b hb).2.2.2.2.1 x c (sub _ _ h)⟩, I.bs, Nat.le_trans I.ok.bsz I.sz, fun b o e hb => ?_, fun b hb z => ?_, I.stack, I.stkFree⟩,
  hos, (by rw [hg]; exact I.bare), Un.kept hk, ⟨m1, hn, fun i x v h1 h2 h3 => ?_⟩, fun x c h => ?_, I.hok.fresh (Nat.le_refl _), fun x c h => I.freeC x c (sub _ _ h), fun p hp => absurd hp (by simp [cxC]), I.hok.kept hk, ?_⟩
 · rcases (hf b hb).2.2.2.1 with z | z
   · exact I.ok.noex b o e z
   · exact absurd (Nat.lt_of_lt_of_le (Heap.lt_size e) (Nat.le_trans I.ok.bsz z)) (Nat.lt_irrefl _)
 · rcases List.mem_cons.mp (I.stkSub b z) with q | q
   · exact (hf b hb).2.1 q
   · exact (hf b hb).2.2.1 q
 · -- a name taken over
   have h1 : M[i]? = some x := h1
   unfold stC at h2
   rw [List.getElem?_map] at h2
   cases hs : src[i]? with
   | none => rw [hs] at h2; cases h2
   | some o =>
    rw [hs] at h2
    simp only [Option.map_some, Option.some.injEq] at h2
    cases o with
    | none => cases h2
    | some j =>
     simp only [Option.bind_some] at h2
     have hmem : (x, some j) ∈ M.zip src := by
      have : (M.zip src)[i]? = some (x, some j) := by rw [List.getElem?_zip_eq_some]; exact ⟨h1, hs⟩
      exact List.mem_of_getElem? this
     obtain ⟨hN, hfr⟩ := S.src _ hmem j rfl
     have hσ : σ[j]? = some (some v) := by
      cases e : σ[j]? with
      | none => rw [e] at h2; cases h2
      | some o => rw [e] at h2; simp only [Option.join_some] at h2; rw [h2]
     have hkind := S.free _ hfr rfl
     obtain ⟨m, hm, hl⟩ := I.loc
     obtain ⟨u, r, l⟩ := hl j x v hN hσ (.inr hkind)
     refine ⟨u, r, ?_⟩
     have hloc : X.env.kindOf x ≠ some .local := by
      show X.env.scope.names.lookup x ≠ _
      rcases hkind with q | q <;> rw [q] <;> decide
     rcases l with l | ⟨_, c, e, z⟩
     · exact absurd l.1 hloc
     · obtain ⟨c', e'⟩ := lj (cells := X.env.cells) hfr
       have := sub _ _ e'
       rw [e] at this
       cases this
       refine .inr ⟨?_, c, e', cellK _ _ z⟩
       rcases h3 with q | q
       · exact absurd q (by
          -- a name that is free in the block is not local there
          exact (by
           intro q
           have : scope.names.lookup x = some .local := by
            have hb : ∀ (names : List (Str × NameKind)), (names.map fun (n, k) => if (k == NameKind.free && X.env.scope.kind == .function && X.env.kindOf n == some .cell) then (n, NameKind.cell) else (n, k)).lookup x = some .local -> names.lookup x = some .local := by
             intro names
             induction names with
             | nil => intro h; simp at h
             | cons y r ih =>
              obtain ⟨n, k⟩ := y
              intro h
              simp only [List.map_cons] at h
              by_cases hx : x = n
              · subst hx
                split at h
                · simp [List.lookup_cons] at h
                · simpa [List.lookup_cons] using h
              · have hx' : (x == n) = false := by simpa using hx
                split at h
                · simp only [List.lookup_cons, hx'] at h ⊢; exact ih h
                · simp only [List.lookup_cons, hx'] at h ⊢; exact ih h
            exact hb _ q
           rw [S.lf _ hfr rfl] at this
           cases this))
       · exact q
 · obtain ⟨v, z⟩ := I.cell x c (sub _ _ h)
   exact ⟨v, cellK _ _ z⟩
 · show (stC src σ).length = M.length
   unfold stC
   rw [List.length_map, S.len]
def lm (S : CmpScope X.N X.env.scope scope M src) (hc : X.calm = true) (hi : PI X tg iter wi) (hg : M.Nodup -> ∀ C s H ex, PG (cxC X M scope C s H ex) tg g) (ht : ∀ C s H ex, PTs (cxC X M scope C s H ex) ifs tt)
  (he : ∀ C s H ex, PE (cxC X M scope C s H ex) elt te) (hs : ∀ x, foldedSetIterable iter X.env x = pure x := by intro _; rfl) :
  PE X (.ListComp elt [⟨tg, iter, ifs, 0⟩] scope pos) (jE src wi g tt te) := by
 intro pins s σ H Q I h
 rw [eval_ListComp]
 have hcells : ∀ x ∈ scope.names, x.2 = .free -> ∃ c, X.env.cells.lookup x.1 = some c := fun x hx hfr => I.ok.has x.1 (S.free x hx hfr)
 refine wpAny_comprehension_free (use := none) rfl hs (iM hcells) S.kind S.names (thn (hi pins s σ H _ I h) fun v s1 h1 => thn h1 fun itv s2 h2 => ?_)
 obtain ⟨it, fp, tn, J, H2, rfl, I2, T, st2, f2, hq⟩ := h2
 refine wpAny_newObj_type ?_
 have I3 : Inv X pins σ (upd H2 s2.heap.objs.size (.lst [])) { s2 with heap := s2.heap.push { cls := .type "list", dict := none, data := .seq ([] : List Value).toArray }, toks := s2.toks } := I2.lnew (its := []) (ys := []) (t' := s2.toks) .nil (by simp)
 have hD : H2 s2.heap.objs.size = none := I2.fresh
 obtain ⟨W, ⟨m0, w0⟩, turn⟩ := hq _ hD
 generalize hDn : s2.heap.objs.size = D at *
 generalize hs3 : ({ s2 with heap := s2.heap.push { cls := .type "list", dict := none, data := .seq ([] : List Value).toArray }, toks := s2.toks } : Shared) = s3 at *
 have f3 : ∀ b ∈ fp, fS X pins (upd H2 D (.lst [])) b := fun b hb => ⟨by
  obtain ⟨o, e, _⟩ := T.obj _ _ st2 b hb
  rw [ay (by rw [<- hDn]; exact Nat.ne_of_lt (Heap.lt_size e))]
  exact (f2 b hb).1, (f2 b hb).2⟩
 have k23 : ∀ b o, s2.heap.get? b = some o -> s3.heap.get? b = some o := fun b o e => by rw [<- hs3]; exact gP _ e
 have st3 : tn 0 s3.heap := T.keep _ _ _ st2 fun b _ o e => k23 b o e
 have fl3 : ∀ b ∈ fp, b < s3.heap.objs.size := fun b hb => by
  obtain ⟨o, e, _⟩ := T.obj _ _ st3 b hb
  exact Heap.lt_size e
 refine wpAny_newFunctionEnv S.nocell (by intro y hy; simp at hy) (fun h₁ hns₁ hsb₁ => ?_) S.kind
 have k34 : ∀ b o, s3.heap.get? b = some o -> h₁.get? b = some o := fun b o e => hsb₁.extBut b o (Nat.ne_of_lt (Heap.lt_size e)) (gP _ e)
 generalize hs4 : ({ s3 with heap := h₁, toks := s3.toks + ([] : List (Str × Value)).length } : Shared) = s4
 have I4 : Inv (cxC X M scope s3.heap.objs.size s3 (upd H2 D (.lst [])) fp) [] (stC src σ) (upd H2 D (.lst [])) s4 := by
  rw [<- hs4]
  exact ll S I3 f3 fl3 hns₁ k34 rfl rfl
 have st4 : tn 0 s4.heap := T.keep _ _ _ st3 fun b _ o e => by rw [<- hs4]; exact k34 b o e
 generalize hX' : cxC X M scope s3.heap.objs.size s3 (upd H2 D (.lst [])) fp = X' at *
 have hg' : PG X' tg g := by rw [<- hX']; exact hg S.nd _ _ _ _
 have ht' : PTs X' ifs tt := by rw [<- hX']; exact ht _ _ _ _
 have he' : PE X' elt te := by rw [<- hX']; exact he _ _ _ _
 have eP : X'.prog = X.prog := by rw [<- hX']; rfl
 have eW : X'.w = X.w := by rw [<- hX']; rfl
 have eK : X'.K = X.K := by rw [<- hX']; rfl
 have eA : X'.A = X.A := by rw [<- hX']; rfl
 have ex' : X'.xe = fun _ _ => False := by rw [<- hX']; rfl
 have ec : X'.calm = true := by rw [<- hX']; exact hc
 have eE : X'.env = compEnvC scope (lh scope.names X.env.cells) s3.heap.objs.size X.env := by rw [<- hX']; rfl
 have stat : ∀ {H' : Hp}, (∀ b ∈ fp, H' b = none) -> ∀ b ∈ fp, fS X' [] H' b := fun hn b hb => by
  rw [<- hX']
  refine ⟨hn b hb, Nat.ne_of_lt (fl3 b hb), fun z => ?_, .inl hb, fun x c h => (f3 b hb).2.2.2.2.1 x c (eh hcells h), fun p hp => absurd hp (by simp [cxC])⟩
  rcases List.mem_cons.mp (I3.stkSub b z) with q | q
  · exact (f3 b hb).2.1 q
  · exact (f3 b hb).2.2.1 q
 -- behind the block
 have fin : ∀ (H' : Hp) (s' : Shared), Inv X' [] (stC src σ) H' s' -> Q (.ref D) H' -> compPost (model X.prog X.w) X.A X.xe none (EP X pins σ Q) (.ref D) s3.heap.objs.size (.ok .next) s' := by
  intro H' s' J' q
  rw [<- hX'] at J'
  obtain ⟨m, hn, _⟩ := id J'.loc
  refine ⟨m, hn, fun h' sb => ⟨.ref D, H', ?_, rfl, q⟩⟩
  have hC : H' s3.heap.objs.size = none := J'.free
  have un : Un (frs X.stack) fp (upd H2 D (.lst [])) H' s3.heap s'.heap := J'.base
  have kC : ∀ b o, b ≠ s3.heap.objs.size -> s'.heap.get? b = some o -> h'.get? b = some o := fun b o hb e => sb.extBut b o hb e
  have un' : Un (frs X.stack) fp (upd H2 D (.lst [])) H' s3.heap h' :=
   ⟨fun b o e n hb hx => kC b o (Nat.ne_of_lt (Heap.lt_size e)) (un.keep b o e n hb hx),
    fun b o e n hb hx => by
     obtain ⟨sl, e'⟩ := un.slot b o e n hb hx
     exact ⟨sl, kC b _ (Nat.ne_of_lt (Heap.lt_size e)) e'⟩,
    un.free,
    fun b o e hx => by
     obtain ⟨o', e'⟩ := un.there b o e hx
     exact ⟨o', kC b _ (Nat.ne_of_lt (Heap.lt_size e)) e'⟩, un.tups, un.frzs, un.tbls⟩
  have hok' : HOk X.prog X.w H' h' := fun b u e => by
   have nb : b ≠ s3.heap.objs.size := fun z => by rw [z, hC] at e; cases e
   refine (J'.hok b u e).stay (fun c v hc' q => kC c v ?_ q) (fun _ q => q) fun _ _ q => q
   rcases hc' with z | z
   · rw [z]; exact nb
   · intro w; rw [w, hC] at z; cases z
  exact I3.call' (s' := { s' with heap := h' }) (show s'.os = s3.os from J'.os) un' hok' J'.bare fun b hb => ⟨(f3 b hb).2.2.2.1, (f3 b hb).2.1, (f3 b hb).2.2.2.2.1, (f3 b hb).2.2.2.2.2⟩
 have loop : ∀ s4' : Shared, s4' = s4 -> codeAny (model X.prog X.w) X.A (.compLoop (.ListComp elt [⟨tg, iter, ifs, 0⟩] scope pos) 0 (.ref it) (.ref D) X'.env) (compPost (model X.prog X.w) X.A X.xe none (EP X pins σ Q) (.ref D) s3.heap.objs.size) s4' := by
  rintro _ rfl
  refine gj (fun n s' => ∃ i H', Inv X' [] (stC src σ) H' s' /\ tn i s'.heap /\ (∀ b ∈ fp, H' b = none) /\ W i n H') ?_ m0 ⟨0, _, I4, st4, fun b hb => (f3 b hb).1, w0⟩
  rintro n s5 ⟨i, H5, I5, st5, fr5, w5⟩
  rcases turn i n H5 w5 with ⟨stop, qn⟩ | ⟨go, N, hN, step⟩
  · have := T.done X' eP eW eK ec i [] s5 (stC src σ) H5 (fun _ _ => False) I5 (stat fr5) st5 stop
    rw [eA] at this
    refine thn this fun r s6 ⟨hr, I6⟩ => ?_
    subst hr
    exact fin H5 s6 I6 qn
  · have := T.item X' eP eW eK ec i [] s5 (stC src σ) H5 (fun _ _ => False) I5 (stat fr5) st5 go
    rw [eA] at this
    refine thn this fun r s6 ⟨u, hr, h6⟩ => ?_
    subst hr
    refine thn h6 fun _ s7 ⟨x, H7, I7, r7, y7, st7, fr7⟩ => ?_
    have I7' := I7.pinned (stat fr7) (T.obj _ _ st7)
    have a1 := hg' _ s7 (stC src σ) H7 x u _ I7' r7 (step x H7 y7)
    rw [ex', eP, eW, eA] at a1
    refine thn a1 fun _ s8 ⟨σ8, H8, I8, wk8, q8⟩ => ?_
    have a2 := ht' _ s8 σ8 H8 _ I8 q8
    rw [ex', eP, eW, eA] at a2
    refine thn a2 fun ok s9 ⟨H9, I9, q9⟩ => ?_
    have again : ∀ {H7' : Hp} {s' : Shared}, Inv X' ([] ++ gG fp s7.heap) σ8 H7' s' -> N H7' -> ∃ m, m < n /\ ∃ i H', Inv X' [] (stC src σ) H' s' /\ tn i s'.heap /\ (∀ b ∈ fp, H' b = none) /\ W i m H' := fun {H7' s'} J7 n7 => by
     obtain ⟨m', hm, w7⟩ := hN H7' n7
     refine ⟨m', hm, i + 1, H7', J7.unpinned.weak wk8.1 wk8.2, T.keep _ _ _ st7 fun b hb o e => (J7.pin (b, o) (List.mem_append_right _ (List.mem_append_right _ (cE hb e)))).1, fun b hb => ?_, w7⟩
     obtain ⟨o, e, d⟩ := T.obj _ _ st7 b hb
     exact (J7.pin (b, o) (List.mem_append_right _ (List.mem_append_right _ (cE hb e)))).2.1
    cases ok with
    | false => exact again I9 q9
    | true =>
     have a3 := he' _ s9 σ8 H9 _ I9 q9
     rw [ex', eP, eW, eA] at a3
     refine thn a3 fun v s10 ⟨y, H10, I10, r10, ys, hl, hz, q10⟩ => ?_
     have a4 := fG (X := X') _ s10 σ8 H10 (.ref D) [y] (.ref D) [v] (fun _ H' => N H') I10 rfl (.cons r10 .nil) ⟨D, ys, y, rfl, rfl, hl, hz, q10⟩
     rw [ex', eP, eW, eA] at a4
     refine thn a4 fun _ s11 ⟨_, H11, I11, _, q11⟩ => ?_
     exact again I11 q11
 have e4 : ∀ c : Env, c = X'.env -> codeAny (model X.prog X.w) X.A (.compStart (.ListComp elt [⟨tg, iter, ifs, 0⟩] scope pos) 0 (.ref it) (.ref D) c) (compPost (model X.prog X.w) X.A X.xe none (EP X pins σ Q) (.ref D) s3.heap.objs.size) s4 := by
  rintro _ rfl
  exact codeAny_compStart_list (loop _ rfl) (T.self _ _ _ _ _ st4 (loop _ rfl))
 exact e4 _ (by rw [eE]; rfl)
end
def Its (x : Str) : It := ⟨fun i _ => i < x.cps.size, fun i H v H' => H' = H /\ ∃ c, x.cps[i]? = some c /\ v = .str ⟨#[c]⟩, fun i _ => i = x.cps.size⟩
def o9 {P : Program} {w : World} {K : PySem.W.Frag} {tg : Expr} (x : Str) (t : Tok) (it : Addr) : Turn P w K tg (Its x) [it] it (fun i h => h.IsStrIter it "str_ascii_iterator" x t i) where
 mem := by simp
 obj := fun i h st b hb => by
  have e : b = it := by simpa using hb
  subst e
  obtain ⟨o, e, c, d⟩ := st
  exact ⟨o, e, fun v z => by rw [d] at z; cases z⟩
 keep := fun i h h' st k => let ⟨o, ho, r⟩ := st; ⟨o, k it (by simp) o ho, r⟩
 item := by
  intro X hP hw hK hc i pins s σ H E I hf st hg
  subst hP hw hK
  obtain ⟨f0, f1, f2, f3, f4, f5⟩ := hf it (by simp)
  have hg : i < x.cps.size := hg
  refine wpAny_pyNext_ascii_item st (c := x.cps[i]) (by simp [hg]) fun h' st' sb => ?_
  have I1 : Inv X pins σ H { s with heap := h', toks := s.toks + 1 } := I.turned (t' := s.toks + 1) (fun b o hb e => (sb.2 b hb).trans e) f0 f1 f3 f4 f5
  obtain ⟨o, e, c, d⟩ := id st'
  exact ⟨_, rfl, jr (s := { s with heap := h', toks := s.toks + 1 }) e c d (by decide) ⟨.str ⟨#[x.cps[i]]⟩, H, I1, ⟨_, rfl⟩, ⟨rfl, x.cps[i], by simp [hg], rfl⟩, st', fun b hb => (hf b hb).1⟩⟩
 done := by
  intro X hP hw hK hc i pins s σ H E I hf st hg
  subst hP hw hK
  have hg : i = x.cps.size := hg
  obtain ⟨f0, f1, f2, f3, f4, f5⟩ := hf it (by simp)
  exact wpAny_pyNext_ascii_end (I.ok.hd hc) st (by simp [hg]) fun h' eb => ⟨rfl, I.turned (t' := s.toks) (fun b o hb e => eb b o hb e) f0 f1 f3 f4 f5⟩
 self := fun _ _ _ _ _ st h => wpAny_pyIter_striter_ascii st h
def pc {P : Program} {w : World} {K : PySem.W.Frag} {tg : Expr} (x : Str) (t : Tok) (it : Addr) : Turn P w K tg (Its x) [it] it (fun i h => h.IsStrIter it "str_iterator" x t i) where
 mem := by simp
 obj := fun i h st b hb => by
  have e : b = it := by simpa using hb
  subst e
  obtain ⟨o, e, c, d⟩ := st
  exact ⟨o, e, fun v z => by rw [d] at z; cases z⟩
 keep := fun i h h' st k => let ⟨o, ho, r⟩ := st; ⟨o, k it (by simp) o ho, r⟩
 item := by
  intro X hP hw hK hc i pins s σ H E I hf st hg
  subst hP hw hK
  obtain ⟨f0, f1, f2, f3, f4, f5⟩ := hf it (by simp)
  have hg : i < x.cps.size := hg
  refine wpAny_pyNext_wide_item st (c := x.cps[i]) (by simp [hg]) fun h' st' sb => ?_
  have I1 : Inv X pins σ H { s with heap := h', toks := s.toks + 1 } := I.turned (t' := s.toks + 1) (fun b o hb e => (sb.2 b hb).trans e) f0 f1 f3 f4 f5
  obtain ⟨o, e, c, d⟩ := id st'
  exact ⟨_, rfl, jr (s := { s with heap := h', toks := s.toks + 1 }) e c d (by decide) ⟨.str ⟨#[x.cps[i]]⟩, H, I1, ⟨_, rfl⟩, ⟨rfl, x.cps[i], by simp [hg], rfl⟩, st', fun b hb => (hf b hb).1⟩⟩
 done := by
  intro X hP hw hK hc i pins s σ H E I hf st hg
  subst hP hw hK
  have hg : i = x.cps.size := hg
  obtain ⟨f0, f1, f2, f3, f4, f5⟩ := hf it (by simp)
  exact wpAny_pyNext_wide_end (I.ok.hd hc) st (by simp [hg]) fun h' eb => ⟨rfl, I.turned (t' := s.toks) (fun b o hb e => eb b o hb e) f0 f1 f3 f4 f5⟩
 self := fun _ _ _ _ _ st h => wpAny_pyIter_striter_wide st h
section
variable {X : Cx} {tg : Expr}
def iStr (tl : TE) : TI := fun σ H R => tl σ H fun v H1 => ∃ x, v = .str x /\ R (Its x) H1
def qg {l : Expr} {tl : TE} (hl : PE X l tl) : PI X tg l (iStr tl) := by
 intro pins s σ H R I h
 refine thn (hl pins s σ H _ I h) fun v s1 ⟨y, H1, I1, r1, q1⟩ => ?_
 obtain ⟨x, e, q⟩ := q1
 subst e
 obtain ⟨t, rfl⟩ := r1
 have fin : ∀ b ∈ [s1.heap.objs.size], fS X pins H1 b := fun b hb => by
  have e : b = s1.heap.objs.size := by simpa using hb
  subst e
  exact I1.fpOk (nL _) (I1.hok.fresh (nL _))
 cases ha : x.cps.all (· < 128)
 · refine wpAny_pyIter_wide ha ?_
   exact ⟨s1.heap.objs.size, [s1.heap.objs.size], _, _, H1, rfl, I1.kept (t' := s1.toks) fun b o e => gP _ e, pc x t _, ⟨_, Heap.get?_push_size _ rfl, rfl, rfl⟩, fin, q⟩
 · refine wpAny_pyIter_ascii ha ?_
   exact ⟨s1.heap.objs.size, [s1.heap.objs.size], _, _, H1, rfl, I1.kept (t' := s1.toks) fun b o e => gP _ e, o9 x t _, ⟨_, Heap.get?_push_size _ rfl, rfl, rfl⟩, fin, q⟩
def jF : ∀ {ts : List Str} {us : List Value}, Vals (ts.map V.str) us -> ∃ l, us = strValues l /\ l.map (·.1) = ts
 | [], _, .nil => ⟨[], rfl, rfl⟩
 | x :: r, _, .cons h t => by
  obtain ⟨tk, rfl⟩ := h
  obtain ⟨l, e1, e2⟩ := jF t
  exact ⟨(x, tk) :: l, by rw [e1]; rfl, by rw [<- e2]; rfl⟩
def sF : MtR X "str.join" (fun x vs H Q => ∃ (a : Str) (l : Addr) (ts : List Str), x = .str a /\ vs = [.ref l] /\ SqL X.K H l (ts.map V.str) /\ JoinOk a ts = true /\ Q (.str (Txt.join a ts)) H) := by
 intro pins s σ H x vs v us Q I rx rv h
 obtain ⟨a, l, ts, rfl, rfl, hq, hj, q⟩ := h
 obtain ⟨t, rfl⟩ := rx
 obtain ⟨u, rfl, ru⟩ := rv.one
 cases ru
 obtain ⟨its, r, p, hz⟩ := I.list hq
 obtain ⟨ls, rfl, e2⟩ := jF r
 exact SC.join p.isList e2 hj fun t' k => ⟨.str _, H, I.tok _, ⟨_, rfl⟩, q⟩
def nE {v : Value} {o : Option Int} (h : IsPart v o) : ∃ p : Option (Int × Tok), v = partValue p /\ o = p.map (·.1) := by
 cases o with
 | none => exact ⟨none, by cases h <;> rfl, rfl⟩
 | some i =>
  cases h
  exact ⟨some (i, _), rfl, rfl⟩
def rSlS : V -> Option Int -> Option Int -> Hp -> VK -> Prop := fun x lo hi H Q => ∃ z, x = .str z /\ z.length <= sizeLine /\ Q (.str (Txt.slice z lo hi)) H
def vT : SlR X rSlS := by
 intro pins s σ H x v vl vu lo hi sl Q I rx hs pl pu h
 obtain ⟨z, rfl, hz, q⟩ := h
 obtain ⟨t, rfl⟩ := rx
 obtain ⟨l, rfl, rfl⟩ := nE pl
 obtain ⟨u, rfl, rfl⟩ := nE pu
 refine ⟨"str", _, F.slot_str_getitem.lookup, typeIs_str _ _ _, ?_⟩
 exact wpAny_getItem_str_slice (l := l) (u := u) (st := none) hs rfl (post_val_or_str ⟨Nat.le_trans (Txt.slice_le z _ _) hz, fun t' k => ⟨.str _, H, I.tok _, ⟨_, rfl⟩, q⟩⟩)
end
def cN : bootBuiltins "len" = some (.builtin "len") := by first | exact PySem.boot_len | exact PyProof.Rows.boot_len | decide +kernel
def jn : bootBuiltins "isinstance" = some (.builtin "isinstance") := by first | exact PySem.boot_isinstance | exact PyProof.Rows.boot_isinstance | decide +kernel
def vU : bootBuiltins "min" = some (.builtin "min") := by first | exact PySem.boot_min | exact PyProof.Rows.boot_min | decide +kernel
def vV : bootBuiltins "int" = some (.type "int") := by first | exact PySem.boot_int | exact PyProof.Rows.boot_int | decide +kernel
def qh : bootBuiltins "str" = some (.type "str") := by first | exact PySem.boot_str | exact PyProof.Rows.boot_str | decide +kernel
def sG : bootBuiltins "bool" = some (.type "bool") := by first | exact PySem.boot_bool | exact PyProof.Rows.boot_bool | decide +kernel
def iN : bootBuiltins "tuple" = some (.type "tuple") := by first | exact PySem.boot_tuple | exact PyProof.Rows.boot_tuple | decide +kernel
def fH : bootBuiltins "list" = some (.type "list") := by first | exact PySem.boot_list | exact PyProof.Rows.boot_list | decide +kernel
def nF : bootBuiltins "dict" = some (.type "dict") := by first | exact PySem.boot_dict | exact PyProof.Rows.boot_dict | decide +kernel
def j8 : bootBuiltins "enumerate" = some (.type "enumerate") := by first | exact PySem.boot_enumerate | exact PyProof.Rows.boot_enumerate | decide +kernel
structure OkF (P : Program) (w : World) (K : PySem.W.Frag) (mg : Str -> Option Value) (base : Heap) (x : Str) (k : Nat) (ps : List Str) (sp : Sp) : Prop where
 ex : ∃ f fd, mg x = some (.ref f) /\ PySem.W.keepIn K (.ref f) = true /\ Binds K fd ps [] /\ FnOk P w K mg base CX0 k f fd ps sp
structure DefF (K : PySem.W.Frag) (mg : Str -> Option Value) (x : Str) (st : Stmt) (ps : List Str) : Prop where
 ex : ∃ f fd, mg x = some (.ref f) /\ PySem.W.keepIn K (.ref f) = true /\ Binds K fd ps [] /\ Fun K x x st f fd
section
variable {P : Program} {w : World} {K : PySem.W.Frag} {mg : Str -> Option Value} {base : Heap}
def DefF.ok {x : Str} {st : Stmt} {N ps : List Str} {k : Nat} {sp : Sp} (F : DefF K mg x st ps) (S : FnScope N ps (ab st)) (len : ∀ vs H Q E, sp vs H Q E -> vs.length = ps.length)
  (hbody : ∀ (f : Addr) (cdv : Value) (A : Around) (outer : List Env) (s : Shared) (H : Hp) (vs : List V) (Q : VK) (E : XK), Room k (A.deeper (envOfC x (ab st) s.heap.objs.size f cdv)) -> sp vs H Q E →
   ∃ t, PSs (ig CX0 P w K mg base N x (ab st) f cdv A outer s H E).nox (aE st) t /\ t { nx := fun _ H' => Q .non H', rt := Q } (cP N vs) H) : OkF P w K mg base x (k + 1) ps sp := by
 obtain ⟨f, fd, h1, h2, h3, h4⟩ := F.ex
 exact ⟨f, fd, h1, h2, h3, h4.ok S len (hbody f)⟩
def DefF.mk' {x : Str} {st : Stmt} {ps : List Str} {f : Addr} {oc : Value} {od an : Option Addr} {osl : Array (Option Value)} {kV doc pm cdv ct : Value} {h : Heap} (X : K.In h) (G : h.Ns mainGlobals mg)
  (a : PySem.W.nsIn K mainGlobals x = some (some (.ref f)))
  (l : K.lookup f = some ⟨oc, od, .func (PySem.W.fnOf x x (aK st) (aE st) (ab st) .none kV doc pm an cdv ct), osl⟩) (c : PySem.W.codeIn K cdv x = true) (k : PySem.W.keepIn K (.ref f) = true)
  (hb : ∀ (kV doc pm : Value) (an : Option Addr) (cdv ct : Value) (us : List Value), us.length = ps.length -> bindArgs (PySem.W.fnOf x x (aK st) (aE st) (ab st) .none kV doc pm an cdv ct) ⟨us, []⟩ = pure (ps.zip us)) : DefF K mg x st ps :=
 ⟨f, _, PySem.W.mg_of X G a, k, (bR l c k).binds hb, bR l c k⟩
end
section
variable {X : Cx} {k : Nat} {ps : List Str} {sp : Sp} {x : Str} {p pos : Pos} {e : Expr} {es : List Expr} {t : TA}
def qi (F : OkF X.prog X.w X.K X.mg X.base x k ps sp) (hr : Room k X.A) (hg : Gl X x) (ha : PA X (e :: es) t) (hdb : (x == ("__debug__" : Str)) = false := by decide)
  (he : starEach (e :: es) X.env = (false, eval e X.env) :: starEach es X.env := by rfl) (hpl : (backTo pos (starEach es X.env)).any (·.1) = false := by rfl) : PE X (.Call (.Name x p) (e :: es) [] pos) (pV sp [] E0 t) := by
 obtain ⟨f, fd, h1, h2, h3, h4⟩ := F.ex
 exact sf h4 hr hg h1 h2 h3 .nil nA ha hdb he hpl
end
noncomputable def uB (N : List Str) (outer scope : Scope) (M : List Str) (src : List (Option Nat)) : Bool :=
 (match scope.kind with | .function => true | _ => false) &&
 scope.names.all (fun y => decide (y.2 ≠ .cell)) &&
 scope.names.all (fun y => !decide (y.2 = .free) || (decide (outer.names.lookup y.1 = some .cell) || decide (outer.names.lookup y.1 = some .free))) &&
 scope.names.all (fun y => !decide (y.2 = .local) || decide (scope.names.lookup y.1 = some .local)) &&
 scope.names.all (fun y => !decide (y.2 = .free) || decide (scope.names.lookup y.1 = some .free)) &&
 decide (M.length = src.length) && decide M.Nodup &&
 (M.zip src).all (fun p => match p.2 with | none => true | some j => decide (N[j]? = some p.1) && decide ((p.1, NameKind.free) ∈ scope.names))
def CmpScope.of {N : List Str} {outer scope : Scope} {M : List Str} {src : List (Option Nat)} (h : uB N outer scope M src = true) : CmpScope N outer scope M src := by
 unfold uB at h
 simp only [Bool.and_eq_true, List.all_eq_true, Bool.or_eq_true, Bool.not_eq_true', decide_eq_true_eq, decide_eq_false_iff_not] at h
 obtain ⟨⟨⟨⟨⟨⟨⟨h1, h2⟩, h3⟩, h4⟩, h5⟩, h6⟩, h7⟩, h8⟩ := h
 refine ⟨?_, h2, fun y hy e => (h3 y hy).resolve_left fun z => z e, fun y hy e => (h4 y hy).resolve_left fun z => z e, fun y hy e => (h5 y hy).resolve_left fun z => z e, h6, h7, fun p hp j hj => ?_⟩
 · revert h1
   cases scope.kind <;> simp
 · have := h8 p hp
   cases e : p.2 with
   | none => rw [e] at hj; cases hj
   | some j' =>
    rw [e] at hj this
    cases hj
    simpa using this
def Plain (J : It) (xs : List V) (ok : Hp -> Prop) : Prop := ∀ i H, ok H -> (i < xs.length -> J.go i H) /\ (i = xs.length -> J.stop i H) /\ ∀ x H', i < xs.length -> J.yld i H x H' -> H' = H /\ xs[i]? = some x
def plain_list {K : PySem.W.Frag} {a : Addr} {xs : List V} : Plain (Itl K a) xs (fun H => SqL K H a xs) := fun i H h =>
 ⟨fun hi => ⟨xs, xs[i], h, by simp [hi]⟩, fun e => ⟨xs, h, by omega⟩, fun x H' _ y => ⟨y.1, y.2 xs h⟩⟩
def plain_tup {K : PySem.W.Frag} {a : Addr} {xs : List V} : Plain (Itt K a) xs (fun H => SqT K H a xs) := fun i H h =>
 ⟨fun hi => ⟨xs, xs[i], h, by simp [hi]⟩, fun e => ⟨xs, h, by omega⟩, fun x H' _ y => ⟨y.1, y.2 xs h⟩⟩
def iO (lo : Int) (n : Nat) : List V := (List.range n).map fun (i : Nat) => V.int (lo + i)
def plain_range {lo : Int} {n : Nat} : Plain (Itr lo n) (iO lo n) (fun _ => True) := fun i H h => by
 refine ⟨fun hi => ?_, fun e => ?_, fun x H' hi y => ?_⟩
 · show i < n
   simpa [iO] using hi
 · show n <= i
   simp [iO] at e
   omega
 · obtain ⟨e, rfl⟩ := y
   refine ⟨e, ?_⟩
   unfold iO at hi ⊢
   rw [List.length_map, List.length_range] at hi
   rw [List.getElem?_map, List.getElem?_range hi]
   rfl
def nG (x : Str) : List V := x.cps.toList.map fun c => V.str ⟨#[c]⟩
def plain_str {x : Str} : Plain (Its x) (nG x) (fun _ => True) := fun i H h => by
 refine ⟨fun hi => ?_, fun e => ?_, fun v H' hi y => ?_⟩
 · show i < x.cps.size
   simpa [nG] using hi
 · show i = x.cps.size
   simpa [nG] using e
 · obtain ⟨e, c, hc, rfl⟩ := y
   refine ⟨e, ?_⟩
   unfold nG
   rw [List.getElem?_map, Array.getElem?_toList, hc]
   rfl
noncomputable def uC (src : List (Option Nat)) (g : TG) (tt : TT) (te : TE) (σ : St) (J : It) (H1 : Hp) (Q : VK) (D : Addr) : Prop := ∃ W : Nat -> Nat -> Hp -> Prop, (∃ m, W 0 m (upd H1 D (.lst []))) /\ ∀ i m H, W i m H →
 (J.stop i H /\ Q (.ref D) H) ∨ (J.go i H /\ ∃ N : Hp -> Prop, (∀ H', N H' -> ∃ m', m' < m /\ W (i + 1) m' H') /\ ∀ x H', J.yld i H x H' →
  g x (stC src σ) H' fun σ2 H2 => Wk (stC src σ) σ2 /\ tt σ2 H2 fun b H3 => if b = true then te σ2 H3 fun v H4 => ∃ ys, H4 D = some (.lst ys) /\ ys.length < sizeLine /\ N (upd H4 D (.lst (ys ++ [v]))) else N H3)
def ln {src : List (Option Nat)} {wi : TI} {g : TG} {tt : TT} {te : TE} {σ : St} {H : Hp} {Q : VK} : jE src wi g tt te σ H Q = wi σ H fun J H1 => ∀ D, H1 D = none -> uC src g tt te σ J H1 Q D := rfl
noncomputable def ForW (g : TG) (tb : TS) (D : Ends) (J : It) (σ : St) (H1 : Hp) : Prop := ∃ W : Nat -> Nat -> St -> Hp -> Prop, (∃ m, W 0 m σ H1) /\ ∀ i m σ H, W i m σ H →
 (J.stop i H /\ D.nx σ H) ∨ (J.go i H /\ ∃ N : St -> Hp -> Prop, (∀ σ' H', N σ' H' -> ∃ m', m' < m /\ W (i + 1) m' σ' H') /\ ∀ x H', J.yld i H x H' -> g x σ H' fun σ2 H2 => tb { D with nx := N, ct := N, bk := D.nx } σ2 H2)
def j9 {wi : TI} {g : TG} {tb : TS} {D : Ends} {σ : St} {H : Hp} : tFor wi g tb D σ H = wi σ H fun J H1 => ForW g tb D J σ H1 := rfl
def qj {X : Cx} {x : Str} {v : V} {pos : Pos} (hg : Gl X x) (hm : ∃ u, X.mg x = some u /\ RelV v u) (hd : (x == ("__debug__" : Str)) = false := by decide) : PE X (.Name x pos) (tC v) := by
 obtain ⟨u, h1, h2⟩ := hm
 exact rT hg h1 h2 hd
section
variable {X : Cx} {K : PySem.W.Frag} {tg : Expr}
end
def qk (scope outer : Scope) : Scope := { scope with names := scope.names.map fun (n, k) => if (k == .free && outer.kind == .function && outer.names.lookup n == some .cell) then (n, .cell) else (n, k) }
noncomputable def aD (sc : Scope) (N : List Str) (i : Nat) (x : Str) : Bool :=
 decide (N[i]? = some x) && (decide (sc.names.lookup x = some .local) || (decide (sc.names.lookup x = some .cell) || decide (sc.names.lookup x = some .free))) && !(x == ("__debug__" : Str)) && !(x == ("__classdict__" : Str))
def bA (sc : Scope) (x : Str) : Bool := decide (sc.names.lookup x = some .local) || decide (sc.names.lookup x = some .cell)
def aT (sc : Scope) (x : Str) : Bool := decide (sc.names.lookup x = some .globalImplicit) && !(x == ("__debug__" : Str)) && !decide (x = ("__name__" : Str))
section
variable {sc : Scope} {N : List Str} {i : Nat} {x : Str}
def iP (h : aD sc N i x = true) : N[i]? = some x := by
 unfold aD at h
 simp only [Bool.and_eq_true, decide_eq_true_eq] at h
 exact h.1.1.1
def vW (h : aD sc N i x = true) : Vis sc x := by
 unfold aD at h
 simp only [Bool.and_eq_true, Bool.or_eq_true, decide_eq_true_eq] at h
 exact h.1.1.2
def vX (h : aD sc N i x = true) : (x == ("__debug__" : Str)) = false := by
 unfold aD at h
 simp only [Bool.and_eq_true, Bool.not_eq_true'] at h
 exact h.1.2
def xF (h : aD sc N i x = true) : (x == ("__classdict__" : Str)) = false := by
 unfold aD at h
 simp only [Bool.and_eq_true, Bool.not_eq_true'] at h
 exact h.2
def my (h : bA sc x = true) : Loc sc x := by
 unfold bA at h
 simp only [Bool.or_eq_true, decide_eq_true_eq] at h
 exact h
def y121 (h : aT sc x = true) : sc.names.lookup x = some .globalImplicit := by
 unfold aT at h
 simp only [Bool.and_eq_true, decide_eq_true_eq] at h
 exact h.1.1
def gM (h : aT sc x = true) : (x == ("__debug__" : Str)) = false := by
 unfold aT at h
 simp only [Bool.and_eq_true, Bool.not_eq_true'] at h
 exact h.1.2
def vY (h : aT sc x = true) : x ≠ ("__name__" : Str) := by
 unfold aT at h
 simp only [Bool.and_eq_true, Bool.not_eq_true', decide_eq_false_iff_not] at h
 exact h.2
end
def ck (X : Cx) (sc : Scope) : Prop := X.env.scope = sc
section
variable {X : Cx} {sc : Scope} {N : List Str} {x : Str} {pos p : Pos}
def pvD (i : Nat) (h : aD sc N i x = true) (e1 : ck X sc := by rfl) (e2 : X.N = N := by rfl) : PE X (.Name x pos) (oO i) := by
 have e1 : X.env.scope = sc := e1
 subst e1 e2
 exact u9 (iP h) (vW h) (vX h) (xF h)
def glD (h : aT sc x = true) (e1 : ck X sc := by rfl) : Gl X x := by
 have e1 : X.env.scope = sc := e1
 subst e1
 exact y121 h
def nH {i : Nat} {e : Expr} {te : TE} {pos' : Pos} (h : aD sc N i x = true) (hl : bA sc x = true) (nd : N.Nodup) (he : PE X e te) (e1 : ck X sc := by rfl) (e2 : X.N = N := by rfl) (hf : X.fn x = true ∨ X.env.scope.names.lookup x = some .local := by exact .inl rfl)
  (hs : swapsWith e (some (.Name x pos')) pos.line X.env = pure false := by rfl) : PS X (.Assign [.Name x pos'] e pos) (rY te (iE i)) := by
 have e1 : X.env.scope = sc := e1
 subst e1 e2
 exact vm nd (iP h) (my hl) he hs hf
def bT {i : Nat} (h : aD sc N i x = true) (hl : bA sc x = true) (nd : N.Nodup) (e1 : ck X sc := by rfl) (e2 : X.N = N := by rfl) (hf : X.fn x = true ∨ X.env.scope.names.lookup x = some .local := by exact .inl rfl) : PG X (.Name x pos) (iE i) := by
 have e1 : X.env.scope = sc := e1
 subst e1 e2
 exact nh nd (iP h) (my hl) hf
def loOk (sc : Scope) (x : Str) : Bool := decide (sc.names.lookup x = some .local)
def ca {i : Nat} (h : aD sc N i x = true) (hl : loOk sc x = true) (nd : X.N.Nodup) (e1 : ck X sc) (e2 : X.N = N := by rfl) : PG X (.Name x pos) (iE i) := by
 have e1 : X.env.scope = sc := e1
 subst e1 e2
 have hl : X.env.scope.names.lookup x = some .local := of_decide_eq_true hl
 exact nh nd (iP h) (.inl hl) (.inr hl)
def ql {v : V} (h : aT sc x = true) (hm : ∃ u, X.mg x = some u /\ RelV v u) (e1 : ck X sc := by rfl) : PE X (.Name x pos) (tC v) := qj (glD h e1) hm (gM h)
def qm {v : V} {u : Value} (h : aT sc x = true) (hm : X.mg x = none) (hv : bootBuiltins x = some u) (r : RelV v u) (e1 : ck X sc := by rfl) : PE X (.Name x pos) (tC v) := rV (glD h e1) hm hv r (vY h) (gM h)
variable {e : Expr} {es : List Expr} {t : TA} {id T : String} {r : List V -> Hp -> VK -> Prop} {k : Nat} {ps : List Str} {sp : Sp}
def gO (h : aT sc x = true) (hc : cX X (.builtin id) r) (hm : X.mg x = none) (hv : bootBuiltins x = some (.builtin id)) (ha : PA X (e :: es) t) (e1 : ck X sc := by rfl)
  (he : starEach (e :: es) X.env = (false, eval e X.env) :: starEach es X.env := by rfl) (hpl : (backTo pos (starEach es X.env)).any (·.1) = false := by rfl) : PE X (.Call (.Name x p) (e :: es) [] pos) (tCB r t) :=
 pZ hc (glD h e1) hm hv ha (vY h) (gM h) he hpl
def fX (h : aT sc x = true) (hc : cX X (.type T) r) (hm : X.mg x = none) (hv : bootBuiltins x = some (.type T)) (ha : PA X (e :: es) t) (e1 : ck X sc := by rfl)
  (he : starEach (e :: es) X.env = (false, eval e X.env) :: starEach es X.env := by rfl) (hpl : (backTo pos (starEach es X.env)).any (·.1) = false := by rfl) : PE X (.Call (.Name x p) (e :: es) [] pos) (tCB r t) :=
 oX hc (glD h e1) hm hv ha (vY h) (gM h) he hpl
def gS (h : aT sc x = true) (F : OkF X.prog X.w X.K X.mg X.base x k ps sp) (hr : Room k X.A) (ha : PA X (e :: es) t) (e1 : ck X sc := by rfl)
  (he : starEach (e :: es) X.env = (false, eval e X.env) :: starEach es X.env := by rfl) (hpl : (backTo pos (starEach es X.env)).any (·.1) = false := by rfl) : PE X (.Call (.Name x p) (e :: es) [] pos) (pV sp [] E0 t) :=
 qi F hr (glD h e1) ha (gM h) he hpl
variable {tg a b : Expr} {ta : TA}
def mz (h : aT sc "range" = true) (hm : X.mg "range" = none) (ha : PA X [a] ta) (e1 : ck X sc := by rfl) (hs : starEach [a] X.env = [(false, eval a X.env)] := by rfl) : PI X tg (.Call (.Name "range" p) [a] [] pos) (ur ta) := oQ (glD h e1) hm ha hs
end
section
variable {X : Cx} {M : List Str} {scope outer : Scope} {C : Addr} {s : Shared} {H : Hp} {ex : List Addr} {x : Str} {pos p : Pos}
def scC (ho : ck X outer) : ck (cxC X M scope C s H ex) (qk scope outer) := by
 have ho : X.env.scope = outer := ho
 subst ho
 rfl
end
inductive Dt where
 | non | bl (b : Bool) | int (i : Int) | str (x : Str) | tup (l : List Dt) | lst (l : List Dt) | dct (ks : List Key) (l : List Dt) | dcT (ks : List (List Key)) (l : List Dt)
 | ins (c : Str) (ns : List Str) (l : List Dt)
mutual
noncomputable def peq : Dt -> Dt -> Bool
 | .non, .non => true
 | .bl a, .bl b => a == b
 | .bl a, .int j => (if a then (1 : Int) else 0) == j
 | .int i, .bl b => i == (if b then (1 : Int) else 0)
 | .int i, .int j => i == j
 | .str x, .str y => x == y
 | .tup l, .tup m => dz l m
 | .lst l, .lst m => dz l m
 | .dct ks l, .dct js m => decide (ks = js) && dz l m
 | .dcT ks l, .dcT js m => decide (ks = js) && dz l m
 | .ins _ _ _, .ins _ _ _ => true
 | _, _ => false
noncomputable def dz : List Dt -> List Dt -> Bool
 | [], [] => true
 | d :: l, e :: m => peq d e && dz l m
 | _, _ => false
end
mutual
def gk : ∀ d : Dt, peq d d = true
 | .non => by simp [peq]
 | .bl b => by simp [peq]
 | .int i => by simp [peq]
 | .str x => by simp [peq]
 | .tup l => by simp only [peq]; exact dF l
 | .lst l => by simp only [peq]; exact dF l
 | .dct ks l => by simp only [peq, decide_true, Bool.true_and]; exact dF l
 | .dcT ks l => by simp only [peq, decide_true, Bool.true_and]; exact dF l
 | .ins c ns l => by simp only [peq]
def dF : ∀ l : List Dt, dz l l = true
 | [] => by simp [dz]
 | d :: l => by simp only [dz, gk d, dF l, Bool.and_self]
end
mutual
noncomputable def gl : Dt -> Nat
 | .tup l => cZ l + 1
 | .lst l => cZ l + 1
 | _ => 0
noncomputable def cZ : List Dt -> Nat
 | [] => 0
 | d :: l => max (gl d) (cZ l)
end
def ClsAt (K : PySem.W.Frag) (c : Str) (C : Addr) : Prop := PySem.W.nsIn K mainGlobals c = some (some (.ref C))
mutual
noncomputable def Rep (K : PySem.W.Frag) (H : Hp) : Dt -> V -> Prop
 | .non, v => v = .non
 | .bl b, v => v = .bl b
 | .int i, v => v = .int i
 | .str x, v => v = .str x
 | .tup l, v => ∃ a vs, v = .ref a /\ SqT K H a vs /\ Reps K H l vs
 | .lst l, v => ∃ a vs, v = .ref a /\ SqL K H a vs /\ Reps K H l vs
 | .dct ks l, v => ∃ a kvs, v = .ref a /\ Rd H a (.dK kvs) /\ kvs.map (·.1) = ks /\ Reps K H l (kvs.map (·.2))
 | .dcT ks l, v => ∃ a kvs, v = .ref a /\ Rd H a (.dT kvs) /\ kvs.map (·.1) = ks /\ Reps K H l (kvs.map (·.2))
 | .ins c ns l, v => ∃ a C dx fs, v = .ref a /\ ClsAt K c C /\ H a = some (.ins C dx fs) /\ fs.map (·.1) = ns /\ Reps K H l (fs.map (·.2))
noncomputable def Reps (K : PySem.W.Frag) (H : Hp) : List Dt -> List V -> Prop
 | [], vs => vs = []
 | d :: l, vs => ∃ v ws, vs = v :: ws /\ Rep K H d v /\ Reps K H l ws
end
def Same.tup {K : PySem.W.Frag} {H H' : Hp} {a : Addr} {xs : List V} (e : Same H H') (h : SqT K H a xs) : SqT K H' a xs := by
 rcases h with (h | ⟨o, h⟩) | h
 · exact .inl (.inl (e _ _ h))
 · exact .inl (.inr ⟨o, e _ _ h⟩)
 · exact .inr h
def Same.rd {H H' : Hp} {a : Addr} {u : HO} (e : Same H H') (h : Rd H a u) : Rd H' a u := by
 rcases h with h | ⟨o, h⟩
 · exact .inl (e _ _ h)
 · exact .inr ⟨o, e _ _ h⟩
mutual
def Rep.same {K : PySem.W.Frag} {H H' : Hp} (e : Same H H') : ∀ {d : Dt} {v : V}, Rep K H d v -> Rep K H' d v
 | .non, v, h => h
 | .bl _, v, h => h
 | .int _, v, h => h
 | .str _, v, h => h
 | .tup l, v, h => by
  unfold Rep at h ⊢
  obtain ⟨a, vs, h1, h2, h3⟩ := h
  exact ⟨a, vs, h1, e.tup h2, Reps.same e h3⟩
 | .lst l, v, h => by
  unfold Rep at h ⊢
  obtain ⟨a, vs, h1, h2, h3⟩ := h
  exact ⟨a, vs, h1, e.seq h2, Reps.same e h3⟩
 | .dct ks l, v, h => by
  unfold Rep at h ⊢
  obtain ⟨a, vs, h1, h2, h3, h4⟩ := h
  exact ⟨a, vs, h1, e.rd h2, h3, Reps.same e h4⟩
 | .dcT ks l, v, h => by
  unfold Rep at h ⊢
  obtain ⟨a, vs, h1, h2, h3, h4⟩ := h
  exact ⟨a, vs, h1, e.rd h2, h3, Reps.same e h4⟩
 | .ins c ns l, v, h => by
  unfold Rep at h ⊢
  obtain ⟨a, C, dx, fs, h1, h2, h3, h4, h5⟩ := h
  exact ⟨a, C, dx, fs, h1, h2, e _ _ h3, h4, Reps.same e h5⟩
def Reps.same {K : PySem.W.Frag} {H H' : Hp} (e : Same H H') : ∀ {l : List Dt} {vs : List V}, Reps K H l vs -> Reps K H' l vs
 | [], vs, h => h
 | d :: l, vs, h => by
  unfold Reps at h ⊢
  obtain ⟨v, ws, h1, h2, h3⟩ := h
  exact ⟨v, ws, h1, Rep.same e h2, Reps.same e h3⟩
end
def Reps.length {K : PySem.W.Frag} {H : Hp} : ∀ {l : List Dt} {vs : List V}, Reps K H l vs -> vs.length = l.length
 | [], vs, h => by unfold Reps at h; rw [h]; rfl
 | d :: l, vs, h => by
  unfold Reps at h
  obtain ⟨v, ws, rfl, _, h3⟩ := h
  simp [Reps.length h3]
def Reps.get {K : PySem.W.Frag} {H : Hp} : ∀ {l : List Dt} {vs : List V} {i : Nat} {d : Dt}, Reps K H l vs -> l[i]? = some d -> ∃ v, vs[i]? = some v /\ Rep K H d v
 | [], vs, i, d, h, e => by simp at e
 | d0 :: l, vs, 0, d, h, e => by
  unfold Reps at h
  obtain ⟨v, ws, rfl, h2, _⟩ := h
  simp at e
  subst e
  exact ⟨v, rfl, h2⟩
 | d0 :: l, vs, i + 1, d, h, e => by
  unfold Reps at h
  obtain ⟨v, ws, rfl, _, h3⟩ := h
  obtain ⟨u, e1, e2⟩ := Reps.get (i := i) h3 (by simpa using e)
  exact ⟨u, by simpa using e1, e2⟩
def Reps.append {K : PySem.W.Frag} {H : Hp} : ∀ {l m : List Dt} {vs ws : List V}, Reps K H l vs -> Reps K H m ws -> Reps K H (l ++ m) (vs ++ ws)
 | [], m, vs, ws, h, h' => by unfold Reps at h; rw [h]; exact h'
 | d :: l, m, vs, ws, h, h' => by
  unfold Reps at h
  obtain ⟨v, us, rfl, h2, h3⟩ := h
  show Reps K H (d :: (l ++ m)) (v :: (us ++ ws))
  unfold Reps
  exact ⟨v, _, rfl, h2, Reps.append h3 h'⟩
def Reps.one {K : PySem.W.Frag} {H : Hp} {d : Dt} {v : V} (h : Rep K H d v) : Reps K H [d] [v] := by
 unfold Reps
 exact ⟨v, [], rfl, h, by unfold Reps; rfl⟩
def Reps.take {K : PySem.W.Frag} {H : Hp} : ∀ {l : List Dt} {vs : List V} (n : Nat), Reps K H l vs -> Reps K H (l.take n) (vs.take n)
 | _, _, 0, _ => by simp [Reps]
 | [], vs, n + 1, h => by unfold Reps at h; rw [h]; simp [Reps]
 | d :: l, vs, n + 1, h => by
  unfold Reps at h
  obtain ⟨v, us, rfl, h2, h3⟩ := h
  show Reps K H (d :: l.take n) (v :: us.take n)
  unfold Reps
  exact ⟨v, _, rfl, h2, Reps.take n h3⟩
def Reps.drop {K : PySem.W.Frag} {H : Hp} : ∀ {l : List Dt} {vs : List V} (n : Nat), Reps K H l vs -> Reps K H (l.drop n) (vs.drop n)
 | _, _, 0, h => h
 | [], vs, n + 1, h => by unfold Reps at h; rw [h]; simp [Reps]
 | d :: l, vs, n + 1, h => by
  unfold Reps at h
  obtain ⟨v, us, rfl, h2, h3⟩ := h
  exact Reps.drop n h3
section
variable {X : Cx} {pins : List (Addr × Obj)} {σ : St} {H : Hp} {s : Shared} {K : PySem.W.Frag}
def Inv.notBoth {a : Addr} {xs ys : List V} (I : Inv X pins σ H s) (h : SqL X.K H a xs) (h' : SqT X.K H a ys) : False := by
 obtain ⟨its, r, pl, _⟩ := I.list h
 obtain ⟨its', r', pt, _⟩ := I.tuple h'
 obtain ⟨o, n, e, hc, _⟩ := pl
 obtain ⟨o', e', hc', _⟩ := pt
 rw [e] at e'
 cases e'
 rw [hc] at hc'
 injection hc' with z
 exact absurd z (by decide)
def xG {a : Addr} {u w : List (Key × V)} (h : Rd H a (.dK u)) (h' : Rd H a (.dK w)) : u = w := by
 rcases h with h | ⟨o, h⟩ <;> rcases h' with h' | ⟨o', h'⟩ <;> rw [h] at h' <;> cases h' <;> rfl
def xH {a : Addr} {u w : List (List Key × V)} (h : Rd H a (.dT u)) (h' : Rd H a (.dT w)) : u = w := by
 rcases h with h | ⟨o, h⟩ <;> rcases h' with h' | ⟨o', h'⟩ <;> rw [h] at h' <;> cases h' <;> rfl
def iu {a : Addr} {u : HO} (h : Rd H a u) : ∃ o, H a = some o := by
 rcases h with h | ⟨o, h⟩
 · exact ⟨_, h⟩
 · exact ⟨_, h⟩
def Inv.kNone (I : Inv X pins σ H s) {a : Addr} {o : Obj} (h : X.K.lookup a = some o) : H a = none := (I.bs a o (I.ok.mod.kin a o h)).2
def Inv.sqT_dK (I : Inv X pins σ H s) {a : Addr} {xs : List V} {u : List (Key × V)} (h : SqT X.K H a xs) (h' : Rd H a (.dK u)) : False := by
 rcases h with h | ⟨o, _, _, h, _⟩
 · rcases h with h | ⟨o, h⟩ <;> rcases h' with h' | ⟨o', h'⟩ <;> rw [h] at h' <;> cases h'
 · obtain ⟨o', e⟩ := iu h'
   rw [I.kNone h] at e
   cases e
def Inv.sqT_dT (I : Inv X pins σ H s) {a : Addr} {xs : List V} {u : List (List Key × V)} (h : SqT X.K H a xs) (h' : Rd H a (.dT u)) : False := by
 rcases h with h | ⟨o, _, _, h, _⟩
 · rcases h with h | ⟨o, h⟩ <;> rcases h' with h' | ⟨o', h'⟩ <;> rw [h] at h' <;> cases h'
 · obtain ⟨o', e⟩ := iu h'
   rw [I.kNone h] at e
   cases e
def Inv.sqL_dK (I : Inv X pins σ H s) {a : Addr} {xs : List V} {u : List (Key × V)} (h : SqL X.K H a xs) (h' : Rd H a (.dK u)) : False := by
 rcases h with h | ⟨o, _, _, h, _⟩
 · rcases h with h | ⟨o, h⟩ <;> rcases h' with h' | ⟨o', h'⟩ <;> rw [h] at h' <;> cases h'
 · obtain ⟨o', e⟩ := iu h'
   rw [I.kNone h] at e
   cases e
def Inv.sqL_dT (I : Inv X pins σ H s) {a : Addr} {xs : List V} {u : List (List Key × V)} (h : SqL X.K H a xs) (h' : Rd H a (.dT u)) : False := by
 rcases h with h | ⟨o, _, _, h, _⟩
 · rcases h with h | ⟨o, h⟩ <;> rcases h' with h' | ⟨o', h'⟩ <;> rw [h] at h' <;> cases h'
 · obtain ⟨o', e⟩ := iu h'
   rw [I.kNone h] at e
   cases e
def qo {a : Addr} {u : List (Key × V)} {w : List (List Key × V)} (h : Rd H a (.dK u)) (h' : Rd H a (.dT w)) : False := by
 rcases h with h | ⟨o, h⟩ <;> rcases h' with h' | ⟨o', h'⟩ <;> rw [h] at h' <;> cases h'
def bU : Dt -> Nat
 | .non => 0
 | .bl _ => 1
 | .int _ => 2
 | .str _ => 3
 | .tup _ => 4
 | .lst _ => 5
 | .dct _ _ => 6
 | .dcT _ _ => 7
 | .ins _ _ _ => 8
def nI (I : Inv X pins σ H s) {a C dx : Addr} {fs : List (Str × V)} {vs : List V} (h : SqT X.K H a vs) (h' : H a = some (.ins C dx fs)) : False := by
 rcases h with (h | ⟨o, h⟩) | ⟨o, its, n, h, _⟩
 · rw [h'] at h; cases h
 · rw [h'] at h; cases h
 · rw [I.kNone h] at h'; cases h'
def nJ (I : Inv X pins σ H s) {a C dx : Addr} {fs : List (Str × V)} {vs : List V} (h : SqL X.K H a vs) (h' : H a = some (.ins C dx fs)) : False := by
 rcases h with (h | ⟨o, h⟩) | ⟨o, its, n, h, _⟩
 · rw [h'] at h; cases h
 · rw [h'] at h; cases h
 · rw [I.kNone h] at h'; cases h'
def nK {a C dx : Addr} {fs : List (Str × V)} {u : List (Key × V)} (h : Rd H a (.dK u)) (h' : H a = some (.ins C dx fs)) : False := by
 rcases h with h | ⟨o, h⟩ <;> rw [h] at h' <;> cases h'
def nM {a C dx : Addr} {fs : List (Str × V)} {u : List (List Key × V)} (h : Rd H a (.dT u)) (h' : H a = some (.ins C dx fs)) : False := by
 rcases h with h | ⟨o, h⟩ <;> rw [h] at h' <;> cases h'
def cq (I : Inv X pins σ H s) {d e : Dt} {v : V} (h : Rep X.K H d v) (h' : Rep X.K H e v) : bU d = bU e := by
 cases d <;> cases e <;> first
  | rfl
  | (simp only [Rep] at h h'; subst h; cases h'; done)
  | (simp only [Rep] at h h'; obtain ⟨_, _, e, _⟩ := h'; rw [h] at e; cases e; done)
  | (simp only [Rep] at h h'; obtain ⟨_, _, e, _⟩ := h; rw [h'] at e; cases e; done)
  | (simp only [Rep] at h h'; obtain ⟨_, _, rfl, h2, _⟩ := h; obtain ⟨_, _, e, h2', _⟩ := h'; cases e
     first
      | exact (I.sqT_dK h2 h2').elim
      | exact (I.sqT_dK h2' h2).elim
      | exact (I.sqT_dT h2 h2').elim
      | exact (I.sqT_dT h2' h2).elim
      | exact (I.notBoth h2 h2').elim
      | exact (I.notBoth h2' h2).elim
      | exact (I.sqL_dK h2 h2').elim
      | exact (I.sqL_dK h2' h2).elim
      | exact (I.sqL_dT h2 h2').elim
      | exact (I.sqL_dT h2' h2).elim
      | exact (qo h2 h2').elim
      | exact (qo h2' h2).elim)
  | (simp only [Rep] at h h'; obtain ⟨_, _, _, _, e, _⟩ := h'; rw [h] at e; cases e; done)
  | (simp only [Rep] at h h'; obtain ⟨_, _, _, _, e, _⟩ := h; rw [h'] at e; cases e; done)
  | (simp only [Rep] at h h'; obtain ⟨_, _, _, _, rfl, _, h2, _⟩ := h; obtain ⟨_, _, e, h2', _⟩ := h'; cases e
     first
      | exact (nI I h2' h2).elim
      | exact (nJ I h2' h2).elim
      | exact (nK h2' h2).elim
      | exact (nM h2' h2).elim)
  | (simp only [Rep] at h h'; obtain ⟨_, _, _, _, rfl, _, h2, _⟩ := h'; obtain ⟨_, _, e, h2', _⟩ := h; cases e
     first
      | exact (nI I h2' h2).elim
      | exact (nJ I h2' h2).elim
      | exact (nK h2' h2).elim
      | exact (nM h2' h2).elim)
mutual
def ka (I : Inv X pins σ H s) : ∀ (d e : Dt) (v : V), Rep X.K H d v -> Rep X.K H e v -> peq d e = true := fun d => by
 match d with
 | .tup l =>
  intro e v h h'
  have hk := cq I h h'
  cases e <;> first | (simp [bU] at hk; done) | skip
  simp only [Rep] at h h'
  obtain ⟨a, vs, rfl, h2, h3⟩ := h
  obtain ⟨b, ws, e, h2', h3'⟩ := h'
  cases e
  have := I.tuple_inj h2 h2'
  subst this
  simp only [peq]
  exact et I l _ _ h3 h3'
 | .lst l =>
  intro e v h h'
  have hk := cq I h h'
  cases e <;> first | (simp [bU] at hk; done) | skip
  simp only [Rep] at h h'
  obtain ⟨a, vs, rfl, h2, h3⟩ := h
  obtain ⟨b, ws, e, h2', h3'⟩ := h'
  cases e
  have := I.list_inj h2 h2'
  subst this
  simp only [peq]
  exact et I l _ _ h3 h3'
 | .dct ks l =>
  intro e v h h'
  have hk := cq I h h'
  cases e <;> first | (simp [bU] at hk; done) | skip
  simp only [Rep] at h h'
  obtain ⟨a, vs, rfl, h2, h3, h4⟩ := h
  obtain ⟨b, ws, e, h2', h3', h4'⟩ := h'
  cases e
  have := xG h2 h2'
  subst this
  subst h3 h3'
  simp only [peq, decide_true, Bool.true_and]
  exact et I l _ _ h4 h4'
 | .dcT ks l =>
  intro e v h h'
  have hk := cq I h h'
  cases e <;> first | (simp [bU] at hk; done) | skip
  simp only [Rep] at h h'
  obtain ⟨a, vs, rfl, h2, h3, h4⟩ := h
  obtain ⟨b, ws, e, h2', h3', h4'⟩ := h'
  cases e
  have := xH h2 h2'
  subst this
  subst h3 h3'
  simp only [peq, decide_true, Bool.true_and]
  exact et I l _ _ h4 h4'
 | .ins c ns l =>
  intro e v h h'
  have hk := cq I h h'
  cases e <;> first | (simp [bU] at hk; done) | skip
  simp only [peq]
 | .non =>
  intro e v h h'
  have hk := cq I h h'
  cases e <;> first | (simp [bU] at hk; done) | simp only [peq]
 | .bl b =>
  intro e v h h'
  have hk := cq I h h'
  cases e <;> first | (simp [bU] at hk; done) | (simp only [Rep] at h h'; rw [h] at h'; cases h'; exact gk _)
 | .int b =>
  intro e v h h'
  have hk := cq I h h'
  cases e <;> first | (simp [bU] at hk; done) | (simp only [Rep] at h h'; rw [h] at h'; cases h'; exact gk _)
 | .str b =>
  intro e v h h'
  have hk := cq I h h'
  cases e <;> first | (simp [bU] at hk; done) | (simp only [Rep] at h h'; rw [h] at h'; cases h'; exact gk _)
def et (I : Inv X pins σ H s) : ∀ (l m : List Dt) (vs : List V), Reps X.K H l vs -> Reps X.K H m vs -> dz l m = true := fun l => by
 match l with
 | [] =>
  intro m vs h h'
  cases m with
  | nil => simp only [dz]
  | cons e m => unfold Reps at h h'; obtain ⟨v, ws, e, _⟩ := h'; rw [h] at e; cases e
 | d :: l =>
  intro m vs h h'
  cases m with
  | nil => unfold Reps at h h'; obtain ⟨v, ws, e, _⟩ := h; rw [h'] at e; cases e
  | cons e m =>
   unfold Reps at h h'
   obtain ⟨v, ws, rfl, h2, h3⟩ := h
   obtain ⟨v', ws', e', h2', h3'⟩ := h'
   cases e'
   simp only [dz, ka I d _ _ h2 h2', et I l _ _ h3 h3', Bool.and_self]
end
end
end L2
namespace L2
open PySem PySem.Spec PyProof.Rows
mutual
noncomputable def dk : Dt -> Dt -> Bool
 | .tup l, .tup m => eu l m
 | .lst l, .lst m => eu l m
 | d, e => decide (bU d < 4) && decide (bU e < 4)
noncomputable def eu : List Dt -> List Dt -> Bool
 | d :: l, e :: m => dk d e && eu l m
 | _, _ => true
end
def dG : ∀ {l m : List Dt} {j : Nat} {d e : Dt}, eu l m = true -> l[j]? = some d -> m[j]? = some e -> dk d e = true
 | [], _, j, d, e, _, h, _ => by simp at h
 | _ :: _, [], j, d, e, _, _, h => by simp at h
 | d0 :: l, e0 :: m, 0, d, e, h, h1, h2 => by
  simp only [eu, Bool.and_eq_true] at h
  simp at h1 h2
  subst h1 h2
  exact h.1
 | d0 :: l, e0 :: m, j + 1, d, e, h, h1, h2 => by
  simp only [eu, Bool.and_eq_true] at h
  exact dG (j := j) h.2 (by simpa using h1) (by simpa using h2)
def eG : ∀ {l : List Dt} {j : Nat} {d : Dt}, l[j]? = some d -> gl d <= cZ l
 | [], j, d, h => by simp at h
 | d0 :: l, 0, d, h => by
  simp at h
  subst h
  simp only [cZ]
  exact Nat.le_max_left ..
 | d0 :: l, j + 1, d, h => by
  simp only [cZ]
  exact Nat.le_trans (eG (j := j) (by simpa using h)) (Nat.le_max_right ..)
def cb (l m : List Dt) (j : Nat) : Bool := peq (l.getD j .non) (m.getD j .non)
def da : ∀ (l m : List Dt), dz l m = ((List.range (min l.length m.length)).all (cb l m) && l.length == m.length)
 | [], [] => by simp [dz]
 | [], _ :: _ => by simp [dz]
 | _ :: _, [] => by simp [dz]
 | d :: l, e :: m => by
  have ih := da l m
  simp only [dz, ih, List.length_cons]
  rw [show min (l.length + 1) (m.length + 1) = min l.length m.length + 1 by omega, List.range_succ_eq_map, List.all_cons, List.all_map]
  have e1 : cb (d :: l) (e :: m) 0 = peq d e := rfl
  have e2 : (cb (d :: l) (e :: m) ∘ Nat.succ) = cb l m := by
   funext j
   rfl
  have e3 : (l.length + 1 == m.length + 1) = (l.length == m.length) := by
   rw [Bool.eq_iff_iff]
   simp
  rw [e1, e2, e3, Bool.and_assoc]
section
variable {X : Cx} {pins : List (Addr × Obj)} {σ : St} {H : Hp} {s : Shared}
def ci {l : List Dt} {vs : List V} {its : List Value} (h : Reps X.K H l vs) (r : Vals vs its) {j : Nat} (hj : j < its.length) : ∃ d v, l[j]? = some d /\ Rep X.K H d v /\ RelV v its[j] := by
 have hl : j < l.length := by rw [<- h.length, r.length]; exact hj
 obtain ⟨v, e1, e2⟩ := h.get (i := j) (d := l[j]) (by simp [hl])
 obtain ⟨u, e3, e4⟩ := r.get e1
 have : its[j] = u := by
  have := gQ hj
  rw [this] at e3
  exact Option.some.inj e3
 exact ⟨l[j], v, by simp [hl], e2, by rw [this]; exact e4⟩
def uD (I : Inv X pins σ H s) : ∀ (n : Nat) {A : Around} {d e : Dt} {v w : V} {u u' : Value}, gl d <= n -> A.units + n < cLine -> dk d e = true -> Rep X.K H d v -> Rep X.K H e w -> RelV v u -> RelV w u' -> SeqAt.EqAt A s u u' (peq d e) := by
 intro n
 induction n with
 | zero =>
  intro A d e v w u u' hd hu hc h h' r r'
  cases d <;> cases e <;> first
   | (simp only [Rep] at h h'; subst h h'; exact iK r r' rfl rfl)
   | (simp only [gl] at hd; omega)
   | (simp [dk, bU] at hc)
 | succ n ih =>
  intro A d e v w u u' hd hu hc h h' r r'
  cases d with
  | tup l =>
   cases e with
   | tup m =>
    have h0 := h
    have h0' := h'
    simp only [Rep] at h h'
    obtain ⟨a, vs, rfl, h2, h3⟩ := h
    obtain ⟨b, ws, rfl, h2', h3'⟩ := h'
    cases r
    cases r'
    by_cases hab : a = b
    · subst hab
      have := ka I _ _ _ h0 h0'
      rw [this]
      exact SeqAt.EqAt.same _
    obtain ⟨its, rv, pt, _⟩ := I.tuple h2
    obtain ⟨its', rv', pt', _⟩ := I.tuple h2'
    have n1 : its.length = l.length := by rw [<- h3.length, rv.length]
    have n2 : its'.length = m.length := by rw [<- h3'.length, rv'.length]
    simp only [peq]
    rw [da, <- n1, <- n2]
    simp only [gl] at hd
    simp only [dk] at hc
    have key := SeqAt.RcAt.tuples (A := A) (e := cb l m) pt pt' (by omega) (fun j h1 h2 => by
     have h1' : j < its.length := by simpa using h1
     have h2' : j < its'.length := by simpa using h2
     obtain ⟨d, v, g1, g2, g3⟩ := ci h3 rv h1'
     obtain ⟨e, w, g1', g2', g3'⟩ := ci h3' rv' h2'
     have : cb l m j = peq d e := by unfold cb; rw [List.getD_eq_getElem?_getD, List.getD_eq_getElem?_getD, g1, g1']; rfl
     rw [this]
     have := ih (A := A.in1) (Nat.le_trans (eG g1) (by omega)) (show A.units + 1 + n < cLine by omega) (dG hc g1 g1') g2 g2' g3 g3'
     simpa using this)
    have key' : SeqAt.RcAt A s (.ref a) (.ref b) ((List.range (min its.length its'.length)).all (cb l m) && its.length == its'.length) := by simpa using key
    exact SeqAt.EqAt.of_refs hab key'
   | _ => exact absurd hc (by simp [dk, bU])
  | lst l =>
   cases e with
   | lst m =>
    have h0 := h
    have h0' := h'
    simp only [Rep] at h h'
    obtain ⟨a, vs, rfl, h2, h3⟩ := h
    obtain ⟨b, ws, rfl, h2', h3'⟩ := h'
    cases r
    cases r'
    by_cases hab : a = b
    · subst hab
      have := ka I _ _ _ h0 h0'
      rw [this]
      exact SeqAt.EqAt.same _
    obtain ⟨its, rv, pt, _⟩ := I.list h2
    obtain ⟨its', rv', pt', _⟩ := I.list h2'
    have n1 : its.length = l.length := by rw [<- h3.length, rv.length]
    have n2 : its'.length = m.length := by rw [<- h3'.length, rv'.length]
    simp only [peq]
    rw [da, <- n1, <- n2]
    simp only [gl] at hd
    simp only [dk] at hc
    by_cases hlen : its.length = its'.length
    · have key := SeqAt.RcAt.lists (A := A) (e := cb l m) pt.isList pt'.isList (by simpa using hlen) (by omega) (fun j h1 h2 => by
       have h1' : j < its.length := by simpa using h1
       have h2' : j < its'.length := by simpa using h2
       obtain ⟨d, v, g1, g2, g3⟩ := ci h3 rv h1'
       obtain ⟨e, w, g1', g2', g3'⟩ := ci h3' rv' h2'
       have : cb l m j = peq d e := by unfold cb; rw [List.getD_eq_getElem?_getD, List.getD_eq_getElem?_getD, g1, g1']; rfl
       rw [this]
       have := ih (A := A.in1) (Nat.le_trans (eG g1) (by omega)) (show A.units + 1 + n < cLine by omega) (dG hc g1 g1') g2 g2' g3 g3'
       simpa using this)
      have e1 : (its.length == its'.length) = true := by simpa using hlen
      rw [e1, Bool.and_true, show min its.length its'.length = its.length by omega]
      exact SeqAt.EqAt.of_refs hab (by simpa using key)
    · have e1 : (its.length == its'.length) = false := by simpa using hlen
      rw [e1, Bool.and_false]
      exact SeqAt.EqAt.of_refs hab (SeqAt.RcAt.lists_lengths pt.isList pt'.isList (by simpa using hlen) (by omega))
   | _ => exact absurd hc (by simp [dk, bU])
  | non => cases e <;> first | (simp only [Rep] at h h'; subst h h'; exact iK r r' rfl rfl) | (simp [dk, bU] at hc)
  | bl b => cases e <;> first | (simp only [Rep] at h h'; subst h h'; exact iK r r' rfl rfl) | (simp [dk, bU] at hc)
  | int b => cases e <;> first | (simp only [Rep] at h h'; subst h h'; exact iK r r' rfl rfl) | (simp [dk, bU] at hc)
  | str b => cases e <;> first | (simp only [Rep] at h h'; subst h h'; exact iK r r' rfl rfl) | (simp [dk, bU] at hc)
  | dct ks l => cases e <;> (simp [dk, bU] at hc)
  | dcT ks l => cases e <;> (simp [dk, bU] at hc)
  | ins c ns l => cases e <;> (simp [dk, bU] at hc)
def uE (I : Inv X pins σ H s) {A : Around} {d e : Dt} {v w : V} {u u' : Value} (hq : (∃ l m, d = .tup l /\ e = .tup m) ∨ ∃ l m, d = .lst l /\ e = .lst m) (hu : A.units + gl d < cLine) (hc : dk d e = true) (h : Rep X.K H d v) (h' : Rep X.K H e w) (r : RelV v u) (r' : RelV w u') :
  SeqAt.RcAt A s u u' (peq d e) /\ SeqAt.RcNeAt A s u u' (!peq d e) := by
 rcases hq with ⟨l, m, rfl, rfl⟩ | ⟨l, m, rfl, rfl⟩
 · simp only [Rep] at h h'
   obtain ⟨a, vs, rfl, h2, h3⟩ := h
   obtain ⟨b, ws, rfl, h2', h3'⟩ := h'
   cases r
   cases r'
   obtain ⟨its, rv, pt, _⟩ := I.tuple h2
   obtain ⟨its', rv', pt', _⟩ := I.tuple h2'
   have n1 : its.length = l.length := by rw [<- h3.length, rv.length]
   have n2 : its'.length = m.length := by rw [<- h3'.length, rv'.length]
   simp only [peq]
   rw [da, <- n1, <- n2]
   simp only [gl] at hu
   simp only [dk] at hc
   have he : ∀ j (h1 : j < its.toArray.size) (h2 : j < its'.toArray.size), SeqAt.EqAt A.in1 s its.toArray[j] its'.toArray[j] (cb l m j) := fun j h1 h2 => by
    have h1' : j < its.length := by simpa using h1
    have h2' : j < its'.length := by simpa using h2
    obtain ⟨d, v, g1, g2, g3⟩ := ci h3 rv h1'
    obtain ⟨e, w, g1', g2', g3'⟩ := ci h3' rv' h2'
    have : cb l m j = peq d e := by unfold cb; rw [List.getD_eq_getElem?_getD, List.getD_eq_getElem?_getD, g1, g1']; rfl
    rw [this]
    have := uD I (cZ l) (A := A.in1) (eG g1) (show A.units + 1 + cZ l < cLine by omega) (dG hc g1 g1') g2 g2' g3 g3'
    simpa using this
   exact ⟨by simpa using SeqAt.RcAt.tuples (A := A) (e := cb l m) pt pt' (by omega) he, by simpa using SeqAt.RcNeAt.tuples (A := A) (e := cb l m) pt pt' (by omega) he⟩
 · simp only [Rep] at h h'
   obtain ⟨a, vs, rfl, h2, h3⟩ := h
   obtain ⟨b, ws, rfl, h2', h3'⟩ := h'
   cases r
   cases r'
   obtain ⟨its, rv, pt, _⟩ := I.list h2
   obtain ⟨its', rv', pt', _⟩ := I.list h2'
   have n1 : its.length = l.length := by rw [<- h3.length, rv.length]
   have n2 : its'.length = m.length := by rw [<- h3'.length, rv'.length]
   simp only [peq]
   rw [da, <- n1, <- n2]
   simp only [gl] at hu
   simp only [dk] at hc
   by_cases hlen : its.length = its'.length
   · have he : ∀ j (h1 : j < its.toArray.size) (h2 : j < its'.toArray.size), SeqAt.EqAt A.in1 s its.toArray[j] its'.toArray[j] (cb l m j) := fun j h1 h2 => by
      have h1' : j < its.length := by simpa using h1
      have h2' : j < its'.length := by simpa using h2
      obtain ⟨d, v, g1, g2, g3⟩ := ci h3 rv h1'
      obtain ⟨e, w, g1', g2', g3'⟩ := ci h3' rv' h2'
      have : cb l m j = peq d e := by unfold cb; rw [List.getD_eq_getElem?_getD, List.getD_eq_getElem?_getD, g1, g1']; rfl
      rw [this]
      have := uD I (cZ l) (A := A.in1) (eG g1) (show A.units + 1 + cZ l < cLine by omega) (dG hc g1 g1') g2 g2' g3 g3'
      simpa using this
     have e1 : (its.length == its'.length) = true := by simpa using hlen
     rw [e1, Bool.and_true, show min its.length its'.length = its.length by omega]
     exact ⟨by simpa using SeqAt.RcAt.lists (A := A) (e := cb l m) pt.isList pt'.isList (by simpa using hlen) (by omega) he, by simpa using SeqAt.RcNeAt.lists (A := A) (e := cb l m) pt.isList pt'.isList (by simpa using hlen) (by omega) he⟩
   · have e1 : (its.length == its'.length) = false := by simpa using hlen
     rw [e1, Bool.and_false]
     exact ⟨SeqAt.RcAt.lists_lengths pt.isList pt'.isList (by simpa using hlen) (by omega), SeqAt.RcNeAt.lists_lengths pt.isList pt'.isList (by simpa using hlen) (by omega)⟩
noncomputable def sH (K : PySem.W.Frag) (neg : Bool) : R2 := fun x y H Q => ∃ d e, ((∃ l m, d = .tup l /\ e = .tup m) ∨ ∃ l m, d = .lst l /\ e = .lst m) /\ Rep K H d x /\ Rep K H e y /\ dk d e = true /\ gl d <= 60 /\ Q (.bl (if neg then !peq d e else peq d e)) H
def vZ {K : PySem.W.Frag} {k : Nat} (hr : Room k X.A) (hK : X.K = K) : OpR X (compareOp .Eq) (sH K false) := by
 subst hK
 intro pins s σ H x y v u Q I rx ry h
 obtain ⟨d, e, hq, hd, he, hc, hdp, q⟩ := h
 have hu := hr.units
 exact (uE I hq (by omega) hc hd he rx ry).1 _ _ _ _ ⟨.bl (peq d e), H, I, rfl, q⟩
def v6 {K : PySem.W.Frag} {k : Nat} (hr : Room k X.A) (hK : X.K = K) : OpR X (compareOp .NotEq) (sH K true) := by
 subst hK
 intro pins s σ H x y v u Q I rx ry h
 obtain ⟨d, e, hq, hd, he, hc, hdp, q⟩ := h
 have hu := hr.units
 exact (uE I hq (by omega) hc hd he rx ry).2 _ _ _ _ ⟨.bl (!peq d e), H, I, rfl, q⟩
end
end L2
namespace L2
open PySem PySem.Spec PyProof.Rows
structure Step (F H F' H' : Hp) : Prop where
 hh : Same H H'
 ff : Same F F'
 fh : Same F' H'
 nw : ∀ b o, F' b = some o -> F b = some o ∨ H b = none
section
variable {F H F' H' F1 H1 : Hp} {p : Addr} {o : HO}
def Step.refl (h : Same F H) : Step F H F H := ⟨Same.refl _, Same.refl _, h, fun _ _ e => .inl e⟩
def Step.trans (a : Step F H F1 H1) (b : Step F1 H1 F' H') : Step F H F' H' :=
 ⟨a.hh.trans b.hh, a.ff.trans b.ff, b.fh, fun c o e => (b.nw c o e).elim (a.nw c o) fun z => .inr (a.hh.free z)⟩
def Same.upd (hp : H p = none) : Same H (upd H p o) := fun b u e => by
 rw [ay (bJ e hp)]
 exact e
def Step.new (h : Same F H) (hp : H p = none) : Step F H (upd F p o) (upd H p o) where
 hh := Same.upd hp
 ff := Same.upd (h.free hp)
 fh := fun b u e => by
  by_cases hb : b = p
  · subst hb
    rw [az] at e ⊢
    exact e
  · rw [ay hb] at e ⊢
    exact h _ _ e
 nw := fun b u e => by
  by_cases hb : b = p
  · subst hb
    exact .inr hp
  · rw [ay hb] at e
    exact .inl e
def Step.made (h : Same F H) (hp : H p = none) : Step F H F (upd H p o) where
 hh := Same.upd hp
 ff := Same.refl _
 fh := h.trans (Same.upd hp)
 nw := fun b u e => .inl e
end
inductive Fl where
 | leaf (d : Dt) | lst (l : List Dt) | dct (l : List (Key × Dt)) | dcT (l : List (List Key × Dt))
def Fl.d : Fl -> Dt
 | .leaf d => d
 | .lst l => .lst l
 | .dct l => .dct (l.map (·.1)) (l.map (·.2))
 | .dcT l => .dcT (l.map (·.1)) (l.map (·.2))
inductive T where
 | leaf (d : Dt) | lst (l : List Dt) | dct (l : List (Key × Dt)) | dcT (l : List (List Key × Dt)) | obj (c : Str) (ns : List Str) (l : List Fl) | pin (a : Addr) (t : T)
def T.d : T -> Dt
 | .leaf d => d
 | .lst l => .lst l
 | .dct l => .dct (l.map (·.1)) (l.map (·.2))
 | .dcT l => .dcT (l.map (·.1)) (l.map (·.2))
 | .obj c ns l => .ins c ns (l.map Fl.d)
 | .pin _ t => t.d
noncomputable def OwnF (K : PySem.W.Frag) (F H : Hp) : Fl -> V -> (Addr -> Prop) -> Prop
 | .leaf d, v, _ => Rep K F d v
 | .lst l, v, S => ∃ a vs, v = .ref a /\ S a /\ H a = some (.lst vs) /\ Reps K F l vs
 | .dct l, v, S => ∃ a kvs, v = .ref a /\ S a /\ H a = some (.dK kvs) /\ kvs.map (·.1) = l.map (·.1) /\ Reps K F (l.map (·.2)) (kvs.map (·.2))
 | .dcT l, v, S => ∃ a kvs, v = .ref a /\ S a /\ H a = some (.dT kvs) /\ kvs.map (·.1) = l.map (·.1) /\ Reps K F (l.map (·.2)) (kvs.map (·.2))
structure OwnFs (K : PySem.W.Frag) (F H : Hp) (l : List Fl) (vs : List V) (a : Addr) (S : Addr -> Prop) (Z : Nat -> Addr -> Prop) : Prop where
 len : l.length = vs.length
 own : ∀ i f v, l[i]? = some f -> vs[i]? = some v -> OwnF K F H f v (Z i)
 sub : ∀ i b, Z i b -> S b /\ b ≠ a
 dis : ∀ i j b, Z i b -> Z j b -> i = j
noncomputable def Own (K : PySem.W.Frag) (F H : Hp) : T -> V -> (Addr -> Prop) -> Prop
 | .leaf d, v, _ => Rep K F d v
 | .lst l, v, S => ∃ a vs, v = .ref a /\ S a /\ H a = some (.lst vs) /\ Reps K F l vs
 | .dct l, v, S => ∃ a kvs, v = .ref a /\ S a /\ H a = some (.dK kvs) /\ kvs.map (·.1) = l.map (·.1) /\ Reps K F (l.map (·.2)) (kvs.map (·.2))
 | .dcT l, v, S => ∃ a kvs, v = .ref a /\ S a /\ H a = some (.dT kvs) /\ kvs.map (·.1) = l.map (·.1) /\ Reps K F (l.map (·.2)) (kvs.map (·.2))
 | .obj c ns l, v, S => ∃ a C dx fs Z, v = .ref a /\ S a /\ ClsAt K c C /\ H a = some (.ins C dx fs) /\ fs.map (·.1) = ns /\ OwnFs K F H l (fs.map (·.2)) a S Z
 | .pin a t, v, S => v = .ref a /\ (∀ d, t ≠ .leaf d) /\ Own K F H t v S
noncomputable def RepB (K : PySem.W.Frag) (F H : Hp) : Dt -> V -> Prop
 | .lst l, v => ∃ a vs, v = .ref a /\ SqL K H a vs /\ Reps K F l vs
 | .dct ks l, v => ∃ a kvs, v = .ref a /\ Rd H a (.dK kvs) /\ kvs.map (·.1) = ks /\ Reps K F l (kvs.map (·.2))
 | .dcT ks l, v => ∃ a kvs, v = .ref a /\ Rd H a (.dT kvs) /\ kvs.map (·.1) = ks /\ Reps K F l (kvs.map (·.2))
 | .ins c ns l, v => Rep K H (.ins c ns l) v
 | .non, v => v = .non
 | .bl b, v => v = .bl b
 | .int i, v => v = .int i
 | .str x, v => v = .str x
 | .tup l, v => ∃ a vs, v = .ref a /\ SqT K F a vs /\ Reps K F l vs
def OwnF.step {K : PySem.W.Frag} {F H F' H' : Hp} {t : Fl} {v : V} {S : Addr -> Prop} (ff : Same F F') (hh : ∀ b o, S b -> H b = some o -> H' b = some o) (h : OwnF K F H t v S) : OwnF K F' H' t v S := by
 cases t with
 | leaf d => exact Rep.same ff h
 | lst l =>
  obtain ⟨a, vs, e, hs, h1, h2⟩ := h
  exact ⟨a, vs, e, hs, hh _ _ hs h1, h2.same ff⟩
 | dct l =>
  obtain ⟨a, vs, e, hs, h1, h2, h3⟩ := h
  exact ⟨a, vs, e, hs, hh _ _ hs h1, h2, h3.same ff⟩
 | dcT l =>
  obtain ⟨a, vs, e, hs, h1, h2, h3⟩ := h
  exact ⟨a, vs, e, hs, hh _ _ hs h1, h2, h3.same ff⟩
def OwnF.rep {K : PySem.W.Frag} {F H G : Hp} {t : Fl} {v : V} {S : Addr -> Prop} (ff : Same F G) (hg : ∀ b o, S b -> H b = some o -> G b = some o) (h : OwnF K F H t v S) : Rep K G t.d v := by
 cases t with
 | leaf d => exact Rep.same ff h
 | lst l =>
  obtain ⟨a, vs, e, q, h1, h2⟩ := h
  simp only [Fl.d, Rep]
  exact ⟨a, vs, e, SqL.of (hg _ _ q h1), h2.same ff⟩
 | dct l =>
  obtain ⟨a, vs, e, q, h1, h2, h3⟩ := h
  simp only [Fl.d, Rep]
  exact ⟨a, vs, e, .inl (hg _ _ q h1), h2, h3.same ff⟩
 | dcT l =>
  obtain ⟨a, vs, e, q, h1, h2, h3⟩ := h
  simp only [Fl.d, Rep]
  exact ⟨a, vs, e, .inl (hg _ _ q h1), h2, h3.same ff⟩
def lp {K : PySem.W.Frag} {G : Hp} : ∀ {l : List Fl} {vs : List V}, l.length = vs.length -> (∀ (i : Nat) (f : Fl) (v : V), l[i]? = some f -> vs[i]? = some v -> Rep K G f.d v) -> Reps K G (l.map Fl.d) vs
 | [], [], _, _ => by simp [Reps]
 | [], _ :: _, h, _ => by cases h
 | _ :: _, [], h, _ => by cases h
 | f :: l, v :: vs, h, k => by
  simp only [List.map_cons, Reps]
  exact ⟨v, vs, rfl, k 0 f v rfl rfl, lp (by simpa using h) fun i f v h1 h2 => k (i + 1) f v (by simpa using h1) (by simpa using h2)⟩
def nN {K : PySem.W.Frag} {F H G : Hp} {c : Str} {ns : List Str} {l : List Fl} {v : V} {S : Addr -> Prop} (ff : Same F G) (hg : ∀ b o, S b -> H b = some o -> G b = some o) (h : Own K F H (.obj c ns l) v S) : Rep K G (.ins c ns (l.map Fl.d)) v := by
 obtain ⟨a, C, dx, fs, Z, e, hs, hc, h1, h2, h3⟩ := h
 simp only [Rep]
 exact ⟨a, C, dx, fs, e, hc, hg _ _ hs h1, h2, lp h3.len fun i f v e1 e2 => (h3.own i f v e1 e2).rep ff fun b o z => hg b o (h3.sub i b z).1⟩
section
variable {K : PySem.W.Frag} {F H F' H' : Hp} {t : T} {v : V} {d : Dt} {S : Addr -> Prop}
def Own.step (ff : Same F F') (hh : ∀ b o, S b -> H b = some o -> H' b = some o) (h : Own K F H t v S) : Own K F' H' t v S := by
 induction t with
 | leaf d => exact Rep.same ff h
 | lst l =>
  obtain ⟨a, vs, e, hs, h1, h2⟩ := h
  exact ⟨a, vs, e, hs, hh _ _ hs h1, h2.same ff⟩
 | dct l =>
  obtain ⟨a, vs, e, hs, h1, h2, h3⟩ := h
  exact ⟨a, vs, e, hs, hh _ _ hs h1, h2, h3.same ff⟩
 | dcT l =>
  obtain ⟨a, vs, e, hs, h1, h2, h3⟩ := h
  exact ⟨a, vs, e, hs, hh _ _ hs h1, h2, h3.same ff⟩
 | obj c ns l =>
  obtain ⟨a, C, dx, fs, Z, e, hs, hc, h1, h2, h3⟩ := h
  exact ⟨a, C, dx, fs, Z, e, hs, hc, hh _ _ hs h1, h2, h3.len, fun i f v e1 e2 => (h3.own i f v e1 e2).step ff fun b o z => hh b o (h3.sub i b z).1, h3.sub, h3.dis⟩
 | pin a t ih => exact ⟨h.1, h.2.1, ih h.2.2⟩
def Own.grow {S' : Addr -> Prop} (hs : ∀ b, S b -> S' b) (h : Own K F H t v S) : Own K F H t v S' := by
 induction t with
 | leaf d => exact h
 | lst l =>
  obtain ⟨a, vs, e, q, h1⟩ := h
  exact ⟨a, vs, e, hs _ q, h1⟩
 | dct l =>
  obtain ⟨a, vs, e, q, h1⟩ := h
  exact ⟨a, vs, e, hs _ q, h1⟩
 | dcT l =>
  obtain ⟨a, vs, e, q, h1⟩ := h
  exact ⟨a, vs, e, hs _ q, h1⟩
 | obj c ns l =>
  obtain ⟨a, C, dx, fs, Z, e, q, hc, h1, h2, h3⟩ := h
  exact ⟨a, C, dx, fs, Z, e, hs _ q, hc, h1, h2, h3.len, h3.own, fun i b z => ⟨hs _ (h3.sub i b z).1, (h3.sub i b z).2⟩, h3.dis⟩
 | pin a t ih => exact ⟨h.1, h.2.1, ih h.2.2⟩
def RepB.of (fh : Same F H) (h : Rep K F d v) : RepB K F H d v := by
 cases d with
 | lst l =>
  simp only [Rep] at h
  obtain ⟨a, vs, e, h1, h2⟩ := h
  exact ⟨a, vs, e, fh.seq h1, h2⟩
 | dct ks l =>
  simp only [Rep] at h
  obtain ⟨a, vs, e, h1, h2⟩ := h
  exact ⟨a, vs, e, fh.rd h1, h2⟩
 | dcT ks l =>
  simp only [Rep] at h
  obtain ⟨a, vs, e, h1, h2⟩ := h
  exact ⟨a, vs, e, fh.rd h1, h2⟩
 | tup l =>
  simp only [Rep] at h
  exact h
 | ins c ns l => exact Rep.same fh h
 | _ =>
  simp only [Rep] at h
  exact h
def RepB.rep (fh : Same F H) (h : RepB K F H d v) : Rep K H d v := by
 cases d with
 | lst l =>
  obtain ⟨a, vs, e, h1, h2⟩ := h
  simp only [Rep]
  exact ⟨a, vs, e, h1, h2.same fh⟩
 | dct ks l =>
  obtain ⟨a, vs, e, h1, h2, h3⟩ := h
  simp only [Rep]
  exact ⟨a, vs, e, h1, h2, h3.same fh⟩
 | dcT ks l =>
  obtain ⟨a, vs, e, h1, h2, h3⟩ := h
  simp only [Rep]
  exact ⟨a, vs, e, h1, h2, h3.same fh⟩
 | tup l =>
  obtain ⟨a, vs, e, h1, h2⟩ := h
  simp only [Rep]
  exact ⟨a, vs, e, fh.tup h1, h2.same fh⟩
 | ins c ns l => exact h
 | _ =>
  simp only [Rep]
  exact h
def RepB.step (ff : Same F F') (hh : Same H H') (h : RepB K F H d v) : RepB K F' H' d v := by
 cases d with
 | lst l =>
  obtain ⟨a, vs, e, h1, h2⟩ := h
  exact ⟨a, vs, e, hh.seq h1, h2.same ff⟩
 | dct ks l =>
  obtain ⟨a, vs, e, h1, h2, h3⟩ := h
  exact ⟨a, vs, e, hh.rd h1, h2, h3.same ff⟩
 | dcT ks l =>
  obtain ⟨a, vs, e, h1, h2, h3⟩ := h
  exact ⟨a, vs, e, hh.rd h1, h2, h3.same ff⟩
 | tup l =>
  obtain ⟨a, vs, e, h1, h2⟩ := h
  exact ⟨a, vs, e, ff.tup h1, h2.same ff⟩
 | ins c ns l => exact Rep.same hh h
 | _ => exact h
def Own.repB (fh : Same F H) (h : Own K F H t v S) : RepB K F H t.d v := by
 induction t with
 | leaf d => exact RepB.of fh h
 | lst l =>
  obtain ⟨a, vs, e, _, h1, h2⟩ := h
  exact ⟨a, vs, e, SqL.of h1, h2⟩
 | dct l =>
  obtain ⟨a, vs, e, _, h1, h2⟩ := h
  exact ⟨a, vs, e, .inl h1, h2⟩
 | dcT l =>
  obtain ⟨a, vs, e, _, h1, h2⟩ := h
  exact ⟨a, vs, e, .inl h1, h2⟩
 | obj c ns l => exact nN fh (fun _ _ _ e => e) h
 | pin a t ih => exact ih h.2.2
open Classical in
def pd (F H : Hp) (S : Addr -> Prop) : Hp := fun b => if S b then H b else F b
def gm {b : Addr} (h : S b) : pd F H S b = H b := if_pos h
def iQ {b : Addr} (h : ¬ S b) : pd F H S b = F b := if_neg h
def nO (hs : ∀ b, S b -> F b = none) : Same F (pd F H S) := fun b o e => by
 have : ¬ S b := fun z => by rw [hs b z] at e; cases e
 rw [iQ this]
 exact e
def sI (fh : Same F H) : Same (pd F H S) H := fun b o e => by
 by_cases h : S b
 · rw [gm h] at e
   exact e
 · rw [iQ h] at e
   exact fh _ _ e
def Own.freeze (hs : ∀ b, S b -> F b = none) (h : Own K F H t v S) : Rep K (pd F H S) t.d v := by
 have ff := nO (H := H) hs
 induction t with
 | leaf d => exact Rep.same ff h
 | lst l =>
  obtain ⟨a, vs, e, q, h1, h2⟩ := h
  simp only [T.d, Rep]
  exact ⟨a, vs, e, SqL.of (by rw [gm q]; exact h1), h2.same ff⟩
 | dct l =>
  obtain ⟨a, vs, e, q, h1, h2, h3⟩ := h
  simp only [T.d, Rep]
  exact ⟨a, vs, e, .inl (by rw [gm q]; exact h1), h2, h3.same ff⟩
 | dcT l =>
  obtain ⟨a, vs, e, q, h1, h2, h3⟩ := h
  simp only [T.d, Rep]
  exact ⟨a, vs, e, .inl (by rw [gm q]; exact h1), h2, h3.same ff⟩
 | obj c ns l => exact nN ff (fun b o z e => by rw [gm z]; exact e) h
 | pin a t ih => exact ih h.2.2
end
abbrev Ix := Nat
abbrev De := List (Option T)
structure Sep (K : PySem.W.Frag) (F H : Hp) (B : Addr -> Prop) (L : Ix -> Option (T × V)) (S : Ix -> Addr -> Prop) : Prop where
 own : ∀ i t v, L i = some (t, v) -> Own K F H t v (S i)
 out : ∀ i b, S i b -> F b = none /\ (∃ o, H b = some o) /\ B b
 dis : ∀ i j b, S i b -> S j b -> i = j
def jG (δ : De) (σ : St) (i : Nat) : Option (T × V) := match δ[i]?, σ[i]? with
 | some (some t), some (some v) => some (t, v)
 | _, _ => none
structure Fm where
 K : PySem.W.Frag
 F0 : Hp
 H0 : Hp
 S0 : Addr -> Prop
def Fm.B (Φ : Fm) (b : Addr) : Prop := Φ.H0 b = none ∨ Φ.S0 b
structure En (Φ : Fm) (δ : De) (σ : St) (F H : Hp) : Prop where
 fh : Same F H
 prot : ∀ b o, Φ.H0 b = some o -> ¬ Φ.S0 b -> H b = some o
 old : Same Φ.F0 F
 nw : ∀ b o, F b = some o -> Φ.F0 b = some o ∨ Φ.B b
 len : δ.length = σ.length
 has : ∀ (i : Nat) (t : T), δ[i]? = some (some t) -> ∃ v, σ[i]? = some (some v)
 sep : ∃ S, Sep Φ.K F H Φ.B (jG δ σ) S
section
variable {Φ : Fm} {δ : De} {σ : St} {F H F' H' : Hp}
def db {i : Nat} {t : T} {v : V} (h1 : δ[i]? = some (some t)) (h2 : σ[i]? = some (some v)) : jG δ σ i = some (t, v) := by
 unfold jG
 rw [h1, h2]
def eI {i : Nat} {t : T} {v : V} (h : jG δ σ i = some (t, v)) : δ[i]? = some (some t) /\ σ[i]? = some (some v) := by
 unfold jG at h
 split at h
 · rename_i e1 e2
   cases h
   exact ⟨e1, e2⟩
 · cases h
def En.fresh (e : En Φ δ σ F H) {p : Addr} (hp : H p = none) : Φ.B p := by
 by_cases h : Φ.S0 p
 · exact .inr h
 · left
   cases q : Φ.H0 p with
   | none => rfl
   | some o => rw [e.prot p o q h] at hp; cases hp
def Sep.step {K : PySem.W.Frag} {B : Addr -> Prop} {L : Ix -> Option (T × V)} {S : Ix -> Addr -> Prop} (s : Sep K F H B L S) (st : Step F H F' H') : Sep K F' H' B L S where
 own := fun i t v h => (s.own i t v h).step st.ff fun b o _ e => st.hh b o e
 out := fun i b h => by
  obtain ⟨h1, ⟨o, h2⟩, h3⟩ := s.out i b h
  refine ⟨?_, ⟨o, st.hh _ _ h2⟩, h3⟩
  cases q : F' b with
  | none => rfl
  | some o' =>
   rcases st.nw b o' q with z | z
   · rw [h1] at z; cases z
   · rw [h2] at z; cases z
 dis := s.dis
def En.step (e : En Φ δ σ F H) (st : Step F H F' H') : En Φ δ σ F' H' where
 fh := st.fh
 prot := fun b o h1 h2 => st.hh _ _ (e.prot b o h1 h2)
 old := e.old.trans st.ff
 nw := fun b o h => by
  rcases st.nw b o h with z | z
  · exact e.nw b o z
  · exact .inr (e.fresh z)
 len := e.len
 has := e.has
 sep := let ⟨S, s⟩ := e.sep; ⟨S, s.step st⟩
def En.slot (e : En Φ δ σ F H) {i : Nat} {t : T} (h : δ[i]? = some (some t)) : ∃ v, σ[i]? = some (some v) /\ RepB Φ.K F H t.d v := by
 obtain ⟨v, hv⟩ := e.has i t h
 obtain ⟨S, s⟩ := e.sep
 exact ⟨v, hv, (s.own i t v (db h hv)).repB e.fh⟩
def En.leaf (e : En Φ δ σ F H) {i : Nat} {d : Dt} (h : δ[i]? = some (some (.leaf d))) : ∃ v, σ[i]? = some (some v) /\ Rep Φ.K F d v := by
 obtain ⟨v, hv⟩ := e.has i _ h
 obtain ⟨S, s⟩ := e.sep
 exact ⟨v, hv, s.own i _ v (db h hv)⟩
def dQ {α : Type} {l : List (Option α)} {i j : Nat} {x y : Option α} (h : (l.set i x)[j]? = some y) : (i = j /\ y = x) ∨ (i ≠ j /\ l[j]? = some y) := by
 by_cases hij : i = j
 · subst hij
   left
   rw [List.getElem?_set] at h
   simp only [if_true] at h
   split at h
   · cases h; exact ⟨rfl, rfl⟩
   · cases h
 · right
   rw [gN hij] at h
   exact ⟨hij, h⟩
def En.put (e : En Φ δ σ F H) {t : T} {v : V} {S' : Addr -> Prop} (st : Step F H F' H') (ho : Own Φ.K F' H' t v S') (hs : ∀ b, S' b -> F' b = none /\ H b = none /\ ∃ o, H' b = some o) (i : Nat) : En Φ (δ.set i (some t)) (σ.set i (some v)) F' H' := by
 have e' := e.step st
 obtain ⟨S, s⟩ := e.sep
 have s' := s.step st
 refine ⟨e'.fh, e'.prot, e'.old, e'.nw, by simp [e.len], fun j u h => ?_, fun j b => if j = i then S' b else S j b, ?_, ?_, ?_⟩
 · rcases dQ h with ⟨rfl, z⟩ | ⟨hn, z⟩
   · have hi : i < σ.length := by
      rw [<- e.len]
      have := (gX h).1
      simpa using this
     exact ⟨v, by simp [hi]⟩
   · obtain ⟨w, hw⟩ := e.has j u z
     exact ⟨w, by rw [gN hn]; exact hw⟩
 · intro j u w h
   obtain ⟨h1, h2⟩ := eI h
   rcases dQ h1 with ⟨rfl, z⟩ | ⟨hn, z⟩
   · rcases dQ h2 with ⟨_, z2⟩ | ⟨hn2, _⟩
     · cases z
       cases z2
       show Own _ _ _ _ _ (fun b => if i = i then S' b else S i b)
       simp only [if_true]
       exact ho
     · exact absurd rfl hn2
   · rcases dQ h2 with ⟨z2, _⟩ | ⟨_, z2⟩
     · exact absurd z2 hn
     · have : ¬ j = i := fun q => hn q.symm
       show Own _ _ _ _ _ (fun b => if j = i then S' b else S j b)
       simp only [if_neg this]
       exact s'.own j u w (db z z2)
 · intro j b h
   split at h
   · obtain ⟨h1, h2, h3⟩ := hs b h
     exact ⟨h1, h3, e.fresh h2⟩
   · exact s'.out _ b h
 · have old : ∀ j b, S j b -> ¬ S' b := fun j b h z => by
    obtain ⟨_, ⟨o, h2⟩, _⟩ := s.out j b h
    rw [(hs b z).2.1] at h2
    cases h2
   intro j k b hj hk
   split at hj <;> split at hk
   · rename_i q1 q2
     rw [q1, q2]
   · exact absurd hj (old _ b hk)
   · exact absurd hk (old _ b hj)
   · exact s.dis _ _ b hj hk
def pe {K : PySem.W.Frag} {t : T} {a : Addr} {S : Addr -> Prop} (ht : ∀ d, t ≠ .leaf d) (h : Own K F H t (.ref a) S) : S a := by
 induction t with
 | leaf d => exact absurd rfl (ht d)
 | lst l => obtain ⟨b, _, e, q, _⟩ := h; cases e; exact q
 | dct l => obtain ⟨b, _, e, q, _⟩ := h; cases e; exact q
 | dcT l => obtain ⟨b, _, e, q, _⟩ := h; cases e; exact q
 | obj c ns l => obtain ⟨b, _, _, _, _, e, q, _⟩ := h; cases e; exact q
 | pin b t ih => exact ih h.2.1 h.2.2
def En.poke (e : En Φ δ σ F H) {i : Nat} {t t' : T} {a : Addr} {o : HO} (h : δ[i]? = some (some t)) (hv : σ[i]? = some (some (.ref a))) (ht : ∀ d, t ≠ .leaf d) (ho : ∀ S : Addr -> Prop, S a -> Own Φ.K F (upd H a o) t' (.ref a) S) :
  En Φ (δ.set i (some t')) σ F (upd H a o) := by
 obtain ⟨S, s⟩ := e.sep
 have sa : S i a := pe ht (s.own i t _ (db h hv))
 obtain ⟨fa, ⟨oa, ha⟩, ba⟩ := s.out _ a sa
 have hi : i < δ.length := (gX h).1
 refine ⟨fun b u z => ?_, fun b u h1 h2 => ?_, e.old, e.nw, by simp [e.len], fun j u z => ?_, S, fun j u w z => ?_, fun j b z => ?_, s.dis⟩
 · have : b ≠ a := fun q => by rw [q, fa] at z; cases z
   rw [ay this]
   exact e.fh _ _ z
 · have : b ≠ a := fun q => by
    subst q
    rcases ba with z | z
    · rw [z] at h1; cases h1
    · exact h2 z
   rw [ay this]
   exact e.prot b u h1 h2
 · rcases dQ z with ⟨rfl, _⟩ | ⟨hn, z⟩
   · exact ⟨_, hv⟩
   · exact e.has j u z
 · obtain ⟨h1, h2⟩ := eI z
   rcases dQ h1 with ⟨rfl, z1⟩ | ⟨hn, z1⟩
   · cases z1
     rw [hv] at h2
     cases h2
     exact ho _ sa
   · refine (s.own j u w (db z1 h2)).step (Same.refl _) fun b q hb hq => ?_
     have : b ≠ a := fun y => by
      subst y
      exact hn (s.dis _ _ _ hb sa).symm
     rw [ay this]
     exact hq
 · obtain ⟨h1, ⟨q, h2⟩, h3⟩ := s.out j b z
   refine ⟨h1, ?_, h3⟩
   by_cases y : b = a
   · subst y
     exact ⟨o, az⟩
   · exact ⟨q, by rw [ay y]; exact h2⟩
end
def KO (K : PySem.W.Frag) (F H : Hp) (t : T) (Q : VK) : Prop := ∀ v H' F' S, Step F H F' H' -> Own K F' H' t v S -> (∀ b, S b -> F' b = none /\ H b = none /\ ∃ o, H' b = some o) -> Q v H'
def KL (K : PySem.W.Frag) (F H : Hp) (d : Dt) (Q : VK) : Prop := ∀ v H' F', Step F H F' H' -> Rep K F' d v -> Q v H'
def KB (K : PySem.W.Frag) (F H : Hp) (d : Dt) (Q : VK) : Prop := ∀ v H' F', Step F H F' H' -> RepB K F' H' d v -> Q v H'
section
variable {K : PySem.W.Frag} {F H F1 H1 : Hp} {t : T} {d : Dt} {Q : VK}
def KO.step (k : KO K F H t Q) (st : Step F H F1 H1) : KO K F1 H1 t Q := fun v H' F' S s o hs => k v H' F' S (st.trans s) o fun b z => ⟨(hs b z).1, st.hh.free (hs b z).2.1, (hs b z).2.2⟩
def KO.leaf (k : KO K F H (.leaf d) Q) : KL K F H d Q := fun v H' F' st r => k v H' F' (fun _ => False) st r fun _ z => z.elim
def KL.here (k : KL K F H d Q) (fh : Same F H) {v : V} (r : Rep K F d v) : Q v H := k v H F (Step.refl fh) r
def KB.to (k : KB K F H d Q) : KL K F H d Q := fun v H' F' st r => k v H' F' st (RepB.of st.fh r)
def KL.to (k : KL K F H t.d Q) : KO K F H t Q := fun v H' F' S st o hs => by
 refine k v H' (pd F' H' S) ⟨st.hh, st.ff.trans (nO fun b z => (hs b z).1), sI st.fh, fun b u z => ?_⟩ (o.freeze fun b z => (hs b z).1)
 by_cases hb : S b
 · exact .inr (hs b hb).2.1
 · rw [iQ hb] at z
   exact st.nw b u z
def KB.toO (k : KB K F H t.d Q) : KO K F H t Q := fun v H' F' S st o hs => k v H' F' st (o.repB st.fh)
end
def tO (K : PySem.W.Frag) (f : De -> Option T) : TE := fun σ H Q => ∃ Φ δ F t, Fm.K Φ = K /\ En Φ δ σ F H /\ f δ = some t /\ KO K F H t Q
def tL (K : PySem.W.Frag) (f : De -> Option Dt) : TE := fun σ H Q => ∃ Φ δ F d, Fm.K Φ = K /\ En Φ δ σ F H /\ f δ = some d /\ KL K F H d Q
def tBd (K : PySem.W.Frag) (f : De -> Option Dt) : TE := fun σ H Q => ∃ Φ δ F d, Fm.K Φ = K /\ En Φ δ σ F H /\ f δ = some d /\ KB K F H d Q
def tTr (K : PySem.W.Frag) (f : De -> Option Bool) : TT := fun σ H Q => ∃ Φ δ F b, Fm.K Φ = K /\ En Φ δ σ F H /\ f δ = some b /\ ∀ H' F', Step F H F' H' -> Q b H'
def DO (X : Cx) (e : Expr) (f : De -> Option T) : Prop := PE X e (tO X.K f)
def DL (X : Cx) (e : Expr) (f : De -> Option Dt) : Prop := PE X e (tL X.K f)
def DB (X : Cx) (e : Expr) (f : De -> Option Dt) : Prop := PE X e (tBd X.K f)
def DT (X : Cx) (e : Expr) (f : De -> Option Bool) : Prop := PT X e (tTr X.K f)
def DW (X : Cx) (e : Expr) (f : De -> Option Bool) : Prop := PW X e (tTr X.K f)
def PE.mono {X : Cx} {e : Expr} {t t' : TE} (h : PE X e t) (m : ∀ σ H Q, t' σ H Q -> t σ H Q) : PE X e t' := fun pins s σ H Q I q => h pins s σ H Q I (m _ _ _ q)
def PT.mono {X : Cx} {e : Expr} {t t' : TT} (h : PT X e t) (m : ∀ σ H Q, t' σ H Q -> t σ H Q) : PT X e t' := fun pins s σ H Q I q => h pins s σ H Q I (m _ _ _ q)
def PW.mono {X : Cx} {e : Expr} {t t' : TT} (h : PW X e t) (m : ∀ σ H Q, t' σ H Q -> t σ H Q) : PW X e t' := fun whole pins s σ H Q I q => h whole pins s σ H Q I (m _ _ _ q)
def PA.mono {X : Cx} {e : List Expr} {t t' : TA} (h : PA X e t) (m : ∀ σ H Q, t' σ H Q -> t σ H Q) : PA X e t' := fun pos pins s σ H Q I q => h pos pins s σ H Q I (m _ _ _ q)
def PI.mono {X : Cx} {tg e : Expr} {t t' : TI} (h : PI X tg e t) (m : ∀ σ H Q, t' σ H Q -> t σ H Q) : PI X tg e t' := fun pins s σ H Q I q => h pins s σ H Q I (m _ _ _ q)
def PG.mono {X : Cx} {e : Expr} {t t' : TG} (h : PG X e t) (m : ∀ v σ H Q, t' v σ H Q -> t v σ H Q) : PG X e t' := fun pins s σ H v u Q I r q => h pins s σ H v u Q I r (m _ _ _ _ q)
def PS.mono {X : Cx} {e : Stmt} {t t' : TS} (h : PS X e t) (m : ∀ D σ H, t' D σ H -> t D σ H) : PS X e t' := fun pins s σ H Q I q => h pins s σ H Q I (m _ _ _ q)
def PSs.mono {X : Cx} {e : List Stmt} {t t' : TS} (h : PSs X e t) (m : ∀ D σ H, t' D σ H -> t D σ H) : PSs X e t' := fun pins s σ H Q I q => h pins s σ H Q I (m _ _ _ q)
def PE.or {X : Cx} {e : Expr} {t t' : TE} (h : PE X e t) (h' : PE X e t') : PE X e (fun σ H Q => t σ H Q ∨ t' σ H Q) := fun pins s σ H Q I q => q.elim (h pins s σ H Q I) (h' pins s σ H Q I)
def PI.or {X : Cx} {tg e : Expr} {t t' : TI} (h : PI X tg e t) (h' : PI X tg e t') : PI X tg e (fun σ H Q => t σ H Q ∨ t' σ H Q) := fun pins s σ H Q I q => q.elim (h pins s σ H Q I) (h' pins s σ H Q I)
section
variable {X : Cx} {e a b c : Expr} {f : De -> Option T} {g fa fb fc : De -> Option Dt} {pos : Pos}
def toD (f : De -> Option T) : De -> Option Dt := fun δ => (f δ).map T.d
def toT (f : De -> Option Dt) : De -> Option T := fun δ => (f δ).map T.leaf
def DO.toL (h : DO X e f) : DL X e (toD f) := PE.mono h fun σ H Q ⟨Φ, δ, F, d, hK, en, hf, k⟩ => by
 unfold toD at hf
 cases ht : f δ with
 | none => rw [ht] at hf; cases hf
 | some t =>
  rw [ht] at hf
  cases hf
  exact ⟨Φ, δ, F, t, hK, en, ht, k.to⟩
def DO.toB (h : DO X e f) : DB X e (toD f) := PE.mono h fun σ H Q ⟨Φ, δ, F, d, hK, en, hf, k⟩ => by
 unfold toD at hf
 cases ht : f δ with
 | none => rw [ht] at hf; cases hf
 | some t =>
  rw [ht] at hf
  cases hf
  exact ⟨Φ, δ, F, t, hK, en, ht, k.toO⟩
def DL.toB (h : DL X e g) : DB X e g := PE.mono h fun σ H Q ⟨Φ, δ, F, d, hK, en, hf, k⟩ => ⟨Φ, δ, F, d, hK, en, hf, k.to⟩
def DL.toO (h : DL X e g) : DO X e (toT g) := PE.mono h fun σ H Q ⟨Φ, δ, F, t, hK, en, hf, k⟩ => by
 unfold toT at hf
 cases hd : g δ with
 | none => rw [hd] at hf; cases hf
 | some d =>
  rw [hd] at hf
  cases hf
  exact ⟨Φ, δ, F, d, hK, en, hd, k.leaf⟩
def vL (i : Nat) : De -> Option Dt := fun δ => match δ[i]? with
 | some (some (.leaf d)) => some d
 | _ => none
def vB (i : Nat) : De -> Option Dt := fun δ => match δ[i]? with
 | some (some t) => some t.d
 | _ => none
def aw {i : Nat} (h : PE X e (oO i)) : DL X e (vL i) := PE.mono h fun σ H Q ⟨Φ, δ, F, d, hK, en, hf, k⟩ => by
 unfold vL at hf
 split at hf
 · rename_i q
   cases hf
   obtain ⟨v, h1, h2⟩ := en.leaf q
   exact ⟨v, h1, k.here en.fh (hK ▸ h2)⟩
 · cases hf
def ac {i : Nat} (h : PE X e (oO i)) : DB X e (vB i) := PE.mono h fun σ H Q ⟨Φ, δ, F, d, hK, en, hf, k⟩ => by
 unfold vB at hf
 split at hf
 · rename_i q
   cases hf
   obtain ⟨v, h1, h2⟩ := en.slot q
   exact ⟨v, h1, k v H F (Step.refl en.fh) (hK ▸ h2)⟩
 · cases hf
def kD (d : Dt) : De -> Option Dt := fun _ => some d
def qp {v : V} {d : Dt} (h : PE X e (tC v)) (r : ∀ F, Rep X.K F d v) : DL X e (kD d) := PE.mono h fun σ H Q ⟨Φ, δ, F, d', hK, en, hf, k⟩ => by
 cases hf
 exact k.here en.fh (r F)
def ae {i : Int} {j} : DL X (.Constant (.int i) j pos) (kD (.int i)) := qp vc fun F => by simp only [Rep]
def nP {i : Bool} {j} : DL X (.Constant (.bool i) j pos) (kD (.bl i)) := qp xh fun F => by simp only [Rep]
def qq {j} : DL X (.Constant .none j pos) (kD .non) := qp vd fun F => by simp only [Rep]
def aA {x : Str} {j} : DL X (.Constant (.str x) j pos) (kD (.str x)) := qp ve fun F => by simp only [Rep]
def R2D (K : PySem.W.Frag) (r : R2) (g : Dt -> Dt -> Option T) : Prop := ∀ F H x y vx vy (Q : VK) t, Same F H -> RepB K F H x vx -> RepB K F H y vy -> g x y = some t -> KO K F H t Q -> r vx vy H Q
def d2 (g : Dt -> Dt -> Option T) (fa fb : De -> Option Dt) : De -> Option T := fun δ => (fa δ).bind fun x => (fb δ).bind fun y => g x y
def nQ {K : PySem.W.Frag} {r : R2} {g : Dt -> Dt -> Option T} (hr : R2D K r g) {σ : St} {H : Hp} {Q : VK} (h : tO K (d2 g fa fb) σ H Q) : tOp r (tBd K fa) (tBd K fb) σ H Q := by
 obtain ⟨Φ, δ, F, t, hK, en, hf, k⟩ := h
 unfold d2 at hf
 obtain ⟨x, hx, hf⟩ := bS hf
 obtain ⟨y, hy, hf⟩ := bS hf
 exact ⟨Φ, δ, F, x, hK, en, hx, fun v H1 F1 st rv => ⟨Φ, δ, F1, y, hK, en.step st, hy, fun v2 H2 F2 st2 rv2 => hr F2 H2 x y v v2 Q t st2.fh (rv.step st2.ff st2.hh) rv2 hf (k.step (st.trans st2))⟩⟩
def ar {op : Operator} {r : R2} {g : Dt -> Dt -> Option T} (ho : OpR X (binaryOp op) r) (hr : R2D X.K r g) (ha : DB X a fa) (hb : DB X b fb) : DO X (.BinOp a op b pos) (d2 g fa fb) := PE.mono (pN ho ha hb) fun σ H Q h => nQ hr h
def mB {op : CmpOp} {r : R2} {g : Dt -> Dt -> Option T} (ho : OpR X (compareOp op) r) (hr : R2D X.K r g) (ha : DB X a fa) (hb : DB X b fb) (hm : behindInMarks op b = false) : DO X (.Compare a [op] [b] pos) (d2 g fa fb) := PE.mono (np ho ha hb hm) fun σ H Q h => nQ hr h
def asB : T -> Option Bool
 | .leaf (.bl b) => some b
 | _ => none
def tB2 (g : Dt -> Dt -> Option T) (fa fb : De -> Option Dt) : De -> Option Bool := fun δ => (d2 g fa fb δ).bind asB
def sJ {K : PySem.W.Frag} {F H : Hp} {t : T} {v : V} {S : Addr -> Prop} {b : Bool} (h : asB t = some b) (o : Own K F H t v S) : v = .bl b := by
 unfold asB at h
 split at h
 · cases h
   have o : Rep K F (.bl b) v := o
   simp only [Rep] at o
   exact o
 · cases h
def aS {op : CmpOp} {r : R2} {g : Dt -> Dt -> Option T} (ho : OpR X (compareOp op) r) (hr : R2D X.K r g) (ha : DB X a fa) (hb : DB X b fb) (hm : behindInMarks op b = false) : DT X (.Compare a [op] [b] pos) (tB2 g fa fb) := PT.mono (nq ho ha hb hm) fun σ H Q ⟨Φ, δ, F, t, hK, en, hf, k⟩ => by
 unfold tB2 at hf
 obtain ⟨z, hz, hf⟩ := bS hf
 refine nQ hr ⟨Φ, δ, F, z, hK, en, hz, fun v H' F' S st o hs => ?_⟩
 exact ⟨t, sJ hf o, k H' F' st⟩
def sK : Dt -> Option Bool
 | .non => some false
 | .bl b => some b
 | .int i => some (i != 0)
 | .str x => if x.length <= sizeLine then some ((x.length : Int) != 0) else none
 | .tup l => some (!l.isEmpty)
 | .lst l => some (!l.isEmpty)
 | _ => none
def gn (f : De -> Option Dt) : De -> Option Bool := fun δ => (f δ).bind sK
def gp {K : PySem.W.Frag} {F : Hp} {l : List Dt} {vs : List V} (h : Reps K F l vs) : l.isEmpty = vs.isEmpty := by
 cases l with
 | nil => unfold Reps at h; rw [h]; rfl
 | cons d l => unfold Reps at h; obtain ⟨v, ws, rfl, _⟩ := h; rfl
def nR {K : PySem.W.Frag} {F H : Hp} {d : Dt} {v : V} {b : Bool} (fh : Same F H) (h : RepB K F H d v) (hb : sK d = some b) : vC K v H b := by
 cases d with
 | non => cases h; cases hb; rfl
 | bl x => cases h; cases hb; rfl
 | int x => cases h; cases hb; rfl
 | str x =>
  cases h
  simp only [sK] at hb
  split at hb
  · cases hb; exact ⟨by assumption, rfl⟩
  · cases hb
 | tup l =>
  obtain ⟨a, vs, rfl, h1, h2⟩ := h
  cases hb
  exact .inr (.inl ⟨vs, fh.tup h1, by rw [gp h2]⟩)
 | lst l =>
  obtain ⟨a, vs, rfl, h1, h2⟩ := h
  cases hb
  exact .inl ⟨vs, h1, by rw [gp h2]⟩
 | dct ks l => cases hb
 | dcT ks l => cases hb
 | ins c ns l => cases hb
def iR (ha : DB X a fa) (he : ∀ whole, isTrue a X.env whole = (do let v <- whole; standAt a.pos; holding [v] (truthy v))) : DT X a (gn fa) := PT.mono (kZ ha he) fun σ H Q ⟨Φ, δ, F, b, hK, en, hf, k⟩ => by
 unfold gn at hf
 obtain ⟨d, hd, hf⟩ := bS hf
 exact ⟨Φ, δ, F, d, hK, en, hd, fun v H' F' st r => ⟨b, nR st.fh r hf, k H' F' st⟩⟩
def pf (f : De -> Option Bool) : De -> Option Bool := fun δ => (f δ).map (!·)
def qr (f g : De -> Option Bool) : De -> Option Bool := fun δ => (f δ).bind fun b => if b then g δ else some false
variable {ta tb tc : De -> Option Bool} {rest : List Expr}
def v7 (h : DT X a ta) : DT X (.UnaryOp .Not a pos) (pf ta) := PT.mono (pG h) fun σ H Q ⟨Φ, δ, F, b, hK, en, hf, k⟩ => by
 unfold pf at hf
 cases q : ta δ with
 | none => rw [q] at hf; cases hf
 | some c =>
  rw [q] at hf
  cases hf
  exact ⟨Φ, δ, F, c, hK, en, q, fun H' F' st => k H' F' st⟩
def sL (h : DT X a ta) : DW X (.BoolOp .And [a] pos) ta := na h
def v8 (h : DT X a ta) (h' : DW X (.BoolOp .And (b :: rest) pos) tb) : DW X (.BoolOp .And (a :: b :: rest) pos) (qr ta tb) := PW.mono (pF h h') fun σ H Q ⟨Φ, δ, F, t, hK, en, hf, k⟩ => by
 unfold qr at hf
 obtain ⟨c, hc, hf⟩ := bS hf
 refine ⟨Φ, δ, F, c, hK, en, hc, fun H' F' st => ?_⟩
 split at hf
 · rename_i q
   rw [if_pos q]
   exact ⟨Φ, δ, F', t, hK, en.step st, hf, fun H2 F2 s2 => k H2 F2 (st.trans s2)⟩
 · rename_i q
   rw [if_neg q]
   cases hf
   exact k H' F' st
def DW.t (h : DW X a ta) : DT X a ta := h.pt
def mC : Dt -> Option Bool
 | .bl b => some b
 | _ => none
def v9 (f : De -> Option Dt) : De -> Option T := fun δ => (f δ).bind fun x => (mC x).map fun b => .leaf (.bl (!b))
def ph (f : De -> Option Dt) (g : De -> Option T) : De -> Option T := fun δ => (f δ).bind fun x => (mC x).bind fun b => if b then g δ else some (.leaf (.bl false))
def vIf (c : De -> Option Bool) (f g : De -> Option T) : De -> Option T := fun δ => (c δ).bind fun b => if b then f δ else g δ
def nS {K : PySem.W.Frag} {F H : Hp} {x : Dt} {v : V} {b : Bool} (h : mC x = some b) (r : RepB K F H x v) : v = .bl b := by
 unfold mC at h
 split at h
 · cases h; exact r
 · cases h
def kc {K : PySem.W.Frag} {F : Hp} {b : Bool} : Rep K F (.bl b) (.bl b) := by simp only [Rep]
def dR {K : PySem.W.Frag} {F : Hp} {b : Int} : Rep K F (.int b) (.int b) := by simp only [Rep]
def iw {K : PySem.W.Frag} {F : Hp} {b : Str} : Rep K F (.str b) (.str b) := by simp only [Rep]
def kd {K : PySem.W.Frag} {F : Hp} : Rep K F .non .non := by simp only [Rep]
variable {oa ob : De -> Option T}
def wa (h : DB X a fa) : DO X (.UnaryOp .Not a pos) (v9 fa) := PE.mono (vg h) fun σ H Q ⟨Φ, δ, F, t, hK, en, hf, k⟩ => by
 unfold v9 at hf
 obtain ⟨x, hx, hf⟩ := bS hf
 cases q : mC x with
 | none => rw [q] at hf; cases hf
 | some b =>
  rw [q] at hf
  cases hf
  exact ⟨Φ, δ, F, x, hK, en, hx, fun v H' F' st r => ⟨b, nS q r, (k.step st).leaf.here st.fh kc⟩⟩
def wb {op} (h : DO X a oa) : DO X (.BoolOp op [a] pos) oa := pH h
def qt (h : DB X a fa) (h' : DO X (.BoolOp .And (b :: rest) pos) ob) : DO X (.BoolOp .And (a :: b :: rest) pos) (ph fa ob) := PE.mono (pI h h') fun σ H Q ⟨Φ, δ, F, t, hK, en, hf, k⟩ => by
 unfold ph at hf
 obtain ⟨x, hx, hf⟩ := bS hf
 obtain ⟨b, hb, hf⟩ := bS hf
 refine ⟨Φ, δ, F, x, hK, en, hx, fun v H' F' st r => ⟨b, nS hb r, ?_⟩⟩
 split at hf
 · rename_i q
   rw [if_pos q]
   exact ⟨Φ, δ, F', t, hK, en.step st, hf, k.step st⟩
 · rename_i q
   rw [if_neg q]
   cases hf
   exact (k.step st).leaf.here st.fh kc
def uF (hc : DT X c tc) (h : DO X a oa) (h' : DO X b ob) : DO X (.IfExp c a b pos) (vIf tc oa ob) := PE.mono (kX hc h h') fun σ H Q ⟨Φ, δ, F, t, hK, en, hf, k⟩ => by
 unfold vIf at hf
 obtain ⟨x, hx, hf⟩ := bS hf
 refine ⟨Φ, δ, F, x, hK, en, hx, fun H' F' st => ?_⟩
 split at hf
 · rename_i q
   rw [if_pos q]
   exact ⟨Φ, δ, F', t, hK, en.step st, hf, k.step st⟩
 · rename_i q
   rw [if_neg q]
   exact ⟨Φ, δ, F', t, hK, en.step st, hf, k.step st⟩
def RepBs (K : PySem.W.Frag) (F H : Hp) : List Dt -> List V -> Prop
 | [], vs => vs = []
 | d :: l, vs => ∃ v ws, vs = v :: ws /\ RepB K F H d v /\ RepBs K F H l ws
def tAL (K : PySem.W.Frag) (f : De -> Option (List Dt)) : TA := fun σ H Q => ∃ Φ δ F ds, Fm.K Φ = K /\ En Φ δ σ F H /\ f δ = some ds /\ ∀ vs H' F', Step F H F' H' -> Reps K F' ds vs -> Q vs H'
def tAB (K : PySem.W.Frag) (f : De -> Option (List Dt)) : TA := fun σ H Q => ∃ Φ δ F ds, Fm.K Φ = K /\ En Φ δ σ F H /\ f δ = some ds /\ ∀ vs H' F', Step F H F' H' -> RepBs K F' H' ds vs -> Q vs H'
structure DA (X : Cx) (es : List Expr) (f : De -> Option (List Dt)) : Prop where
 len : ∀ δ ds, f δ = some ds -> ds.length = es.length
 pa : PA X es (tAL X.K f)
structure DAB (X : Cx) (es : List Expr) (f : De -> Option (List Dt)) : Prop where
 len : ∀ δ ds, f δ = some ds -> ds.length = es.length
 pa : PA X es (tAB X.K f)
def aF : De -> Option (List Dt) := fun _ => some []
def af (f : De -> Option Dt) (g : De -> Option (List Dt)) : De -> Option (List Dt) := fun δ => (f δ).bind fun d => (g δ).bind fun ds => some (d :: ds)
variable {es : List Expr} {fs : De -> Option (List Dt)}
def jH {n : Nat} {f : De -> Option Dt} (h : ∀ δ ds, fs δ = some ds -> ds.length = n) : ∀ δ ds, af f fs δ = some ds -> ds.length = n + 1 := fun δ ds hf => by
 unfold af at hf
 obtain ⟨x, hx, hf⟩ := bS hf
 obtain ⟨y, hy, hf⟩ := bS hf
 cases hf
 simp [h δ y hy]
def aI : DA X [] aF := ⟨fun _ _ h => by cases h; rfl, PA.mono fV fun σ H Q ⟨Φ, δ, F, ds, hK, en, hf, k⟩ => by
 cases hf
 exact k [] H F (Step.refl en.fh) (by simp only [Reps])⟩
def bF : DAB X [] aF := ⟨fun _ _ h => by cases h; rfl, PA.mono fV fun σ H Q ⟨Φ, δ, F, ds, hK, en, hf, k⟩ => by
 cases hf
 exact k [] H F (Step.refl en.fh) rfl⟩
def ai (h : DL X e g) (h' : DA X es fs) (hs : starEach (e :: es) X.env = (false, eval e X.env) :: starEach es X.env := by rfl) : DA X (e :: es) (af g fs) :=
 ⟨jH h'.len, PA.mono (dm h h'.pa hs) fun σ H Q ⟨Φ, δ, F, ds, hK, en, hf, k⟩ => by
  unfold af at hf
  obtain ⟨x, hx, hf⟩ := bS hf
  obtain ⟨y, hy, hf⟩ := bS hf
  cases hf
  exact ⟨Φ, δ, F, x, hK, en, hx, fun v H1 F1 st r => ⟨Φ, δ, F1, y, hK, en.step st, hy, fun vs H2 F2 s2 r2 => k (v :: vs) H2 F2 (st.trans s2) (by simp only [Reps]; exact ⟨v, vs, rfl, r.same s2.ff, r2⟩)⟩⟩⟩
def br (h : DB X e g) (h' : DAB X es fs) (hs : starEach (e :: es) X.env = (false, eval e X.env) :: starEach es X.env := by rfl) : DAB X (e :: es) (af g fs) :=
 ⟨jH h'.len, PA.mono (dm h h'.pa hs) fun σ H Q ⟨Φ, δ, F, ds, hK, en, hf, k⟩ => by
  unfold af at hf
  obtain ⟨x, hx, hf⟩ := bS hf
  obtain ⟨y, hy, hf⟩ := bS hf
  cases hf
  exact ⟨Φ, δ, F, x, hK, en, hx, fun v H1 F1 st r => ⟨Φ, δ, F1, y, hK, en.step st, hy, fun vs H2 F2 s2 r2 => k (v :: vs) H2 F2 (st.trans s2) ⟨v, vs, rfl, r.step s2.ff s2.hh, r2⟩⟩⟩⟩
def cI (f : De -> Option (List Dt)) : De -> Option T := fun δ => (f δ).bind fun ds => if ds.length <= sizeLine then some (.leaf (.tup ds)) else none
def dl (f : De -> Option (List Dt)) : De -> Option T := fun δ => (f δ).bind fun ds => if ds.length <= sizeLine then some (.lst ds) else none
def b7 {x1} (h : DA X es fs) : DO X (.Tuple es x1 pos) (cI fs) := PE.mono (pU h.pa) fun σ H Q ⟨Φ, δ, F, t, hK, en, hf, k⟩ => by
 unfold cI at hf
 obtain ⟨ds, hd, hf⟩ := bS hf
 split at hf
 · rename_i hl
   cases hf
   refine ⟨Φ, δ, F, ds, hK, en, hd, fun vs H1 F1 st r => ⟨by rw [r.length]; exact hl, fun p hp => ?_⟩⟩
   refine (k.step st).leaf _ _ _ (Step.new st.fh hp) ?_
   simp only [Rep]
   exact ⟨p, vs, rfl, SqT.of az, r.same (Same.upd (st.fh.free hp))⟩
 · cases hf
def gq {K : PySem.W.Frag} {F H : Hp} {ds : List Dt} {vs : List V} {p : Addr} {Q : VK} (k : KO K F H (.lst ds) Q) (fh : Same F H) (r : Reps K F ds vs) (hp : H p = none) : Q (.ref p) (upd H p (.lst vs)) := by
 refine k _ _ F (fun b => b = p) (Step.made fh hp) ⟨p, vs, rfl, rfl, az, r⟩ fun b z => ?_
 subst z
 exact ⟨fh.free hp, hp, _, az⟩
def eJ (h : DA X es fs) : DO X (.List es pos) (dl fs) := PE.mono (vH h.pa) fun σ H Q ⟨Φ, δ, F, t, hK, en, hf, k⟩ => by
 unfold dl at hf
 obtain ⟨ds, hd, hf⟩ := bS hf
 split at hf
 · rename_i hl
   cases hf
   exact ⟨Φ, δ, F, ds, hK, en, hd, fun vs H1 F1 st r => ⟨by rw [r.length]; exact hl, fun p hp => gq (k.step st) st.fh r hp⟩⟩
 · cases hf
def CRD (K : PySem.W.Frag) (r : List V -> Hp -> VK -> Prop) (g : List Dt -> Option T) : Prop := ∀ F H ds vs (Q : VK) t, Same F H -> RepBs K F H ds vs -> g ds = some t -> KO K F H t Q -> r vs H Q
def aN (g : List Dt -> Option T) (f : De -> Option (List Dt)) : De -> Option T := fun δ => (f δ).bind g
def qu {K : PySem.W.Frag} {r : List V -> Hp -> VK -> Prop} {g : List Dt -> Option T} (hr : CRD K r g) {σ : St} {H : Hp} {Q : VK} (h : tO K (aN g fs) σ H Q) : tCB r (tAB K fs) σ H Q := by
 obtain ⟨Φ, δ, F, t, hK, en, hf, k⟩ := h
 unfold aN at hf
 obtain ⟨ds, hd, hf⟩ := bS hf
 exact ⟨Φ, δ, F, ds, hK, en, hd, fun vs H1 F1 st r => hr F1 H1 ds vs Q t st.fh r hf (k.step st)⟩
variable {x : Str} {p : Pos} {id Ty : String} {sc : Scope} {r : List V -> Hp -> VK -> Prop} {gg : List Dt -> Option T}
def cc (h : aT sc x = true) (hc : cX X (.builtin id) r) (hr : CRD X.K r gg) (hm : X.mg x = none) (hv : bootBuiltins x = some (.builtin id)) (ha : DAB X (e :: es) fs) (e1 : ck X sc := by rfl)
  (he : starEach (e :: es) X.env = (false, eval e X.env) :: starEach es X.env := by rfl) (hpl : (backTo pos (starEach es X.env)).any (·.1) = false := by rfl) : DO X (.Call (.Name x p) (e :: es) [] pos) (aN gg fs) :=
 PE.mono (gO h hc hm hv ha.pa e1 he hpl) fun σ H Q q => qu hr q
def eL (h : aT sc x = true) (hc : cX X (.type Ty) r) (hr : CRD X.K r gg) (hm : X.mg x = none) (hv : bootBuiltins x = some (.type Ty)) (ha : DAB X (e :: es) fs) (e1 : ck X sc := by rfl)
  (he : starEach (e :: es) X.env = (false, eval e X.env) :: starEach es X.env := by rfl) (hpl : (backTo pos (starEach es X.env)).any (·.1) = false := by rfl) : DO X (.Call (.Name x p) (e :: es) [] pos) (aN gg fs) :=
 PE.mono (fX h hc hm hv ha.pa e1 he hpl) fun σ H Q q => qu hr q
def spD (K : PySem.W.Frag) (n : Nat) (f : List Dt -> Option T) : Sp := fun vs H Q _ => ∃ F ds t, Same F H /\ ds.length = n /\ Reps K F ds vs /\ f ds = some t /\ KO K F H t Q
def bf {k n : Nat} {ps : List Str} {ff : List Dt -> Option T} (h : aT sc x = true) (F : OkF X.prog X.w X.K X.mg X.base x k ps (spD X.K n ff)) (hr : Room k X.A) (ha : DA X (e :: es) fs) (hn : (e :: es).length = n := by rfl) (e1 : ck X sc := by rfl)
  (he : starEach (e :: es) X.env = (false, eval e X.env) :: starEach es X.env := by rfl) (hpl : (backTo pos (starEach es X.env)).any (·.1) = false := by rfl) : DO X (.Call (.Name x p) (e :: es) [] pos) (aN ff fs) :=
 PE.mono (gS h F hr ha.pa e1 he hpl) fun σ H Q ⟨Φ, δ, Fz, t, hK, en, hf, k⟩ => by
  unfold aN at hf
  obtain ⟨ds, hd, hf⟩ := bS hf
  refine ⟨Φ, δ, Fz, ds, hK, en, hd, fun vs H1 F1 st r => ?_⟩
  show spD X.K n ff (vs ++ []) H1 Q E0
  rw [List.append_nil]
  exact ⟨F1, ds, t, st.fh, (ha.len δ ds hd).trans hn, r, hf, k.step st⟩
end
inductive Out where
 | nx (δ : De) | rt (t : T) | bk (δ : De) | ct (δ : De) | re (t : T) (δ : De)
structure Rt (Φ : Fm) (t : T) (v : V) (F H : Hp) : Prop where
 fh : Same F H
 prot : ∀ b o, Φ.H0 b = some o -> ¬ Φ.S0 b -> H b = some o
 old : Same Φ.F0 F
 nw : ∀ b o, F b = some o -> Φ.F0 b = some o ∨ Φ.B b
 own : ∃ S, Own Φ.K F H t v S /\ ∀ b, S b -> F b = none /\ (∃ o, H b = some o) /\ Φ.B b
structure Re (Φ : Fm) (t : T) (v : V) (δ : De) (σ : St) (F H : Hp) : Prop where
 en : En Φ δ σ F H
 own : ∃ S R, Sep Φ.K F H Φ.B (jG δ σ) S /\ Own Φ.K F H t v R /\ ∀ b, R b -> F b = none /\ (∃ o, H b = some o) /\ Φ.B b /\ ∀ i, ¬ S i b
noncomputable def Post (Φ : Fm) (D : Ends) : Out -> Prop
 | .nx δ => ∀ σ F H, En Φ δ σ F H -> D.nx σ H
 | .rt t => ∀ v F H, Rt Φ t v F H -> D.rt v H
 | .bk δ => ∀ σ F H, En Φ δ σ F H -> D.bk σ H
 | .ct δ => ∀ σ F H, En Φ δ σ F H -> D.ct σ H
 | .re t δ => ∀ v σ F H, Re Φ t v δ σ F H -> D.rt v H
def tS (K : PySem.W.Frag) (g : De -> Option Out) : TS := fun D σ H => ∃ Φ δ F o, Fm.K Φ = K /\ En Φ δ σ F H /\ g δ = some o /\ Post Φ D o
def DS1 (X : Cx) (st : Stmt) (g : De -> Option Out) : Prop := PS X st (tS X.K g)
def DS (X : Cx) (ss : List Stmt) (g : De -> Option Out) : Prop := PSs X ss (tS X.K g)
section
variable {X : Cx} {st : Stmt} {rest a b body : List Stmt} {g g1 g2 : De -> Option Out} {e c tg iter : Expr} {pos : Pos} {f : De -> Option T} {fd : De -> Option Dt} {tc : De -> Option Bool} {i : Nat}
def dS : De -> Option Out := fun δ => some (.nx δ)
def b8 (g1 g2 : De -> Option Out) : De -> Option Out := fun δ => (g1 δ).bind fun o => match o with
 | .nx δ' => g2 δ'
 | o => some o
def bP : DS X [] dS := PSs.mono nc fun D σ H ⟨Φ, δ, F, o, hK, en, hg, k⟩ => by
 cases hg
 exact k σ F H en
def bc (h : DS1 X st g) : DS X [st] g := ng h
def aR (h1 : DS1 X st g1) (h2 : DS X rest g2) : DS X (st :: rest) (b8 g1 g2) := PSs.mono (kY h1 h2) fun D σ H ⟨Φ, δ, F, o, hK, en, hg, k⟩ => by
 unfold b8 at hg
 obtain ⟨o1, h1, hg⟩ := bS hg
 refine ⟨Φ, δ, F, o1, hK, en, h1, ?_⟩
 cases o1 with
 | nx δ' => exact fun σ' F' H' en' => ⟨Φ, δ', F', o, hK, en', hg, k⟩
 | rt t => cases hg; exact k
 | bk δ' => cases hg; exact k
 | ct δ' => cases hg; exact k
 | re t δ' => cases hg; exact k
def cf (f : De -> Option T) : De -> Option Out := fun δ => (f δ).map .rt
def En.rt {Φ : Fm} {δ : De} {σ : St} {F H F' H' : Hp} {t : T} {v : V} {S : Addr -> Prop} (en : En Φ δ σ F H) (st : Step F H F' H') (o : Own Φ.K F' H' t v S) (hs : ∀ b, S b -> F' b = none /\ H b = none /\ ∃ o, H' b = some o) : Rt Φ t v F' H' := by
 have e' := en.step st
 exact ⟨e'.fh, e'.prot, e'.old, e'.nw, S, o, fun b z => ⟨(hs b z).1, (hs b z).2.2, en.fresh (hs b z).2.1⟩⟩
def bg (h : DO X e f) : DS1 X (.Return (some e) pos) (cf f) := PS.mono (pJ h) fun D σ H ⟨Φ, δ, F, o, hK, en, hg, k⟩ => by
 unfold cf at hg
 obtain ⟨t, ht, hg⟩ := mS hg
 cases hg
 exact ⟨Φ, δ, F, t, hK, en, ht, fun v H' F' S st o hs => k v F' H' (en.rt st (hK ▸ o) hs)⟩
def sIf (c : De -> Option Bool) (g1 g2 : De -> Option Out) : De -> Option Out := fun δ => (c δ).bind fun b => if b then g1 δ else g2 δ
def cB (hc : DT X c tc) (h1 : DS X a g1) (h2 : DS X b g2) : DS1 X (.If c a b pos) (sIf tc g1 g2) := PS.mono (uq hc h1 h2) fun D σ H ⟨Φ, δ, F, o, hK, en, hg, k⟩ => by
 unfold sIf at hg
 obtain ⟨x, hx, hg⟩ := bS hg
 refine ⟨Φ, δ, F, x, hK, en, hx, fun H' F' st => ?_⟩
 split at hg
 · rename_i q
   rw [if_pos q]
   exact ⟨Φ, δ, F', o, hK, en.step st, hg, k⟩
 · rename_i q
   rw [if_neg q]
   exact ⟨Φ, δ, F', o, hK, en.step st, hg, k⟩
def gT (i : Nat) (f : De -> Option T) : De -> Option Out := fun δ => (f δ).map fun t => .nx (δ.set i (some t))
def dc {sc : Scope} {N : List Str} {x : Str} {pos' : Pos} (h : aD sc N i x = true) (hl : bA sc x = true) (nd : N.Nodup) (he : DO X e f) (e1 : ck X sc := by rfl) (e2 : X.N = N := by rfl) (hf : X.fn x = true ∨ X.env.scope.names.lookup x = some .local := by exact .inl rfl)
  (hs : swapsWith e (some (.Name x pos')) pos.line X.env = pure false := by rfl) : DS1 X (.Assign [.Name x pos'] e pos) (gT i f) := PS.mono (nH h hl nd he e1 e2 hf hs) fun D σ H ⟨Φ, δ, F, o, hK, en, hg, k⟩ => by
 unfold gT at hg
 obtain ⟨t, ht, hg⟩ := mS hg
 cases hg
 exact ⟨Φ, δ, F, t, hK, en, ht, fun v H' F' S st o hs => k _ F' H' (en.put st (hK ▸ o) hs i)⟩
noncomputable def gD (K : PySem.W.Frag) (ts : List Nat) (st : Dt -> De -> Option De) : TG := fun v σ H Q => ∃ Φ δ F d δ', Fm.K Φ = K /\ En Φ δ σ F H /\ Rep K F d v /\ st d δ = some δ' /\ ∀ σ', σ'.length = σ.length -> (∀ j, j ∉ ts -> σ'[j]? = σ[j]?) -> En Φ δ' σ' F H -> Q σ' H
noncomputable def gsD (K : PySem.W.Frag) (ts : List Nat) (st : List Dt -> De -> Option De) : TGs := fun vs σ H Q => ∃ Φ δ F ds δ', Fm.K Φ = K /\ En Φ δ σ F H /\ Reps K F ds vs /\ st ds δ = some δ' /\ ∀ σ', σ'.length = σ.length -> (∀ j, j ∉ ts -> σ'[j]? = σ[j]?) -> En Φ δ' σ' F H -> Q σ' H
def DG (X : Cx) (tg : Expr) (ts : List Nat) (bb : Dt -> De -> Option De) : Prop := PG X tg (gD X.K ts bb)
def DGs (X : Cx) (tg : List Expr) (ts : List Nat) (bb : List Dt -> De -> Option De) : Prop := PGs X tg (gsD X.K ts bb)
def ax (i : Nat) : Dt -> De -> Option De := fun d δ => some (δ.set i (some (.leaf d)))
def En.name {Φ : Fm} {δ : De} {σ : St} {F H : Hp} (en : En Φ δ σ F H) {d : Dt} {v : V} (r : Rep Φ.K F d v) (i : Nat) : En Φ (δ.set i (some (.leaf d))) (σ.set i (some v)) F H :=
 en.put (Step.refl en.fh) (S' := fun _ => False) (t := .leaf d) r (fun _ z => z.elim) i
def bi (h : PG X tg (iE i)) : DG X tg [i] (ax i) := PG.mono h fun v σ H Q ⟨Φ, δ, F, d, δ', hK, en, r, hd, k⟩ => by
 cases hd
 refine k _ (by simp) (fun j hj => ?_) (en.name (hK ▸ r) i)
 rw [List.getElem?_set_ne fun z => hj (by simp [z])]
def fN : List Dt -> De -> Option De := fun ds δ => if ds.isEmpty then some δ else none
def aY (b : Dt -> De -> Option De) (bs : List Dt -> De -> Option De) : List Dt -> De -> Option De := fun ds δ => match ds with
 | d :: r => (b d δ).bind fun δ1 => bs r δ1
 | [] => none
def fO (n : Nat) (bs : List Dt -> De -> Option De) : Dt -> De -> Option De := fun d δ => match d with
 | .tup ds => if ds.length = n then bs ds δ else none
 | _ => none
def ke : DGs X [] [] fN := fun pins s σ H vs us Q I r q => rX pins s σ H vs us Q I r (by
 obtain ⟨Φ, δ, F, ds, δ', hK, en, rs, hd, k⟩ := q
 unfold fN at hd
 cases ds with
 | nil => cases hd; simp only [Reps] at rs; exact ⟨rs, k σ rfl (fun _ _ => rfl) en⟩
 | cons d l => cases hd)
def cJ {es : List Expr} {ts ts' : List Nat} {bb : Dt -> De -> Option De} {bs : List Dt -> De -> Option De} (h1 : DG X e ts bb) (h2 : DGs X es ts' bs)
  (hs : (assignEach (e :: es) X.env).map (·.2) = assign e X.env :: (assignEach es X.env).map (·.2) := by rfl) : DGs X (e :: es) (ts ++ ts') (aY bb bs) := fun pins s σ H vs us Q I r q => pK h1 h2 hs pins s σ H vs us Q I r (by
 obtain ⟨Φ, δ, F, ds, δ', hK, en, rs, hd, k⟩ := q
 unfold aY at hd
 cases ds with
 | nil => cases hd
 | cons d l =>
  simp only [Reps] at rs
  obtain ⟨v, ws, e, r1, r2⟩ := rs
  dsimp only at hd
  obtain ⟨δ1, hb, hd⟩ := bS hd
  refine ⟨v, ws, e, Φ, δ, F, d, δ1, hK, en, r1, hb, fun σ1 l1 k1 en1 => ⟨Φ, δ1, F, l, δ', hK, en1, r2, hd, fun σ2 l2 k2 en2 => k σ2 (l2.trans l1) (fun j hj => ?_) en2⟩⟩
  rw [k2 j fun z => hj (List.mem_append_right _ z), k1 j fun z => hj (List.mem_append_left _ z)])
def mD {es : List Expr} {k : Nat} {n : Nat} {ts : List Nat} {bs : List Dt -> De -> Option De} (hc : X.calm = true) (h : DGs X es ts bs)
  (hn : (assignEach es X.env).length = n := by rfl) (hst : (assignEach es X.env).findIdx? (·.1) = none := by rfl) : DG X (.Tuple es k pos) ts (fO n bs) := PG.mono (vi hc h hn hst) fun v σ H Q ⟨Φ, δ, F, d, δ', hK, en, r, hd, q⟩ => by
 unfold fO at hd
 split at hd
 · rename_i ds
   split at hd
   · rename_i hl
     simp only [Rep] at r
     obtain ⟨a, vs, e, h1, h2⟩ := r
     exact ⟨a, vs, e, en.fh.tup h1, by rw [h2.length]; exact hl, Φ, δ, F, ds, δ', hK, en, h2, hd, q⟩
   · cases hd
 · cases hd
noncomputable def nT (K : PySem.W.Frag) (F' : Hp) (J : It) (ds : List Dt) (ok : Hp -> Prop) : Prop := ∀ (i : Nat) (H F : Hp), ok H -> Same F H -> Same F' F -> (i < ds.length -> J.go i H) /\ (i = ds.length -> J.stop i H) /\ ∀ x H', i < ds.length -> J.yld i H x H' -> ∃ d F2, ds[i]? = some d /\ Step F H F2 H' /\ Rep K F2 d x
def Plain.walk {K : PySem.W.Frag} {F' : Hp} {J : It} {xs : List V} {ds : List Dt} {ok : Hp -> Prop} (pl : Plain J xs ok) (r : Reps K F' ds xs) : nT K F' J ds ok := fun i H F hok fh ff => by
 obtain ⟨p1, p2, p3⟩ := pl i H hok
 have hl := r.length
 refine ⟨fun h => p1 (by omega), fun h => p2 (by omega), fun x H' hi hy => ?_⟩
 obtain ⟨rfl, hx⟩ := p3 x H' (by omega) hy
 have hd : ds[i]? = some ds[i] := by simp [hi]
 obtain ⟨v, e, rv⟩ := r.get hd
 rw [hx] at e
 cases e
 exact ⟨_, F, hd, Step.refl fh, rv.same ff⟩
def tIF (K : PySem.W.Frag) (f : De -> Option (List Dt)) : TI := fun σ H R => ∃ Φ δ F ds, Fm.K Φ = K /\ En Φ δ σ F H /\ f δ = some ds /\ ∀ J ok H' F', Step F H F' H' -> nT K F' J ds ok -> (∀ H2, Same F' H2 -> ok H2) -> R J H'
def tIB (K : PySem.W.Frag) (f : De -> Option (List Dt)) : TI := fun σ H R => ∃ Φ δ F ds, Fm.K Φ = K /\ En Φ δ σ F H /\ f δ = some ds /\ ∀ J ok H' F', Step F H F' H' -> nT K F' J ds ok -> (∀ H2, Same H' H2 -> ok H2) -> R J H'
def DIF (X : Cx) (tg iter : Expr) (f : De -> Option (List Dt)) : Prop := PI X tg iter (tIF X.K f)
def DIB (X : Cx) (tg iter : Expr) (f : De -> Option (List Dt)) : Prop := PI X tg iter (tIB X.K f)
def DIF.toB {fi : De -> Option (List Dt)} (h : DIF X tg iter fi) : DIB X tg iter fi := PI.mono h fun σ H R ⟨Φ, δ, F, ds, hK, en, hf, k⟩ => ⟨Φ, δ, F, ds, hK, en, hf, fun J ok H' F' st wd ho => k J ok H' F' st wd fun H2 s => ho H2 (st.fh.trans s)⟩
end
section
variable {X : Cx} {st : Stmt} {rest a b body : List Stmt} {g g1 g2 : De -> Option Out} {e c tg iter l : Expr} {pos : Pos} {f : De -> Option T} {fd : De -> Option Dt} {tc : De -> Option Bool} {i : Nat} {fi : De -> Option (List Dt)}
noncomputable def lq (bb : Dt -> De -> Option De) (g : De -> Option Out) : List Dt -> De -> Option Out
 | [], δ => some (.nx δ)
 | d :: r, δ => (bb d δ).bind fun δ1 => (g δ1).bind fun o => match o with
  | .nx δ2 => lq bb g r δ2
  | .ct δ2 => lq bb g r δ2
  | .bk δ2 => some (.nx δ2)
  | .rt t => some (.rt t)
  | .re t δ2 => some (.re t δ2)
def sM (fi : De -> Option (List Dt)) (bb : Dt -> De -> Option De) (g : De -> Option Out) : De -> Option Out := fun δ => (fi δ).bind fun ds => lq bb g ds δ
def Reps.same_get {K : PySem.W.Frag} {F : Hp} {ds : List Dt} {xs : List V} (r : Reps K F ds xs) {i : Nat} {x : V} (h : xs[i]? = some x) : ∃ d, ds[i]? = some d /\ Rep K F d x := by
 have hl := r.length
 have hi : i < xs.length := (gX h).1
 have hd : ds[i]? = some ds[i] := by simp [show i < ds.length by omega]
 obtain ⟨v, e, rv⟩ := r.get hd
 rw [h] at e
 cases e
 exact ⟨_, hd, rv⟩
def gr {α : Type} {l : List α} {i : Nat} {d : α} (h : l[i]? = some d) : l.drop i = d :: l.drop (i + 1) := by
 have hi : i < l.length := (gX h).1
 rw [List.drop_eq_getElem_cons hi]
 congr 1
 have := (gX h).2
 exact this
def Fm.at (Φ : Fm) (F1 : Hp) : Fm := { Φ with F0 := F1 }
def En.back {Φ : Fm} {δ δ' : De} {σ σ' : St} {F1 H1 F H : Hp} (en : En Φ δ σ F1 H1) (e : En (Φ.at F1) δ' σ' F H) : En Φ δ' σ' F H :=
 ⟨e.fh, e.prot, en.old.trans e.old, fun b o h => (e.nw b o h).elim (fun z => en.nw b o z) .inr, e.len, e.has, e.sep⟩
def Rt.back {Φ : Fm} {δ : De} {σ : St} {F1 H1 F H : Hp} {t : T} {v : V} (en : En Φ δ σ F1 H1) (e : Rt (Φ.at F1) t v F H) : Rt Φ t v F H :=
 ⟨e.fh, e.prot, en.old.trans e.old, fun b o h => (e.nw b o h).elim (fun z => en.nw b o z) .inr, e.own⟩
def Re.back {Φ : Fm} {δ δ' : De} {σ σ' : St} {F1 H1 F H : Hp} {t : T} {v : V} (en : En Φ δ σ F1 H1) (e : Re (Φ.at F1) t v δ' σ' F H) : Re Φ t v δ' σ' F H := ⟨en.back e.en, e.own⟩
def En.at {Φ : Fm} {δ : De} {σ : St} {F1 H1 : Hp} (en : En Φ δ σ F1 H1) : En (Φ.at F1) δ σ F1 H1 :=
 ⟨en.fh, en.prot, Same.refl _, fun b o h => .inl h, en.len, en.has, en.sep⟩
def Post.at {Φ : Fm} {D : Ends} {o : Out} {δ : De} {σ : St} {F1 H1 : Hp} (en : En Φ δ σ F1 H1) (k : Post Φ D o) : Post (Φ.at F1) D o := by
 cases o with
 | nx δ' => exact fun σ' F H e => k σ' F H (en.back e)
 | bk δ' => exact fun σ' F H e => k σ' F H (en.back e)
 | ct δ' => exact fun σ' F H e => k σ' F H (en.back e)
 | rt t => exact fun v F H e => k v F H (Rt.back en e)
 | re t δ' => exact fun v σ' F H e => k v σ' F H (Re.back en e)
def iS {n : Nat} {g : TG} {tb : TS} {D : Ends} {J : It} {σ : St} {H1 : Hp} (Pv : Nat -> St -> Hp -> Prop) (h0 : Pv 0 σ H1) (hgo : ∀ i σ H, Pv i σ H -> (i < n -> J.go i H) /\ (i = n -> J.stop i H))
  (hs : ∀ i x σ H H', i < n -> Pv i σ H -> J.yld i H x H' -> g x σ H' fun σ2 H2 => tb { D with nx := Pv (i + 1), ct := Pv (i + 1), bk := D.nx } σ2 H2) (hd : ∀ σ H, Pv n σ H -> D.nx σ H) : ForW g tb D J σ H1 := by
 refine ⟨fun i m σ H => m = n - i /\ i <= n /\ Pv i σ H, ⟨n, by simp, Nat.zero_le _, h0⟩, ?_⟩
 rintro i m σ H ⟨rfl, hi, p⟩
 obtain ⟨p1, p2⟩ := hgo i σ H p
 by_cases hlt : i < n
 · exact .inr ⟨p1 hlt, Pv (i + 1), fun σ' H' p' => ⟨n - (i + 1), by omega, rfl, hlt, p'⟩, fun x H' y => hs i x σ H H' hlt p y⟩
 · have e : i = n := by omega
   subst e
   exact .inl ⟨p2 rfl, hd σ H p⟩
def wc {ts : List Nat} {bb : Dt -> De -> Option De} (hp : PassesOwn (model X.prog X.w) X.A X.env X.xe) (hc : X.calm = true) (hi : DIF X tg iter fi) (hg : DG X tg ts bb) (hb : DS X body g)
  (hs : ∀ x, foldedSetIterable iter X.env x = pure x := by intro _; rfl) : DS1 X (.For tg iter body [] pos) (sM fi bb g) := PS.mono (mj hp hc hi hg hb hs) fun D σ H ⟨Φ, δ, F, o, hK, en, hg, k⟩ => by
 unfold sM at hg
 obtain ⟨ds, hd, hg⟩ := bS hg
 rw [j9]
 refine ⟨Φ, δ, F, ds, hK, en, hd, fun J ok H1 F1 st1 wd ho => ?_⟩
 have en1 := en.step st1
 have k1 := Post.at en1 k
 refine iS (n := ds.length) (fun i σ' H' => ∃ δ' F', En (Φ.at F1) δ' σ' F' H' /\ lq bb g (ds.drop i) δ' = some o) ⟨δ, F1, en1.at, by simpa using hg⟩ (fun i σ' H' ⟨δ', F', en', _⟩ => ?_) ?_ ?_
 · obtain ⟨p1, p2, _⟩ := wd i H' F' (ho H' (en'.old.trans en'.fh)) en'.fh en'.old
   exact ⟨p1, p2⟩
 · rintro i x σ' H' H'' hi ⟨δ', F', en', hgo⟩ hy
   obtain ⟨_, _, p3⟩ := wd i H' F' (ho H' (en'.old.trans en'.fh)) en'.fh en'.old
   obtain ⟨d, F2, hd', st2, rd⟩ := p3 x H'' hi hy
   rw [gr hd'] at hgo
   unfold lq at hgo
   obtain ⟨δ1, h1, hgo⟩ := bS hgo
   obtain ⟨o1, h2, hgo⟩ := bS hgo
   refine ⟨Φ.at F1, δ', F2, d, δ1, hK, en'.step st2, rd, h1, fun σ1 _ _ en1 => ⟨Φ.at F1, δ1, F2, o1, hK, en1, h2, ?_⟩⟩
   cases o1 with
   | nx δ2 => exact fun σ2 F2 H2 en2 => ⟨δ2, F2, en2, hgo⟩
   | ct δ2 => exact fun σ2 F2 H2 en2 => ⟨δ2, F2, en2, hgo⟩
   | bk δ2 => cases hgo; exact fun σ2 F2 H2 en2 => k1 σ2 F2 H2 en2
   | rt t => cases hgo; exact fun v F2 H2 q => k1 v F2 H2 q
   | re t δ2 => cases hgo; exact fun v σ2 F2 H2 q => k1 v σ2 F2 H2 q
 · rintro σ' H' ⟨δ', F', en', hgo⟩
   rw [List.drop_length] at hgo
   cases hgo
   exact k1 σ' F' H' en'
def xI (x : Str) : List Dt := x.cps.toList.map fun c => .str ⟨#[c]⟩
def bK (lo : Int) (n : Nat) : List Dt := (List.range n).map fun (i : Nat) => .int (lo + i)
def Reps.map {K : PySem.W.Frag} {F : Hp} {α : Type} {f : α -> Dt} {g : α -> V} (h : ∀ x, Rep K F (f x) (g x)) : ∀ l : List α, Reps K F (l.map f) (l.map g)
 | [] => by simp [Reps]
 | x :: l => by
  simp only [List.map_cons, Reps]
  exact ⟨_, _, rfl, h x, Reps.map h l⟩
def itD : Dt -> Option (List Dt)
 | .lst l => some l
 | .tup l => some l
 | .str x => some (xI x)
 | _ => none
def fIt (f : De -> Option Dt) : De -> Option (List Dt) := fun δ => (f δ).bind itD
def iT (h : DL X l fd) : DIF X tg l (fIt fd) := PI.mono (PI.or (ni h) (PI.or (pL h) (qg h))) fun σ H R ⟨Φ, δ, F, ds, hK, en, hf, k⟩ => by
 unfold fIt at hf
 obtain ⟨d, hd, hf⟩ := bS hf
 cases d with
 | lst l =>
  cases hf
  refine .inl ⟨Φ, δ, F, _, hK, en, hd, fun v H' F' st r => ?_⟩
  simp only [Rep] at r
  obtain ⟨a, vs, rfl, h1, h2⟩ := r
  exact ⟨a, rfl, ⟨vs, st.fh.seq h1⟩, k _ _ H' F' st (plain_list.walk h2) fun H2 s => s.seq h1⟩
 | tup l =>
  cases hf
  refine .inr (.inl ⟨Φ, δ, F, _, hK, en, hd, fun v H' F' st r => ?_⟩)
  simp only [Rep] at r
  obtain ⟨a, vs, rfl, h1, h2⟩ := r
  exact ⟨a, rfl, ⟨vs, st.fh.tup h1⟩, k _ _ H' F' st (plain_tup.walk h2) fun H2 s => s.tup h1⟩
 | str x =>
  cases hf
  refine .inr (.inr ⟨Φ, δ, F, _, hK, en, hd, fun v H' F' st r => ?_⟩)
  simp only [Rep] at r
  exact ⟨x, r, k _ _ H' F' st (plain_str.walk (Reps.map (fun c => iw) _)) fun _ _ => trivial⟩
 | _ => cases hf
def kf (h : DB X l fd) : DIB X tg l (fIt fd) := PI.mono (PI.or (ni h) (PI.or (pL h) (qg h))) fun σ H R ⟨Φ, δ, F, ds, hK, en, hf, k⟩ => by
 unfold fIt at hf
 obtain ⟨d, hd, hf⟩ := bS hf
 cases d with
 | lst l =>
  cases hf
  refine .inl ⟨Φ, δ, F, _, hK, en, hd, fun v H' F' st r => ?_⟩
  obtain ⟨a, vs, rfl, h1, h2⟩ := r
  exact ⟨a, rfl, ⟨vs, h1⟩, k _ _ H' F' st (plain_list.walk h2) fun H2 s => s.seq h1⟩
 | tup l =>
  cases hf
  refine .inr (.inl ⟨Φ, δ, F, _, hK, en, hd, fun v H' F' st r => ?_⟩)
  obtain ⟨a, vs, rfl, h1, h2⟩ := r
  exact ⟨a, rfl, ⟨vs, st.fh.tup h1⟩, k _ _ H' F' st (plain_tup.walk h2) fun H2 s => s.tup (st.fh.tup h1)⟩
 | str x =>
  cases hf
  refine .inr (.inr ⟨Φ, δ, F, _, hK, en, hd, fun v H' F' st r => ?_⟩)
  exact ⟨x, r, k _ _ H' F' st (plain_str.walk (Reps.map (fun c => iw) _)) fun _ _ => trivial⟩
 | _ => cases hf
def jI (j : Int) : Bool := decide (-(2 ^ 62) <= j) && decide (j < 2 ^ 62)
def jo : List Dt -> Option (List Dt)
 | [.int j] => if jI j then some (bK 0 j.toNat) else none
 | _ => none
def ij (r : List Dt -> Option (List Dt)) (f : De -> Option (List Dt)) : De -> Option (List Dt) := fun δ => (f δ).bind r
variable {p : Pos} {sc : Scope} {x y : Expr} {fs : De -> Option (List Dt)}
def jJ {j : Int} (h : jI j = true) : -(2 ^ 62) <= j /\ j < 2 ^ 62 := by
 unfold jI at h
 simpa using h
def mE {K : PySem.W.Frag} {F : Hp} (lo : Int) (n : Nat) : Reps K F (bK lo n) (iO lo n) := Reps.map (fun _ => dR) _
def dH (h : aT sc "range" = true) (hm : X.mg "range" = none) (ha : DA X [x] fs) (e1 : ck X sc := by rfl) (hs : starEach [x] X.env = [(false, eval x X.env)] := by rfl) : DIF X tg (.Call (.Name "range" p) [x] [] pos) (ij jo fs) :=
 PI.mono (mz h hm ha.pa e1 hs) fun σ H R ⟨Φ, δ, F, ds, hK, en, hf, k⟩ => by
  unfold ij at hf
  obtain ⟨as, hd, hf⟩ := bS hf
  refine ⟨Φ, δ, F, as, hK, en, hd, fun vs H' F' st r => ?_⟩
  unfold jo at hf
  split at hf
  · rename_i j
    split at hf
    · rename_i hj
      cases hf
      simp only [Reps, Rep] at r
      obtain ⟨v, ws, rfl, rfl, rfl⟩ := r
      exact ⟨j, rfl, (jJ hj).1, (jJ hj).2, k _ _ H' F' st (plain_range.walk (mE _ _)) fun _ _ => trivial⟩
    · cases hf
  · cases hf
end
def dC (src : List (Option Nat)) (δ : De) : De := src.map fun o => o.bind fun j => (δ[j]?).join
noncomputable def dJ (bb : Dt -> De -> Option De) (ft : De -> Option Bool) (fe : De -> Option Dt) (δ : De) : List Dt -> Option (List Dt)
 | [] => some []
 | d :: r => (bb d δ).bind fun δ1 => (ft δ1).bind fun b => if b then (fe δ1).bind fun y => (dJ bb ft fe δ r).bind fun ys => some (y :: ys) else dJ bb ft fe δ r
noncomputable def cj (src : List (Option Nat)) (fi : De -> Option (List Dt)) (bb : Dt -> De -> Option De) (ft : De -> Option Bool) (fe : De -> Option Dt) : De -> Option T := fun δ =>
 (fi δ).bind fun ds => (dJ bb ft fe (dC src δ) ds).bind fun ys => if ys.length <= sizeLine then some (.lst ys) else none
def bv : De -> Option Bool := fun _ => some true
def DTs (X : Cx) (ifs : List Expr) (f : De -> Option Bool) : Prop := PTs X ifs (tTr X.K f)
def cT {X : Cx} : DTs X [] bv := fun pins s σ H Q I h => sE pins s σ H Q I (by
 obtain ⟨Φ, δ, F, b, hK, en, hf, k⟩ := h
 cases hf
 exact k H F (Step.refl en.fh))
section
variable {X : Cx} {elt tg iter : Expr} {ifs : List Expr} {scope : Scope} {pos : Pos} {M : List Str} {src : List (Option Nat)} {fi : De -> Option (List Dt)} {ft : De -> Option Bool} {fe : De -> Option Dt}
def sN (S : CmpScope X.N X.env.scope scope M src) {k l j : Nat} (hk : src[k]? = some (some j)) (hl : src[l]? = some (some j)) : k = l := by
 have nm : ∀ k, src[k]? = some (some j) -> ∃ x, M[k]? = some x /\ X.N[j]? = some x := fun k h => by
  have hlt : k < M.length := by rw [S.len]; exact (gX h).1
  have hm : M[k]? = some M[k] := by simp [hlt]
  have hz : (M.zip src)[k]? = some (M[k], some j) := by rw [List.getElem?_zip_eq_some]; exact ⟨hm, h⟩
  exact ⟨_, hm, (S.src _ (List.mem_of_getElem? hz) j rfl).1⟩
 obtain ⟨x, h1, h2⟩ := nm k hk
 obtain ⟨y, h3, h4⟩ := nm l hl
 rw [h2] at h4
 cases h4
 exact (List.getElem?_inj (gX h1).1 S.nd).mp (h1.trans h3.symm)
def qv {δ : De} {k : Nat} {t : T} (h : (dC src δ)[k]? = some (some t)) : ∃ j, src[k]? = some (some j) /\ δ[j]? = some (some t) := by
 unfold dC at h
 rw [List.getElem?_map] at h
 cases e : src[k]? with
 | none => rw [e] at h; cases h
 | some o =>
  rw [e] at h
  cases o with
  | none => cases h
  | some j =>
   simp only [Option.map_some, Option.bind_some, Option.some.injEq] at h
   refine ⟨j, rfl, ?_⟩
   cases q : δ[j]? with
   | none => rw [q] at h; cases h
   | some u => rw [q] at h; simp only [Option.join_some] at h; rw [h]
def nU {σ : St} {k j : Nat} {v : V} (h1 : src[k]? = some (some j)) (h2 : σ[j]? = some (some v)) : (stC src σ)[k]? = some (some v) := by
 unfold stC
 rw [List.getElem?_map, h1]
 simp [h2]
def mF {σ : St} {k : Nat} {v : V} (h : (stC src σ)[k]? = some (some v)) : ∃ j, src[k]? = some (some j) /\ σ[j]? = some (some v) := by
 unfold stC at h
 rw [List.getElem?_map] at h
 cases e : src[k]? with
 | none => rw [e] at h; cases h
 | some o =>
  rw [e] at h
  cases o with
  | none => cases h
  | some j =>
   simp only [Option.map_some, Option.bind_some, Option.some.injEq] at h
   refine ⟨j, rfl, ?_⟩
   cases q : σ[j]? with
   | none => rw [q] at h; cases h
   | some u => rw [q] at h; simp only [Option.join_some] at h; rw [h]
def En.comp {Φ : Fm} {δ : De} {σ : St} {F H : Hp} (S : CmpScope X.N X.env.scope scope M src) (en : En Φ δ σ F H) : En Φ (dC src δ) (stC src σ) F H := by
 refine ⟨en.fh, en.prot, en.old, en.nw, by simp [dC, stC], fun k t h => ?_, ?_⟩
 · obtain ⟨j, h1, h2⟩ := qv h
   obtain ⟨v, hv⟩ := en.has j t h2
   exact ⟨v, nU h1 hv⟩
 · obtain ⟨Z, s⟩ := en.sep
   refine ⟨fun k b => ∃ j, src[k]? = some (some j) /\ Z j b, fun k t v h => ?_, fun k b ⟨j, _, z⟩ => s.out j b z, fun k l b ⟨j, h1, z⟩ ⟨j', h2, z'⟩ => ?_⟩
   · obtain ⟨h1, h2⟩ := eI h
     obtain ⟨j, e1, e2⟩ := qv h1
     obtain ⟨j', e3, e4⟩ := mF h2
     rw [e1] at e3
     cases e3
     exact (s.own j t v (db e2 e4)).grow fun b z => ⟨j, e1, z⟩
   · have := s.dis _ _ b z z'
     subst this
     exact sN S h1 h2
def jK {n : Nat} {g : TG} {tt : TT} {te : TE} {σ : St} {J : It} {H1 : Hp} {Q : VK} {D : Addr} (Pv : Nat -> Hp -> Prop) (h0 : Pv 0 (upd H1 D (.lst []))) (hgo : ∀ i H, Pv i H -> (i < n -> J.go i H) /\ (i = n -> J.stop i H))
  (hs : ∀ i x H H', i < n -> Pv i H -> J.yld i H x H' -> g x (stC src σ) H' fun σ2 H2 => Wk (stC src σ) σ2 /\ tt σ2 H2 fun b H3 => if b = true then te σ2 H3 fun v H4 => ∃ ys, H4 D = some (.lst ys) /\ ys.length < sizeLine /\ Pv (i + 1) (upd H4 D (.lst (ys ++ [v]))) else Pv (i + 1) H3)
  (hd : ∀ H, Pv n H -> Q (.ref D) H) : uC src g tt te σ J H1 Q D := by
 refine ⟨fun i m H => m = n - i /\ i <= n /\ Pv i H, ⟨n, by simp, Nat.zero_le _, h0⟩, ?_⟩
 rintro i m H ⟨rfl, hi, p⟩
 obtain ⟨p1, p2⟩ := hgo i H p
 by_cases hlt : i < n
 · exact .inr ⟨p1 hlt, Pv (i + 1), fun H' p' => ⟨n - (i + 1), by omega, rfl, hlt, p'⟩, fun x H' y => hs i x H H' hlt p y⟩
 · have e : i = n := by omega
   subst e
   exact .inl ⟨p2 rfl, hd H p⟩
def nV {ts : List Nat} {bb : Dt -> De -> Option De} (S : CmpScope X.N X.env.scope scope M src) (hts : (ts.all fun k => decide (src[k]? = some none)) = true) : ∀ (σ : St) (H : Hp) (Q : VK), tO X.K (cj src fi bb ft fe) σ H Q -> jE src (tIB X.K fi) (gD X.K ts bb) (tTr X.K ft) (tL X.K fe) σ H Q := fun σ H Q ⟨Φ, δ, F, t, hK, en, hf, k⟩ => by
 unfold cj at hf
 obtain ⟨ds, hd, hf⟩ := bS hf
 obtain ⟨all, ha, hf⟩ := bS hf
 split at hf
 case isFalse => cases hf
 rename_i hz
 cases hf
 rw [ln]
 refine ⟨Φ, δ, F, ds, hK, en, hd, fun J ok H1 F1 st1 wd ho D hD => ?_⟩
 have en1 := en.step st1
 have k1 := k.step st1
 have wk : ∀ {σ2 : St}, σ2.length = (stC src σ).length -> (∀ j, j ∉ ts -> σ2[j]? = (stC src σ)[j]?) -> Wk (stC src σ) σ2 := fun {σ2} h1 h2 => by
  refine ⟨h1.symm, fun j v hj => ?_⟩
  by_cases hm : j ∈ ts
  · have := List.all_eq_true.mp hts j hm
    have hn : src[j]? = some none := of_decide_eq_true this
    obtain ⟨i, e, _⟩ := mF hj
    rw [hn] at e
    cases e
  · rw [h2 j hm]
    exact hj
 have ok' : ∀ {F H : Hp}, Step F1 H1 F H -> ok H := fun st => ho _ st.hh
 refine jK (n := ds.length) (fun i H => ∃ F ys done rest', Step F1 H1 F H /\ H D = some (.lst ys) /\ F D = none /\ Reps X.K F done ys /\ dJ bb ft fe (dC src δ) (ds.drop i) = some rest' /\ done ++ rest' = all) ?_ ?_ ?_ ?_
 · exact ⟨F1, [], [], all, Step.made st1.fh hD, az, st1.fh.free hD, by simp [Reps], by simpa using ha, rfl⟩
 · rintro i H' ⟨F', ys, done, rest', st, _⟩
   obtain ⟨p1, p2, _⟩ := wd i H' F' (ok' st) st.fh st.ff
   exact ⟨p1, p2⟩
 · rintro i x H0' H' hi ⟨F0', ys, done, rest', st0, hD0, hFD0, rys0, hgo, hall⟩ hy0
   obtain ⟨_, _, p3⟩ := wd i H0' F0' (ok' st0) st0.fh st0.ff
   obtain ⟨d, F', hd', stw, rd⟩ := p3 x H' hi hy0
   have st := st0.trans stw
   have hD' : H' D = some (.lst ys) := stw.hh _ _ hD0
   have hFD : F' D = none := by
    cases q : F' D with
    | none => rfl
    | some o =>
     rcases stw.nw D o q with z | z
     · rw [hFD0] at z; cases z
     · rw [hD0] at z; cases z
   have rys := rys0.same stw.ff
   rw [gr hd'] at hgo
   unfold dJ at hgo
   obtain ⟨δ1, h1, hgo⟩ := bS hgo
   obtain ⟨b, h2, hgo⟩ := bS hgo
   refine ⟨Φ, dC src δ, F', d, δ1, hK, (en1.step st).comp S, rd, h1, fun σ2 l2 k2 en2 => ⟨wk l2 k2, Φ, δ1, F', b, hK, en2, h2, fun H3 F3 st3 => ?_⟩⟩
   have hD3 : H3 D = some (.lst ys) := st3.hh _ _ hD'
   have hF3 : F3 D = none := by
    cases q : F3 D with
    | none => rfl
    | some o =>
     rcases st3.nw D o q with z | z
     · rw [hFD] at z; cases z
     · rw [hD'] at z; cases z
   dsimp only
   split at hgo
   · rename_i q
     rw [if_pos q]
     obtain ⟨y, hy, hgo⟩ := bS hgo
     obtain ⟨zs, hzs, hgo⟩ := bS hgo
     cases hgo
     refine ⟨Φ, δ1, F3, y, hK, en2.step st3, hy, fun v H4 F4 st4 rv => ?_⟩
     have hD4 : H4 D = some (.lst ys) := st4.hh _ _ hD3
     have hF4 : F4 D = none := by
      cases q : F4 D with
      | none => rfl
      | some o =>
       rcases st4.nw D o q with z | z
       · rw [hF3] at z; cases z
       · rw [hD3] at z; cases z
     have s14 := (st.trans st3).trans st4
     refine ⟨ys, hD4, ?_, F4, ys ++ [v], done ++ [y], zs, ?_, az, hF4, (rys.same (st3.ff.trans st4.ff)).append (Reps.one rv), hzs, by rw [<- hall]; simp⟩
     · have e1 := rys.length
       have e2 : all.length = done.length + (zs.length + 1) := by rw [<- hall]; simp
       omega
     · refine ⟨fun c o e => ?_, s14.ff, fun c o e => ?_, s14.nw⟩
       · rw [ay (bJ e hD)]
         exact s14.hh _ _ e
       · rw [ay (bJ e hF4)]
         exact s14.fh _ _ e
   · rename_i q
     rw [if_neg q]
     exact ⟨F3, ys, done, rest', st.trans st3, hD3, hF3, rys.same st3.ff, hgo, hall⟩
 · rintro H' ⟨F', ys, done, rest', st, hD', hFD, rys, hgo, hall⟩
   rw [List.drop_length] at hgo
   cases hgo
   rw [List.append_nil] at hall
   subst hall
   exact k1 (.ref D) H' F' (fun b => b = D) st ⟨D, ys, rfl, rfl, hD', rys⟩ fun b z => by
    subst z
    exact ⟨hFD, hD, _, hD'⟩
def fI {ts : List Nat} {bb : Dt -> De -> Option De} (S : CmpScope X.N X.env.scope scope M src) (hc : X.calm = true) (hi : DIB X tg iter fi) (hg : M.Nodup -> ∀ C s H ex, DG (cxC X M scope C s H ex) tg ts bb)
  (ht : ∀ C s H ex, DTs (cxC X M scope C s H ex) ifs ft) (he : ∀ C s H ex, DL (cxC X M scope C s H ex) elt fe) (hts : (ts.all fun k => decide (src[k]? = some none)) = true) (hs : ∀ x, foldedSetIterable iter X.env x = pure x := by intro _; rfl) :
  DO X (.ListComp elt [⟨tg, iter, ifs, 0⟩] scope pos) (cj src fi bb ft fe) := PE.mono (lm (g := gD X.K ts bb) (tt := tTr X.K ft) (te := tL X.K fe) S hc hi (fun nd C s H ex => hg nd C s H ex) (fun C s H ex => ht C s H ex) (fun C s H ex => he C s H ex) hs) (nV S hts)
end
def gt (m : Nat) (g : De -> Option Out) : List Dt -> Option T := fun ds => match g (ds.map (fun d => some (T.leaf d)) ++ List.replicate (m - ds.length) none) with
 | some (.rt t) => some t
 | some (.nx _) => some (.leaf .non)
 | _ => none
def lr {K : PySem.W.Frag} {F H : Hp} {ds : List Dt} {vs : List V} {N : List Str} (fh : Same F H) (r : Reps K F ds vs) :
  En ⟨K, F, H, fun _ => False⟩ (ds.map (fun d => some (T.leaf d)) ++ List.replicate (N.length - ds.length) none) (cP N vs) F H := by
 have hl := r.length
 have key : ∀ (i : Nat) (t : T), (ds.map (fun d => some (T.leaf d)) ++ List.replicate (N.length - ds.length) none)[i]? = some (some t) -> ∃ d v, t = T.leaf d /\ vs[i]? = some v /\ Rep K F d v /\ (cP N vs)[i]? = some (some v) := fun i t h => by
  by_cases hi : i < ds.length
  · rw [List.getElem?_append_left (by simpa using hi), List.getElem?_map] at h
    have hd : ds[i]? = some ds[i] := by simp [hi]
    rw [hd] at h
    cases h
    obtain ⟨v, hv, rv⟩ := r.get hd
    refine ⟨_, v, rfl, hv, rv, ?_⟩
    unfold cP
    rw [List.getElem?_append_left (by simp; omega), List.getElem?_map, hv]
    rfl
  · rw [List.getElem?_append_right (by simpa using hi)] at h
    rw [List.getElem?_replicate] at h
    split at h <;> cases h
 refine ⟨fh, fun b o h _ => h, Same.refl _, fun b o h => .inl h, by simp [cP, hl], fun i t h => ?_, fun _ _ => False, fun i t v h => ?_, fun _ _ z => z.elim, fun _ _ _ z => z.elim⟩
 · obtain ⟨d, v, _, _, _, e⟩ := key i t h
   exact ⟨v, e⟩
 · obtain ⟨h1, h2⟩ := eI h
   obtain ⟨d, w, rfl, _, rv, e⟩ := key i t h1
   rw [h2] at e
   cases e
   exact rv
section
variable {P : Program} {w : World} {K : PySem.W.Frag} {mg : Str -> Option Value} {base : Heap}
def Rt.step {F H : Hp} {t : T} {v : V} {F' H' : Hp} (h : Rt ⟨K, F, H, fun _ => False⟩ t v F' H') {Q : VK} (k : KO K F H t Q) : Q v H' := by
 obtain ⟨fh, prot, old, nw, S, o, hs⟩ := h
 refine k v H' F' S ⟨fun b u e => prot b u e id, old, fh, fun b u e => (nw b u e).elim .inl fun z => z.elim .inr False.elim⟩ o fun b z => ?_
 obtain ⟨h1, h2, h3⟩ := hs b z
 exact ⟨h1, h3.elim id False.elim, h2⟩
def eO {x : Str} {st : Stmt} {N ps : List Str} {k n : Nat} {g : De -> Option Out} (D : DefF K mg x st ps) (S : FnScope N ps (ab st)) (hn : ps.length = n)
  (hbody : ∀ (f : Addr) (cdv : Value) (A : Around) (outer : List Env) (s : Shared) (H : Hp) (E : XK), Room k (A.deeper (envOfC x (ab st) s.heap.objs.size f cdv)) -> DS (ig CX0 P w K mg base N x (ab st) f cdv A outer s H E).nox (aE st) g) :
  OkF P w K mg base x (k + 1) ps (spD K n (gt N.length g)) := by
 refine D.ok S (fun vs H Q E h => ?_) (fun f cdv A outer s H vs Q E hr h => ?_)
 · obtain ⟨F, ds, t, _, hl, r, _⟩ := h
   rw [r.length, hl, hn]
 · obtain ⟨F, ds, t, fh, hl, r, hf, kq⟩ := h
   refine ⟨_, hbody f cdv A outer s H E hr, ?_⟩
   unfold gt at hf
   split at hf
   · rename_i t' q
     cases hf
     exact ⟨⟨K, F, H, fun _ => False⟩, _, F, _, rfl, lr fh r, q, fun v F' H' z => z.step kq⟩
   · rename_i δ' q
     cases hf
     exact ⟨⟨K, F, H, fun _ => False⟩, _, F, _, rfl, lr fh r, q, fun σ' F' H' z => (z.rt (Step.refl z.fh) (t := .leaf .non) (S := fun _ => False) (kd (K := K) (F := F')) fun _ y => y.elim).step kq⟩
   · cases hf
end
section
variable {K : PySem.W.Frag} {F H : Hp} {Q : VK}
def KO.int {i : Int} (k : KO K F H (.leaf (.int i)) Q) (fh : Same F H) : Q (.int i) H := k.leaf.here fh dR
def KO.bl {i : Bool} (k : KO K F H (.leaf (.bl i)) Q) (fh : Same F H) : Q (.bl i) H := k.leaf.here fh kc
def KO.str {i : Str} (k : KO K F H (.leaf (.str i)) Q) (fh : Same F H) : Q (.str i) H := k.leaf.here fh iw
def KO.tup {l : List Dt} {vs : List V} {p : Addr} (k : KO K F H (.leaf (.tup l)) Q) (fh : Same F H) (r : Reps K F l vs) (hp : H p = none) : Q (.ref p) (upd H p (.tup vs)) := by
 refine k.leaf _ _ _ (Step.new fh hp) ?_
 simp only [Rep]
 exact ⟨p, vs, rfl, SqT.of az, r.same (Same.upd (fh.free hp))⟩
end
def hW (i j : Int) : Bool := (decide (-(2 ^ 64) < i) && decide (i < 2 ^ 64)) || (decide (-(2 ^ 64) < j) && decide (j < 2 ^ 64))
def sO {i j : Int} (h : hW i j = true) : CMul i j := by
 unfold hW at h
 simp only [Bool.or_eq_true, Bool.and_eq_true, decide_eq_true_eq] at h
 exact h
def sP {i j : Int} (h1 : -1000000000000000000 < i) (h2 : i < 1000000000000000000) : hW i j = true := by
 unfold hW
 simp only [Bool.or_eq_true, Bool.and_eq_true, decide_eq_true_eq]
 left
 omega
def sQ {i j : Int} (h1 : -1000000000000000000 < j) (h2 : j < 1000000000000000000) : hW i j = true := by
 unfold hW
 simp only [Bool.or_eq_true, Bool.and_eq_true, decide_eq_true_eq]
 right
 omega
def lu (i j : Int) : Bool := decide (0 <= j) && decide (j <= 1000000) && decide (i.natAbs < 2 ^ 64)
def sR {i j : Int} (h : lu i j = true) : vp i j := by
 unfold lu at h
 simp only [Bool.and_eq_true, decide_eq_true_eq] at h
 exact ⟨h.1.1, h.1.2, h.2⟩
def lv (j : Int) : Bool := decide (0 < j) && decide (j < 1073741824)
def sS {i j : Int} (h : lv j = true) : vo i j := by
 unfold lv at h
 simp only [Bool.and_eq_true, decide_eq_true_eq] at h
 exact h
noncomputable def bV : Dt -> Dt -> Option T
 | .int i, .int j => some (.leaf (.int (i + j)))
 | .str a, .str b => if a.length + b.length <= sizeLine then some (.leaf (.str (a ++ b))) else none
 | .lst l, .lst m => if l.length + m.length <= sizeLine then some (.lst (l ++ m)) else none
 | .tup l, .tup m => if l.length + m.length <= sizeLine /\ l ≠ [] /\ m ≠ [] then some (.leaf (.tup (l ++ m))) else none
 | _, _ => none
def jL : Dt -> Dt -> Option T
 | .int i, .int j => some (.leaf (.int (i - j)))
 | _, _ => none
def il : Dt -> Dt -> Option T
 | .int i, .int j => if hW i j then some (.leaf (.int (i * j))) else none
 | _, _ => none
def gU : Dt -> Dt -> Option T
 | .int i, .int j => if lv j then some (.leaf (.int (i / j))) else none
 | _, _ => none
def bE : Dt -> Dt -> Option T
 | .int i, .int j => if 0 < j then some (.leaf (.int (i % j))) else none
 | _, _ => none
def pi : Dt -> Dt -> Option T
 | .int i, .int j => if lu i j then some (.leaf (.int (i ^ j.toNat))) else none
 | _, _ => none
def qw (f : Int -> Int -> Int) : Dt -> Dt -> Option T
 | .int i, .int j => some (.leaf (.int (f i j)))
 | _, _ => none
def iU (f : Int -> Int -> Bool) : Dt -> Dt -> Option T
 | .int i, .int j => some (.leaf (.bl (f i j)))
 | _, _ => none
section
variable {X : Cx}
def sT : OpR X (binaryOp .Add) (fun x y H Q => ∃ l b xs zs, x = .ref l /\ y = .ref b /\ SqL X.K H l xs /\ SqL X.K H b zs /\ xs.length + zs.length <= sizeLine /\ ∀ p, H p = none -> Q (.ref p) (upd H p (.lst (xs ++ zs)))) := by
 intro pins s σ H x y v u Q I rx ry h
 obtain ⟨l, b, xs, zs, rfl, rfl, hH, hB, hz, q⟩ := h
 cases rx
 cases ry
 obtain ⟨its, r, pl, _⟩ := I.list hH
 obtain ⟨its2, r2, pl2, _⟩ := I.list hB
 obtain ⟨⟨cls, dd, data, sl⟩, n, ho, hc, hd0, hd⟩ := pl
 obtain ⟨⟨cls2, dd2, data2, sl2⟩, n2, ho2, hc2, hd02, hd2⟩ := pl2
 simp only at hc hd hc2 hd2
 subst hc hd hc2 hd2
 have e : its.toArray ++ its2.toArray = (its ++ its2).toArray := by simp
 refine concat_meets ⟨_, ho, rfl⟩ ⟨_, ho2, rfl⟩ noFill_list_add seq_list_add PySem.F.slot_list_add PySem.F.entry_list_add (PySem.F.args_list_add_2 _ _) (list_addW l b its.toArray its2.toArray n n2 dd dd2 sl sl2 (by rw [List.size_toArray, List.size_toArray, <- r.length, <- r2.length]; exact hz)) ⟨ho, ho2, ?_⟩
 rw [e]
 exact ⟨.ref _, _, I.lnew (t' := s.toks) (r.append r2) (by rw [List.length_append]; exact hz), rfl, q _ I.fresh⟩
noncomputable abbrev nW (K : PySem.W.Frag) : R2 := fun x y H Q => (rI0 (fun i j => .int (i + j)) x y H Q) ∨ (∃ i j, x = .str i /\ y = .str j /\ i.length + j.length <= sizeLine /\ Q (.str (i ++ j)) H) ∨
 (∃ l b xs zs, x = .ref l /\ y = .ref b /\ SqL K H l xs /\ SqL K H b zs /\ xs.length + zs.length <= sizeLine /\ ∀ p, H p = none -> Q (.ref p) (upd H p (.lst (xs ++ zs)))) ∨ uv K x y H Q
def bh : OpR X (binaryOp .Add) (nW X.K) := OpR.or vq (OpR.or mo (OpR.or sT sn))
def b5 {K : PySem.W.Frag} : R2D K (nW K) bV := by
 intro F H x y vx vy Q t fh rx ry hg k
 unfold bV at hg
 split at hg <;> first | (cases hg; done) | skip
 · cases hg; cases rx; cases ry; exact .inl ⟨_, _, rfl, rfl, k.int fh⟩
 · split at hg
   · cases hg; cases rx; cases ry; exact .inr (.inl ⟨_, _, rfl, rfl, by assumption, k.str fh⟩)
   · cases hg
 · split at hg
   · rename_i hl
     cases hg
     obtain ⟨a, vs, rfl, h1, h2⟩ := rx
     obtain ⟨b, ws, rfl, h3, h4⟩ := ry
     exact .inr (.inr (.inl ⟨a, b, vs, ws, rfl, rfl, h1, h3, by rw [h2.length, h4.length]; exact hl, fun p hp => gq k fh (h2.append h4) hp⟩))
   · cases hg
 · split at hg
   · rename_i hl
     cases hg
     obtain ⟨a, vs, rfl, h1, h2⟩ := rx
     obtain ⟨b, ws, rfl, h3, h4⟩ := ry
     obtain ⟨hl, n1, n2⟩ := hl
     refine .inr (.inr (.inr ⟨a, b, vs, ws, rfl, rfl, fh.tup h1, fh.tup h3, fun z => ?_, by rw [h2.length, h4.length]; exact hl, fun z => ?_, fun _ p hp => k.tup fh (h2.append h4) hp⟩))
     · subst z
       have := h2.length
       exact n1 (List.eq_nil_of_length_eq_zero this.symm)
     · subst z
       have := h4.length
       exact absurd (List.eq_nil_of_length_eq_zero this.symm) n2
   · cases hg
def mG {K : PySem.W.Frag} {f : Int -> Int -> Int} : R2D K (rI0 fun i j => .int (f i j)) (qw f) := by
 intro F H x y vx vy Q t fh rx ry hg k
 unfold qw at hg
 split at hg <;> first | (cases hg; done) | skip
 cases hg; cases rx; cases ry; exact ⟨_, _, rfl, rfl, k.int fh⟩
def qx {K : PySem.W.Frag} : R2D K (rI0 fun i j => .int (i - j)) jL := by
 intro F H x y vx vy Q t fh rx ry hg k
 unfold jL at hg
 split at hg <;> first | (cases hg; done) | skip
 cases hg; cases rx; cases ry; exact ⟨_, _, rfl, rfl, k.int fh⟩
def iV {K : PySem.W.Frag} : R2D K (rI CMul fun i j => .int (i * j)) il := by
 intro F H x y vx vy Q t fh rx ry hg k
 unfold il at hg
 split at hg <;> first | (cases hg; done) | skip
 split at hg
 · cases hg; cases rx; cases ry; exact ⟨_, _, rfl, rfl, sO (by assumption), k.int fh⟩
 · cases hg
def fQ {K : PySem.W.Frag} : R2D K (rI vo fun i j => .int (i / j)) gU := by
 intro F H x y vx vy Q t fh rx ry hg k
 unfold gU at hg
 split at hg <;> first | (cases hg; done) | skip
 split at hg
 · cases hg; cases rx; cases ry; exact ⟨_, _, rfl, rfl, sS (by assumption), k.int fh⟩
 · cases hg
def bw {K : PySem.W.Frag} : R2D K (rI (fun _ j => 0 < j) fun i j => .int (i % j)) bE := by
 intro F H x y vx vy Q t fh rx ry hg k
 unfold bE at hg
 split at hg <;> first | (cases hg; done) | skip
 split at hg
 · cases hg; cases rx; cases ry; exact ⟨_, _, rfl, rfl, by assumption, k.int fh⟩
 · cases hg
def uG {K : PySem.W.Frag} : R2D K (rI vp fun i j => .int (i ^ j.toNat)) pi := by
 intro F H x y vx vy Q t fh rx ry hg k
 unfold pi at hg
 split at hg <;> first | (cases hg; done) | skip
 split at hg
 · cases hg; cases rx; cases ry; exact ⟨_, _, rfl, rfl, sR (by assumption), k.int fh⟩
 · cases hg
def iW {K : PySem.W.Frag} {f : Int -> Int -> Bool} : R2D K (rI0 fun i j => .bl (f i j)) (iU f) := by
 intro F H x y vx vy Q t fh rx ry hg k
 unfold iU at hg
 split at hg <;> first | (cases hg; done) | skip
 cases hg; cases rx; cases ry; exact ⟨_, _, rfl, rfl, k.bl fh⟩
noncomputable def eqD : Dt -> Dt -> Option Bool
 | .non, .non => some true
 | .non, .int _ => some false
 | .non, .bl _ => some false
 | .non, .str _ => some false
 | .int _, .non => some false
 | .bl _, .non => some false
 | .str _, .non => some false
 | .int i, .int j => some (decide (i = j))
 | .bl i, .bl j => some (decide (i = j))
 | .str i, .str j => some (decide (i = j))
 | .int _, .str _ => some false
 | .str _, .int _ => some false
 | .bl _, .str _ => some false
 | .str _, .bl _ => some false
 | .tup l, .tup m => if eu l m && decide (cZ l <= 59) then some (dz l m) else none
 | .lst l, .lst m => if eu l m && decide (cZ l <= 59) then some (dz l m) else none
 | _, _ => none
def gEq (neg : Bool) (x y : Dt) : Option T := (eqD x y).map fun b => .leaf (.bl (if neg then !b else b))
abbrev rEqA (K : PySem.W.Frag) : R2 := fun x y H Q => rEq x y H Q ∨ sH K false x y H Q
abbrev rNeA (K : PySem.W.Frag) : R2 := fun x y H Q => rNe x y H Q ∨ sH K true x y H Q
def aU {k : Nat} (hr : Room k X.A) : OpR X (compareOp .Eq) (rEqA X.K) := OpR.or xt (vZ hr rfl)
def mH {k : Nat} (hr : Room k X.A) : OpR X (compareOp .NotEq) (rNeA X.K) := OpR.or xu (v6 hr rfl)
def qy {K : PySem.W.Frag} {F H : Hp} {x y : Dt} {vx vy : V} {b : Bool} (fh : Same F H) (rx : RepB K F H x vx) (ry : RepB K F H y vy) (h : eqD x y = some b) :
  (vA vx vy = true /\ b = decide (vx = vy)) ∨ (((∃ l m, x = .tup l /\ y = .tup m) ∨ ∃ l m, x = .lst l /\ y = .lst m) /\ dk x y = true /\ gl x <= 60 /\ b = peq x y) := by
 unfold eqD at h
 split at h <;> first
  | (cases h; done)
  | (cases h; cases rx; cases ry; left; refine ⟨rfl, ?_⟩; simp; done)
  | skip
 · right
   split at h
   · rename_i q
     simp only [Bool.and_eq_true, decide_eq_true_eq] at q
     cases h
     exact ⟨.inl ⟨_, _, rfl, rfl⟩, by simp only [dk]; exact q.1, by simp only [gl]; omega, by simp only [peq]⟩
   · cases h
 · right
   split at h
   · rename_i q
     simp only [Bool.and_eq_true, decide_eq_true_eq] at q
     cases h
     exact ⟨.inr ⟨_, _, rfl, rfl⟩, by simp only [dk]; exact q.1, by simp only [gl]; omega, by simp only [peq]⟩
   · cases h
def bW {K : PySem.W.Frag} : R2D K (rEqA K) (gEq false) := by
 intro F H x y vx vy Q t fh rx ry hg k
 unfold gEq at hg
 obtain ⟨b, hb, hg⟩ := mS hg
 cases hg
 have kk : Q (.bl b) H := k.bl fh
 rcases qy fh rx ry hb with ⟨h1, rfl⟩ | ⟨h1, h2, h3, rfl⟩
 · exact .inl ⟨h1, kk⟩
 · exact .inr ⟨x, y, h1, rx.rep fh, ry.rep fh, h2, h3, kk⟩
def we {K : PySem.W.Frag} : R2D K (rNeA K) (gEq true) := by
 intro F H x y vx vy Q t fh rx ry hg k
 unfold gEq at hg
 obtain ⟨b, hb, hg⟩ := mS hg
 cases hg
 have kk : Q (.bl (!b)) H := k.bl fh
 rcases qy fh rx ry hb with ⟨h1, rfl⟩ | ⟨h1, h2, h3, rfl⟩
 · exact .inl ⟨h1, kk⟩
 · exact .inr ⟨x, y, h1, rx.rep fh, ry.rep fh, h2, h3, kk⟩
def qz : Dt -> Bool
 | .non => true
 | _ => false
def gIs (neg : Bool) (x y : Dt) : Option T := match y with
 | .non => some (.leaf (.bl (if neg then !qz x else qz x)))
 | _ => none
def qA {K : PySem.W.Frag} {F H : Hp} {x : Dt} {v : V} (r : RepB K F H x v) : qz x = decide (v = .non) := by
 cases x <;> first
  | (cases r; rfl)
  | (obtain ⟨a, vs, rfl, _⟩ := r; rfl)
  | (simp only [RepB, Rep] at r; obtain ⟨a, C, dx, fs, rfl, _⟩ := r; rfl)
def sU {K : PySem.W.Frag} : R2D K (fun x y H Q => y = .non /\ Q (.bl (!decide (x = .non))) H) (gIs true) := by
 intro F H x y vx vy Q t fh rx ry hg k
 cases y <;> first | cases hg; done | skip
 cases hg; cases ry
 refine ⟨rfl, ?_⟩
 rw [<- qA rx]
 exact k.bl fh
def hX : Dt -> Bool
 | .non => true
 | .bl _ => true
 | .int _ => true
 | .str _ => true
 | _ => false
def eqF : Dt -> Dt -> Bool
 | .non, .non => true
 | .bl a, .bl b => a == b
 | .bl a, .int b => (if a then 1 else 0) == b
 | .int a, .bl b => a == (if b then 1 else 0)
 | .int a, .int b => a == b
 | .str a, .str b => a == b
 | _, _ => false
def inS (j i : Str) : Bool := !(Builtin.Str.occurrences j i 0 j.length 1).isEmpty
def inD : Dt -> Dt -> Option Bool
 | .str i, .str j => some (inS j i)
 | x, .lst l => if hX x && l.all hX then some (l.any fun y => eqF y x) else none
 | x, .tup l => if hX x && l.all hX then some (l.any fun y => eqF y x) else none
 | _, _ => none
def lw {K : PySem.W.Frag} {F : Hp} {l : List Dt} {vs : List V} {i : Int} {d : Dt} (r : Reps K F l vs) (h : atI l i = some d) : ∃ v, atI vs i = some v /\ Rep K F d v := by
 unfold atI at h ⊢
 rw [r.length]
 obtain ⟨j, hj, h⟩ := bS h
 obtain ⟨v, e, rv⟩ := r.get h
 exact ⟨v, by rw [hj]; exact e, rv⟩
def gIx : Dt -> Dt -> Option T
 | .lst l, .int i => (atI l i).map .leaf
 | .tup l, .int i => (atI l i).map .leaf
 | .str x, .int i => if x.length <= sizeLine then (atI x.cps.toList i).map fun c => .leaf (.str ⟨#[c]⟩) else none
 | _, _ => none
def r_ix {K : PySem.W.Frag} : R2D K (rIx K) gIx := by
 intro F H x y vx vy Q t fh rx ry hg k
 unfold gIx at hg
 split at hg <;> first | (cases hg; done) | skip
 · obtain ⟨d, hd, hg⟩ := mS hg
   cases hg; cases ry
   obtain ⟨a, vs, rfl, h1, h2⟩ := rx
   obtain ⟨v, e, rv⟩ := lw h2 hd
   exact .inl ⟨a, vs, _, v, rfl, rfl, h1, e, k.leaf.here fh rv⟩
 · obtain ⟨d, hd, hg⟩ := mS hg
   cases hg; cases ry
   obtain ⟨a, vs, rfl, h1, h2⟩ := rx
   obtain ⟨v, e, rv⟩ := lw h2 hd
   exact .inr (.inl ⟨a, vs, _, v, rfl, rfl, fh.tup h1, e, k.leaf.here fh rv⟩)
 · split at hg
   · rename_i hl
     obtain ⟨c, hc, hg⟩ := mS hg
     cases hg; cases rx; cases ry
     exact .inr (.inr ⟨_, _, c, rfl, rfl, hl, hc, k.str fh⟩)
   · cases hg
variable {a b c : Expr} {fa fb fc : De -> Option Dt} {pos : Pos}
def sV (l : List Dt) (lo hi : Option Int) : List Dt := (l.drop (HT.sIx l.length 0 lo)).take (HT.sIx l.length l.length hi - HT.sIx l.length 0 lo)
noncomputable def gSl : Dt -> Option Int -> Option Int -> Option T
 | .str x, lo, hi => if x.length <= sizeLine then some (.leaf (.str (Txt.slice x lo hi))) else none
 | .lst l, lo, hi => some (.lst (sV l lo hi))
 | .tup l, lo, hi => if HT.sIx l.length 0 lo = 0 /\ HT.sIx l.length l.length hi = l.length then none else some (.leaf (.tup (sV l lo hi)))
 | _, _, _ => none
abbrev rSlA (K : PySem.W.Frag) : V -> Option Int -> Option Int -> Hp -> VK -> Prop := fun x lo hi H Q => rSlS x lo hi H Q ∨ rSlL K x lo hi H Q ∨ rSlT K x lo hi H Q
def wg : SlR X (rSlA X.K) := SlR.or vT (SlR.or sr vJ)
def lx {K : PySem.W.Frag} {F : Hp} {l : List Dt} {vs : List V} (r : Reps K F l vs) (lo hi : Option Int) : Reps K F (sV l lo hi) (lc vs lo hi) := by
 unfold sV lc
 rw [r.length]
 exact (r.drop _).take _
def r_sl {K : PySem.W.Frag} {F H : Hp} {x : Dt} {v : V} {lo hi : Option Int} {Q : VK} {t : T} (fh : Same F H) (rx : RepB K F H x v) (hg : gSl x lo hi = some t) (k : KO K F H t Q) : rSlA K v lo hi H Q := by
 unfold gSl at hg
 split at hg <;> first | (cases hg; done) | skip
 · split at hg
   · cases hg; cases rx
     exact .inl ⟨_, rfl, by assumption, k.str fh⟩
   · cases hg
 · obtain ⟨a, vs, rfl, h1, h2⟩ := rx
   cases hg
   exact .inr (.inl ⟨a, vs, rfl, h1, fun p hp => gq k fh (lx h2 _ _) hp⟩)
 · obtain ⟨a, vs, rfl, h1, h2⟩ := rx
   split at hg
   · cases hg
   · rename_i hn
     cases hg
     rw [<- h2.length] at hn
     exact .inr (.inr ⟨a, vs, rfl, fh.tup h1, hn, fun p hp => k.tup fh (lx h2 _ _) hp⟩)
def tOD (K : PySem.W.Frag) (f : De -> Option (Option Int)) : TO := fun σ H Q => ∃ Φ δ F d, Fm.K Φ = K /\ En Φ δ σ F H /\ f δ = some d /\ ∀ H' F', Step F H F' H' -> Q d H'
def nX : De -> Option (Option Int) := fun _ => some none
def asI : Dt -> Option Int
 | .int i => some i
 | _ => none
def cK (f : De -> Option Dt) : De -> Option (Option Int) := fun δ => (f δ).bind fun d => (asI d).map some
def ly {K : PySem.W.Frag} {F H : Hp} {x : Dt} {v : V} {b : Int} (h : asI x = some b) (r : RepB K F H x v) : v = .int b := by
 cases x <;> first | cases h; done | skip
 cases h; exact r
def DP (X : Cx) (e : Option Expr) (f : De -> Option (Option Int)) : Prop := PO X e (tOD X.K f)
def kg : DP X none nX := fun pins s σ H Q I h => sk pins s σ H Q I (by
 obtain ⟨Φ, δ, F, d, hK, en, hf, k⟩ := h
 cases hf
 exact k H F (Step.refl en.fh))
def cU {e : Expr} {f : De -> Option Dt} (h : DB X e f) : DP X (some e) (cK f) := fun pins s σ H Q I q => sm h pins s σ H Q I (by
 obtain ⟨Φ, δ, F, d, hK, en, hf, k⟩ := q
 unfold cK at hf
 obtain ⟨x, hx, hf⟩ := bS hf
 obtain ⟨i, hi, hf⟩ := mS hf
 cases hf
 exact ⟨Φ, δ, F, x, hK, en, hx, fun v H' F' st r => ⟨i, ly hi r, k H' F' st⟩⟩)
def vSl (fa : De -> Option Dt) (fl fh : De -> Option (Option Int)) : De -> Option T := fun δ => (fa δ).bind fun x => (fl δ).bind fun l => (fh δ).bind fun h => gSl x l h
def dL {e : Expr} {lo hi : Option Expr} {p2 : Pos} {f : De -> Option Dt} {fl fh : De -> Option (Option Int)} (he : DB X e f) (hl : DP X lo fl) (hh : DP X hi fh) : DO X (.Subscript e (.Slice lo hi none p2) pos) (vSl f fl fh) :=
 PE.mono (p4 wg he hl hh) fun σ H Q ⟨Φ, δ, F, t, hK, en, hf, k⟩ => by
  unfold vSl at hf
  obtain ⟨x, hx, hf⟩ := bS hf
  obtain ⟨l, hl, hf⟩ := bS hf
  obtain ⟨h, hh, hf⟩ := bS hf
  exact ⟨Φ, δ, F, x, hK, en, hx, fun v H1 F1 s1 r1 => ⟨Φ, δ, F1, l, hK, en.step s1, hl, fun H2 F2 s2 => ⟨Φ, δ, F2, h, hK, en.step (s1.trans s2), hh, fun H3 F3 s3 => r_sl s3.fh (r1.step (s2.ff.trans s3.ff) (s2.hh.trans s3.hh)) hf (k.step ((s1.trans s2).trans s3))⟩⟩⟩
def im (f : De -> Option Dt) : De -> Option T := fun δ => (f δ).bind fun d => (asI d).map fun i => .leaf (.int (-i))
def mI (h : DB X a fa) : DO X (.UnaryOp .USub a pos) (im fa) := PE.mono (xq vz h) fun σ H Q ⟨Φ, δ, F, t, hK, en, hf, k⟩ => by
 unfold im at hf
 obtain ⟨x, hx, hf⟩ := bS hf
 obtain ⟨i, hi, hf⟩ := mS hf
 cases hf
 exact ⟨Φ, δ, F, x, hK, en, hx, fun v H' F' st r => ⟨i, ly hi r, (k.step st).int st.fh⟩⟩
def dA : List Dt -> Option T
 | [.str x] => if x.length <= sizeLine then some (.leaf (.int x.length)) else none
 | [.tup l] => some (.leaf (.int l.length))
 | [.lst l] => some (.leaf (.int l.length))
 | _ => none
def eQ {K : PySem.W.Frag} {F H : Hp} {d : Dt} {vs : List V} (r : RepBs K F H [d] vs) : ∃ v, vs = [v] /\ RepB K F H d v := by
 obtain ⟨v, ws, rfl, h1, h2⟩ := r
 cases h2
 exact ⟨v, rfl, h1⟩
def d7 {K : PySem.W.Frag} : CRD K (fun xs H Q => ∃ x n, xs = [x] /\ LenV K x H n /\ Q (.int n) H) dA := by
 intro F H ds vs Q t fh r hg k
 unfold dA at hg
 split at hg <;> first | (cases hg; done) | skip
 · split at hg
   · rename_i hl
     cases hg
     obtain ⟨v, rfl, rv⟩ := eQ r
     cases rv
     exact ⟨_, _, rfl, ⟨hl, rfl⟩, k.int fh⟩
   · cases hg
 · cases hg
   obtain ⟨v, rfl, rv⟩ := eQ r
   obtain ⟨a, vs, rfl, h1, h2⟩ := rv
   rw [<- h2.length] at k
   exact ⟨_, _, rfl, .inr ⟨vs, fh.tup h1, rfl⟩, k.int fh⟩
 · cases hg
   obtain ⟨v, rfl, rv⟩ := eQ r
   obtain ⟨a, vs, rfl, h1, h2⟩ := rv
   rw [<- h2.length] at k
   exact ⟨_, _, rfl, .inl ⟨vs, h1, rfl⟩, k.int fh⟩
def de : List Dt -> Option T
 | [.lst l] => some (.leaf (.tup l))
 | [.tup l] => some (.leaf (.tup l))
 | _ => none
def kh {K : PySem.W.Frag} : CRD K (fun xs H Q => ∃ p ys, xs = [.ref p] /\ ((SqL K H p ys /\ ∀ l, H l = none -> Q (.ref l) (upd H l (.tup ys))) ∨ (SqT K H p ys /\ Q (.ref p) H))) de := by
 intro F H ds vs Q t fh r hg k
 unfold de at hg
 split at hg <;> first | (cases hg; done) | skip
 · cases hg
   obtain ⟨v, rfl, rv⟩ := eQ r
   obtain ⟨a, vs, rfl, h1, h2⟩ := rv
   exact ⟨a, vs, rfl, .inl ⟨h1, fun p hp => k.tup fh h2 hp⟩⟩
 · cases hg
   obtain ⟨v, rfl, rv⟩ := eQ r
   rename_i l
   have rv' : Rep K F (.tup l) v := by simp only [Rep]; exact rv
   obtain ⟨a, vs, rfl, h1, h2⟩ := rv
   exact ⟨a, vs, rfl, .inr ⟨fh.tup h1, k.leaf.here fh rv'⟩⟩
def df : List Dt -> Option T
 | [.lst l] => some (.lst l)
 | [.tup l] => some (.lst l)
 | _ => none
def iX {K : PySem.W.Frag} : CRD K (fun xs H Q => ∃ p ys, xs = [.ref p] /\ (SqL K H p ys ∨ SqT K H p ys) /\ ∀ l, H l = none -> Q (.ref l) (upd H l (.lst ys))) df := by
 intro F H ds vs Q t fh r hg k
 unfold df at hg
 split at hg <;> first | (cases hg; done) | skip
 · cases hg
   obtain ⟨v, rfl, rv⟩ := eQ r
   obtain ⟨a, vs, rfl, h1, h2⟩ := rv
   exact ⟨a, vs, rfl, .inl h1, fun p hp => gq k fh h2 hp⟩
 · cases hg
   obtain ⟨v, rfl, rv⟩ := eQ r
   obtain ⟨a, vs, rfl, h1, h2⟩ := rv
   exact ⟨a, vs, rfl, .inr (fh.tup h1), fun p hp => gq k fh h2 hp⟩
end
section
variable {X : Cx} {o a b e c : Expr} {es : List Expr} {fa fb fo fe : De -> Option Dt} {fs : De -> Option (List Dt)} {pos apos cpos p : Pos} {x : Str} {sc : Scope} {i : Nat}
def qB (K : PySem.W.Frag) (mg : Str -> Option Value) (x : Str) (d : Dt) : Prop := ∃ v, (∃ u, mg x = some u /\ RelV v u) /\ ∀ F, Rep K F d v
def sW {d : Dt} (h : aT sc x = true) (hm : qB X.K X.mg x d) (e1 : ck X sc := by rfl) : DL X (.Name x pos) (kD d) := by
 obtain ⟨v, h1, h2⟩ := hm
 exact qp (ql h h1 e1) h2
def qC {K : PySem.W.Frag} {mg : Str -> Option Value} {i : Int} (h : ∃ u, mg x = some u /\ RelV (.int i) u) : qB K mg x (.int i) := ⟨_, h, fun _ => dR⟩
def lz : Dt -> Bool
 | .ins _ _ _ => true
 | _ => false
def tyD : Dt -> String
 | .ins _ _ _ => "object"
 | .non => "NoneType"
 | .bl _ => "bool"
 | .int _ => "int"
 | .str _ => "str"
 | .tup _ => "tuple"
 | .lst _ => "list"
 | .dct _ _ => "dict"
 | .dcT _ _ => "dict"
noncomputable def uH (c : String) : Dt -> Bool
 | .ins _ _ _ => false
 | .non => c == "NoneType"
 | .bl _ => c == "bool" || c == "int"
 | .int _ => c == "int"
 | .str _ => c == "str"
 | .tup _ => c == "tuple"
 | .lst _ => c == "list"
 | .dct _ _ => c == "dict"
 | .dcT _ _ => c == "dict"
def mJ {pins : List (Addr × Obj)} {σ : St} {H : Hp} {s : Shared} {A : Around} {E : Value -> Shared -> Prop} {Q : Value -> Shared -> Prop} {c : Value} {b : Bool} {v : V} {u : Value} {d : Dt} (I : Inv X pins σ H s) (rx : RelV v u) (r : Rep X.K H d v) (hi : lz d = false) (e : PySem.W.kitOne X.K (.type (tyD d)) c = some b) (h : ∀ tk, Q (.bool b) { s with toks := tk }) :
  wpAny (model X.prog X.w) A (call (.builtin "isinstance") [u, c]) Q E s := by
 cases d with
 | non => simp only [Rep] at r; subst r; exact fF I rx .non e h
 | bl y => simp only [Rep] at r; subst r; exact fF I rx (.bl y) e h
 | int y => simp only [Rep] at r; subst r; exact fF I rx (.int y) e h
 | str y => simp only [Rep] at r; subst r; exact fF I rx (.str y) e h
 | tup l =>
  simp only [Rep] at r
  obtain ⟨a, vs, rfl, h1, h2⟩ := r
  cases rx
  obtain ⟨its, _, pl, _⟩ := I.tuple h1
  obtain ⟨o, e1, e2, _⟩ := pl
  exact PySem.W.kia_one PySem.W.kitx_tuple I.kIn ⟨o, e1, e2⟩ e (fun z => nomatch z) h
 | lst l =>
  simp only [Rep] at r
  obtain ⟨a, vs, rfl, h1, h2⟩ := r
  cases rx
  obtain ⟨its, _, pl, _⟩ := I.list h1
  obtain ⟨o, n, e1, e2, _⟩ := pl
  exact PySem.W.kia_one PySem.W.kitx_list I.kIn ⟨o, e1, e2⟩ e (fun z => nomatch z) h
 | dct ks l =>
  simp only [Rep] at r
  obtain ⟨a, kvs, rfl, h1, _⟩ := r
  cases rx
  obtain ⟨_, _, vs, _, p⟩ := jA I.hok h1
  obtain ⟨o, es, ep, e1, e2, _⟩ := p
  exact PySem.W.kia_one PySem.W.kitx_dict I.kIn ⟨o, e1, e2.1⟩ e (fun z => nomatch z) h
 | dcT ks l =>
  simp only [Rep] at r
  obtain ⟨a, kvs, rfl, h1, _⟩ := r
  cases rx
  obtain ⟨_, _, xs, _, o, es, ep, e1, e2, _⟩ := (show ObjOk X.prog X.w H s.heap a (.dT kvs) from h1.ok I.hok)
  exact PySem.W.kia_one PySem.W.kitx_dict I.kIn ⟨o, e1, e2.1⟩ e (fun z => nomatch z) h
 | ins c ns l => cases hi
def iY (K : PySem.W.Frag) (c : String) : Prop := ∀ d : Dt, lz d = false -> PySem.W.kitOne K (.type (tyD d)) (.type c) = some (uH c d)
def mK : cX X (.builtin "isinstance") (fun xs H Q => ∃ v c d b, xs = [v, .ty c] /\ Rep X.K H d v /\ lz d = false /\ PySem.W.kitOne X.K (.type (tyD d)) (.type c) = some b /\ Q (.bl b) H) := by
 intro pins s σ H xs us Q I r h
 obtain ⟨v, c, d, b, rfl, rd, hi, e, q⟩ := h
 obtain ⟨u, w', rfl, ru, rw'⟩ := pR r
 cases rw'
 exact mJ I ru rd hi e fun tk => ⟨.bl b, H, I.tok _, rfl, q⟩
def cQ (c : String) (f : De -> Option Dt) : De -> Option T := fun δ => (f δ).bind fun d => if lz d then none else some (.leaf (.bl (uH c d)))
def dM {cn : Str} {cs : String} {p1 p2 : Pos} (h : aT sc "isinstance" = true) (hcn : aT sc cn = true) (hm : X.mg "isinstance" = none) (hmc : X.mg cn = none) (hv : bootBuiltins cn = some (.type cs)) (hk : iY X.K cs) (ha : DB X a fa) (e1 : ck X sc := by rfl)
  (he : starEach [a, .Name cn p2] X.env = (false, eval a X.env) :: starEach [.Name cn p2] X.env := by rfl) (he2 : starEach [.Name cn p2] X.env = (false, eval (.Name cn p2) X.env) :: starEach [] X.env := by rfl) (hpl : (backTo pos (starEach [.Name cn p2] X.env)).any (·.1) = false := by rfl) :
  DO X (.Call (.Name "isinstance" p1) [a, .Name cn p2] [] pos) (cQ cs fa) :=
 PE.mono (gO h mK hm jn (dm ha (dm (qm (v := .ty cs) hcn hmc hv rfl e1) fV he2) he) e1 he hpl) fun σ H Q ⟨Φ, δ, F, t, hK, en, hf, k⟩ => by
  unfold cQ at hf
  obtain ⟨d, hd, hf⟩ := bS hf
  cases hi : lz d with
  | true => rw [hi] at hf; cases hf
  | false =>
   rw [hi] at hf
   cases hf
   exact ⟨Φ, δ, F, d, hK, en, hd, fun v H' F' st r => ⟨v, cs, d, _, rfl, r.rep st.fh, hi, hk d hi, (k.step st).bl st.fh⟩⟩
def MRD (K : PySem.W.Frag) (r : V -> List V -> Hp -> VK -> Prop) (g : Dt -> List Dt -> Option T) : Prop := ∀ F H d v ds vs (Q : VK) t, Same F H -> RepB K F H d v -> RepBs K F H ds vs -> g d ds = some t -> KO K F H t Q -> r v vs H Q
def nY (g : Dt -> List Dt -> Option T) (fo : De -> Option Dt) (fs : De -> Option (List Dt)) : De -> Option T := fun δ => (fo δ).bind fun d => (fs δ).bind fun ds => g d ds
def wj {name : Str} {id : String} {r : V -> List V -> Hp -> VK -> Prop} {g : Dt -> List Dt -> Option T} (slot : Slot "str" name id) (hty : typeOf (.builtin id) = pure (.type "method_descriptor")) (hm : MtR X id r) (hr : MRD X.K r g) (hg : ∀ d ds t, g d ds = some t -> ∃ z, d = .str z)
  (ho : DB X o fo) (ha : DAB X (e :: es) fs)
  (hbase : attributeBase o name X.env (eval o X.env) = eval o X.env := by rfl)
  (hfew : ((backTo cpos (starEach (e :: es) X.env)).all (fun x => !x.1) && (backToKw cpos (keywordEach [] X.env)).all (fun x => x.1.isSome)
   && decide ((e :: es).length + ([] : List Keyword).length + (if ([] : List Keyword).isEmpty then 0 else 1) < 30)) = true := by rfl)
  (hline : (apos.endLine == cpos.line) = true := by rfl) (hs : starEach (e :: es) X.env = (false, eval e X.env) :: starEach es X.env := by rfl) (hplain : (backTo cpos (starEach es X.env)).any (·.1) = false := by rfl) :
  DO X (.Call (.Attribute o name apos) (e :: es) [] cpos) (nY g fo fs) := PE.mono (p8 PySem.F.plainAttrs_str slot hty hm ho ha.pa hbase hfew hline hs hplain) fun σ H Q ⟨Φ, δ, F, t, hK, en, hf, k⟩ => by
 unfold nY at hf
 obtain ⟨d, hd, hf⟩ := bS hf
 obtain ⟨ds, hds, hf⟩ := bS hf
 refine ⟨Φ, δ, F, d, hK, en, hd, fun v H1 F1 st rv => ⟨?_, Φ, δ, F1, ds, hK, en.step st, hds, fun vs H2 F2 st2 rvs => hr F2 H2 d v ds vs Q t st2.fh (rv.step st2.ff st2.hh) rvs hf (k.step (st.trans st2))⟩⟩
 obtain ⟨z, rfl⟩ := hg d ds t hf
 cases rv
 rfl
def fY : List Dt -> Option (List Str)
 | [] => some []
 | .str b :: r => (fY r).map (b :: ·)
 | _ => none
def jM {K : PySem.W.Frag} {F : Hp} : ∀ {l : List Dt} {vs : List V} {bs : List Str}, Reps K F l vs -> fY l = some bs -> vs = bs.map V.str
 | [], vs, bs, r, h => by cases h; simp only [Reps] at r; exact r
 | d :: l, vs, bs, r, h => by
  cases d <;> first | cases h; done | skip
  simp only [fY] at h
  obtain ⟨cs, hc, h⟩ := mS h
  cases h
  simp only [Reps, Rep] at r
  obtain ⟨v, ws, rfl, rfl, r2⟩ := r
  rw [jM r2 hc]
  rfl
def fZ : Dt -> List Dt -> Option T
 | .str a, [.lst l] => (fY l).bind fun ts => if JoinOk a ts then some (.leaf (.str (Txt.join a ts))) else none
 | _, _ => none
def sX {K : PySem.W.Frag} : MRD K (fun x vs H Q => ∃ (a : Str) (l : Addr) (ts : List Str), x = .str a /\ vs = [.ref l] /\ SqL K H l (ts.map V.str) /\ JoinOk a ts = true /\ Q (.str (Txt.join a ts)) H) fZ := by
 intro F H d v ds vs Q t fh rd rs hg k
 unfold fZ at hg
 split at hg <;> first | cases hg; done | skip
 obtain ⟨ts, ht, hg⟩ := bS hg
 split at hg
 · rename_i hj
   cases hg
   cases rd
   obtain ⟨v, rfl, rv⟩ := eQ rs
   obtain ⟨a, vs, rfl, h1, h2⟩ := rv
   have := jM h2 ht
   subst this
   exact ⟨_, a, ts, rfl, rfl, h1, hj, k.str fh⟩
 · cases hg
def mL : ∀ d ds t, fZ d ds = some t -> ∃ z, d = .str z := fun d ds t h => by
 unfold fZ at h
 split at h
 · exact ⟨_, rfl⟩
 · cases h
def sY (ho : DB X o fo) (ha : DAB X (e :: es) fs)
  (hbase : attributeBase o "join" X.env (eval o X.env) = eval o X.env := by rfl)
  (hfew : ((backTo cpos (starEach (e :: es) X.env)).all (fun x => !x.1) && (backToKw cpos (keywordEach [] X.env)).all (fun x => x.1.isSome)
   && decide ((e :: es).length + ([] : List Keyword).length + (if ([] : List Keyword).isEmpty then 0 else 1) < 30)) = true := by rfl)
  (hline : (apos.endLine == cpos.line) = true := by rfl) (hs : starEach (e :: es) X.env = (false, eval e X.env) :: starEach es X.env := by rfl) (hplain : (backTo cpos (starEach es X.env)).any (·.1) = false := by rfl) :
  DO X (.Call (.Attribute o "join" apos) (e :: es) [] cpos) (nY fZ fo fs) := wj PySem.F.slot_str_join PySem.F.type_str_join sF sX mL ho ha hbase hfew hline hs hplain
def y61 (i : Nat) (f : De -> Option Dt) : De -> Option Out := fun δ => match δ[i]? with
 | some (some (.lst l)) => (f δ).bind fun d => if l.length < sizeLine then some (.nx (δ.set i (some (.lst (l ++ [d]))))) else none
 | _ => none
def En.ownL {Φ : Fm} {δ : De} {σ : St} {F H : Hp} (en : En Φ δ σ F H) {l : List Dt} (h : δ[i]? = some (some (.lst l))) : ∃ a vs, σ[i]? = some (some (.ref a)) /\ H a = some (.lst vs) /\ Reps Φ.K F l vs := by
 obtain ⟨v, hv⟩ := en.has i _ h
 obtain ⟨S, s⟩ := en.sep
 obtain ⟨a, vs, rfl, _, h1, h2⟩ := s.own i _ v (db h hv)
 exact ⟨a, vs, hv, h1, h2⟩
def pj (hx : PE X o (oO i)) (he : DL X e fe)
  (hbase : attributeBase o "append" X.env (eval o X.env) = eval o X.env := by rfl)
  (hfew : ((backTo cpos (starEach [e] X.env)).all (fun x => !x.1) && (backToKw cpos (keywordEach [] X.env)).all (fun x => x.1.isSome)
   && decide ([e].length + ([] : List Keyword).length + (if ([] : List Keyword).isEmpty then 0 else 1) < 30)) = true := by rfl)
  (hline : (apos.endLine == cpos.line) = true := by rfl) (hs : starEach [e] X.env = (false, eval e X.env) :: starEach [] X.env := by rfl) (hplain : (backTo cpos (starEach [] X.env)).any (·.1) = false := by rfl)
  (hsw : swapsWith (.Call (.Attribute o "append" apos) [e] [] cpos) none pos.line X.env = pure false := by rfl) :
  DS1 X (.Expr (.Call (.Attribute o "append" apos) [e] [] cpos) pos) (y61 i fe) :=
 PS.mono (iq (p8 PySem.F.plainAttrs_list PySem.F.slot_list_append PySem.F.type_list_append fG hx (dm he fV hs) hbase hfew hline hs hplain) hsw) fun D σ H ⟨Φ, δ, F, ot, hK, en, hg, k⟩ => by
  unfold y61 at hg
  split at hg <;> first | cases hg; done | skip
  rename_i l hl
  obtain ⟨d, hd, hg⟩ := bS hg
  split at hg <;> first | cases hg; done | skip
  rename_i hz
  cases hg
  obtain ⟨a, vs, hv, h1, h2⟩ := en.ownL hl
  refine ⟨.ref a, hv, .inl ⟨rfl, vs, .inl (.inl h1)⟩, Φ, δ, F, d, hK, en, hd, fun v H1 F1 st rv => ?_⟩
  have en1 := en.step st
  have h1' := st.hh _ _ h1
  refine ⟨a, vs, v, rfl, rfl, h1', by rw [h2.length]; exact hz, ?_⟩
  refine k σ F1 _ (en1.poke hl hv (fun d z => nomatch z) fun S sa => ⟨a, vs ++ [v], rfl, sa, az, (h2.same st.ff).append (Reps.one (hK ▸ rv))⟩)
end
def nZ {κ : Type} [DecidableEq κ] : List κ -> List Dt -> κ -> Option Dt
 | k' :: ks, d :: l, k => if k' = k then some d else nZ ks l k
 | _, _, _ => none
def jN {κ : Type} [DecidableEq κ] {K : PySem.W.Frag} {F : Hp} {k : κ} : ∀ {kvs : List (κ × V)} {l : List Dt} {d : Dt}, Reps K F l (kvs.map (·.2)) -> nZ (kvs.map (·.1)) l k = some d -> ∃ v, dE kvs k = some v /\ Rep K F d v
 | [], l, d, r, h => by cases l <;> cases h
 | p :: kvs, [], d, r, h => by cases h
 | p :: kvs, e :: l, d, r, h => by
  simp only [List.map_cons, Reps] at r
  obtain ⟨v, ws, hv, r1, r2⟩ := r
  cases hv
  simp only [List.map_cons, nZ] at h
  by_cases hk : p.1 = k
  · rw [if_pos hk] at h
    cases h
    exact ⟨p.2, d9 hk, r1⟩
  · rw [if_neg hk] at h
    rw [ef hk]
    exact jN r2 h
def dU : Dt -> Option Key
 | .int i => some (.inl i)
 | .str x => some (.inr x)
 | _ => none
def sZ {K : PySem.W.Frag} {F H : Hp} {d : Dt} {v : V} {k : Key} (r : RepB K F H d v) (h : dU d = some k) : v = kV k := by
 unfold dU at h
 split at h <;> first | (cases h; done) | skip
 · cases h; exact r
 · cases h; exact r
def au : Dt -> Dt -> Option T
 | .dct ks l, k => (dU k).bind fun k => (nZ ks l k).map .leaf
 | x, y => gIx x y
section
variable {X : Cx} {o a b e c : Expr} {es : List Expr} {fa fb fo fe fk : De -> Option Dt} {fs : De -> Option (List Dt)} {pos apos cpos p : Pos} {x : Str} {sc : Scope} {i : Nat}
def ak {k : Nat} (hr : Room k X.A) (ha : DB X a fa) (hb : DB X b fb) (hs : j2 b := by exact fun _ _ => rfl) (hn : sw b := by exact fun _ _ => rfl) : DO X (.Subscript a b pos) (d2 au fa fb) :=
 PE.mono (PE.or (uw p5 ha hb hs) (nz (nB hr) ha hb hn)) fun σ H Q ⟨Φ, δ, F, t, hK, en, hf, k⟩ => by
  unfold d2 at hf
  obtain ⟨x, hx, hf⟩ := bS hf
  obtain ⟨y, hy, hf⟩ := bS hf
  unfold au at hf
  split at hf
  · rename_i ks l _
    obtain ⟨kk, hk, hf⟩ := bS hf
    obtain ⟨d, hd, hf⟩ := mS hf
    cases hf
    refine .inr ⟨Φ, δ, F, _, hK, en, hx, fun v H1 F1 st rv => ⟨Φ, δ, F1, y, hK, en.step st, hy, fun v2 H2 F2 st2 rv2 => ?_⟩⟩
    obtain ⟨ad, kvs, rfl, h1, h2, h3⟩ := rv
    subst h2
    obtain ⟨w, hw, rw'⟩ := jN h3 hd
    have := sZ rv2 hk
    subst this
    exact ⟨ad, w, rfl, .inl ⟨kvs, kk, st2.hh.rd h1, rfl, hw.symm⟩, (k.step (st.trans st2)).leaf.here st2.fh (rw'.same st2.ff)⟩
  · exact .inl (nQ r_ix ⟨Φ, δ, F, t, hK, en, by unfold d2; rw [hx, hy]; exact hf, k⟩)
def dg : De -> Option T := fun _ => some (.dct [])
def ix : DO X (.Dict [] [] pos) dg := PE.mono qc fun σ H Q ⟨Φ, δ, F, t, hK, en, hf, k⟩ => by
 cases hf
 intro p hp
 refine k _ _ F (fun b => b = p) (Step.made en.fh hp) ⟨p, [], rfl, rfl, az, rfl, by simp [Reps]⟩ fun b z => ?_
 subst z
 exact ⟨en.fh.free hp, hp, _, az⟩
def PS.or {X : Cx} {e : Stmt} {t t' : TS} (h : PS X e t) (h' : PS X e t') : PS X e (fun σ H Q => t σ H Q ∨ t' σ H Q) := fun pins s σ H Q I q => q.elim (h pins s σ H Q I) (h' pins s σ H Q I)
end
section
variable {prog : Program} {w : World} {A : Around} {E : Value -> Shared -> Prop} {s : Shared} {I t : Addr} {j : Nat} {vs : Array Value}
def mM {y : Value} {Q : Value -> Shared -> Prop} (hI : s.heap.IsTupleIter I t j) (hv : s.heap.IsTuple t vs) (hy : vs[j]? = some y)
  (q : ∀ h', h'.IsTupleIter I t (j + 1) -> Heap.SameBut I s.heap h' -> Q y { s with heap := h' }) : wpAny (model prog w) A (Builtin.SmallTypes.nextOf (.ref I)) Q E s := by
 obtain ⟨oi, hoi, hci, hdi⟩ := id hI
 obtain ⟨ot, hot, _, nt, hdt⟩ := hv
 unfold Builtin.SmallTypes.nextOf
 refine wB (wpAny_callSpecial?_slot (name := Str.ofString "__next__") hI.typeIs F.slot_tuple_iterator_next (wpAny_call_entry F.slot_tuple_iterator_next hI.typeIs F.entry_tuple_iterator_next ?_ (F.args_tuple_iterator_next_1 _)))
 show wpAny _ _ (field (.ref I) 0 >>= _) _ _ s
 refine wB (wpAny_field hoi hdi (x := .ref t) rfl ?_)
 show wpAny _ _ (if (Value.ref t == Value.none) = true then _ else _) _ _ s
 rw [if_neg (show ¬ (Value.ref t == Value.none) = true by exact Bool.false_ne_true)]
 show wpAny _ _ (field (.ref I) 1 >>= _) _ _ s
 refine wB (wpAny_field hoi hdi (x := .int j 0) rfl ?_)
 show wpAny _ _ (seqItems? (.ref t) >>= _) _ _ s
 refine wB (wpAny_seqItems hot hdt ?_)
 simp only [Int.toNat_natCast, hy]
 refine wpAny_bind (wpAny_setField hoi hdi (by simp) (wpAny_pure ⟨y, rfl, wpAny_pure (q _ ?_ (Heap.SameBut.update ..))⟩))
 exact ⟨_, Heap.get?_update_self _ hoi (Obj.isFreed_of_fields (Obj.data_mapFields hdi _)), (Obj.cls_mapFields ..).trans hci, by rw [Obj.data_mapFields hdi]; simp [rawInt]⟩
def pk {Q : Value -> Shared -> Prop} (hh : A.handled = none) (hI : s.heap.IsTupleIter I t j) (hv : s.heap.IsTuple t vs) (hy : vs[j]? = none)
  (q : ∀ h' e, Heap.ExtBut I s.heap h' -> (∃ o, h'.get? e = some o /\ o.cls = .type "StopIteration") -> E (.ref e) { s with heap := h' }) : wpAny (model prog w) A (Builtin.SmallTypes.nextOf (.ref I)) Q E s := by
 obtain ⟨oi, hoi, hci, hdi⟩ := id hI
 obtain ⟨ot, hot, _, nt, hdt⟩ := hv
 unfold Builtin.SmallTypes.nextOf
 refine wB (wpAny_callSpecial?_slot (name := Str.ofString "__next__") hI.typeIs F.slot_tuple_iterator_next (wpAny_call_entry F.slot_tuple_iterator_next hI.typeIs F.entry_tuple_iterator_next ?_ (F.args_tuple_iterator_next_1 _)))
 show wpAny _ _ (field (.ref I) 0 >>= _) _ _ s
 refine wB (wpAny_field hoi hdi (x := .ref t) rfl ?_)
 show wpAny _ _ (if (Value.ref t == Value.none) = true then _ else _) _ _ s
 rw [if_neg (show ¬ (Value.ref t == Value.none) = true by exact Bool.false_ne_true)]
 show wpAny _ _ (field (.ref I) 1 >>= _) _ _ s
 refine wB (wpAny_field hoi hdi (x := .int j 0) rfl ?_)
 show wpAny _ _ (seqItems? (.ref t) >>= _) _ _ s
 refine wB (wpAny_seqItems hot hdt ?_)
 simp only [Int.toNat_natCast, hy]
 refine wpAny_bind (wpAny_rule (wpAny_bind (wpAny_setField hoi hdi (by simp) ?_)))
 show wpAny _ _ (newExc (.type "StopIteration") [] >>= _) _ _ _
 refine wB ?_
 simp only [newExc, newTuple]
 refine wB (wpAny_newObj_type ?_ (by first | size_fits | decide))
 refine wpAny_bind (m := firstArgMember _ _) (wpAny_of_eq (a := Value.none) (by first | rfl | (simp only [firstArgMember] <;> rfl)) ?_)
 refine wpAny_newObj_type ?_ (by first | size_fits | decide)
 simp only [raiseNew]
 refine wB (wpAny_handled ?_)
 first | rw [hh] | rw [show A.in1.handled = none by exact hh]
 refine wB (wpAny_pure (wpAny_throw ?_))
 exact q _ _ (((Heap.SameBut.update ..).extBut.push _).push _) ⟨_, Heap.get?_push_size _ rfl, rfl⟩
end
def lA {prog : Program} {w : World} {A : Around} (hh : A.handled = none) (I t : Addr) (hne : t ≠ I) (vs : Array Value) : Draws prog w A I [I, t] vs.size (fun i v => vs[i]? = some v) (fun i h => h.IsTupleIter I t i /\ h.IsTuple t vs) where
 live := fun _ _ st => let ⟨o, ho, _⟩ := st.1; ⟨o, ho⟩
 frame := fun _ _ _ st hk => ⟨let ⟨o, ho, r⟩ := st.1; ⟨o, hk I (by simp) o ho, r⟩, let ⟨o, ho, r⟩ := st.2; ⟨o, hk t (by simp) o ho, r⟩⟩
 item := fun i s Q E hi st hQ => mM st.1 st.2 (y := vs[i]) (by simp [hi]) fun h' a b => hQ _ h' s.toks (by simp [hi]) ⟨a, let ⟨o, ho, r⟩ := st.2; ⟨o, b.extBut _ _ hne ho, r⟩⟩ b
 done := fun s Q E st hE => pk hh st.1 st.2 (by simp) hE
def SqB (b : Bool) (K : PySem.W.Frag) (H : Hp) (a : Addr) (xs : List V) : Prop := match b with
 | true => SqL K H a xs
 | false => SqT K H a xs
def ItB (b : Bool) (h : Heap) (I a : Addr) (i : Nat) : Prop := match b with
 | true => h.IsListIter I a i
 | false => h.IsTupleIter I a i
def CoB (b : Bool) (h : Heap) (a : Addr) (vs : Array Value) : Prop := match b with
 | true => h.IsList a vs
 | false => h.IsTuple a vs
def ItB.obj {b : Bool} {h : Heap} {I a : Addr} {i : Nat} (x : ItB b h I a i) : ∃ o, h.get? I = some o /\ (o.cls = .type "list_iterator" ∨ o.cls = .type "tuple_iterator") /\ ∀ v, o.data ≠ .cell v := by
 cases b with
 | true => obtain ⟨o, e, c, d⟩ := x; exact ⟨o, e, .inl c, fun v z => by rw [d] at z; cases z⟩
 | false => obtain ⟨o, e, c, d⟩ := x; exact ⟨o, e, .inr c, fun v z => by rw [d] at z; cases z⟩
def ItB.at {b : Bool} {h h' : Heap} {I a : Addr} {i : Nat} (x : ItB b h I a i) (k : ∀ o, h.get? I = some o -> h'.get? I = some o) : ItB b h' I a i := by
 cases b with
 | true => obtain ⟨o, e, r⟩ := x; exact ⟨o, k o e, r⟩
 | false => obtain ⟨o, e, r⟩ := x; exact ⟨o, k o e, r⟩
def CoB.obj {b : Bool} {h : Heap} {a : Addr} {vs : Array Value} (x : CoB b h a vs) : ∃ o, h.get? a = some o /\ (o.cls = .type "list" ∨ o.cls = .type "tuple") := by
 cases b with
 | true => obtain ⟨o, e, c, _⟩ := x; exact ⟨o, e, .inl c⟩
 | false => obtain ⟨o, e, c, _⟩ := x; exact ⟨o, e, .inr c⟩
def uI {x y : String} (h : x ≠ y) : Value.type x ≠ Value.type y := fun z => h (by cases z; rfl)
def qD {b c : Bool} {h : Heap} {I a l : Addr} {i : Nat} {vs : Array Value} (x : ItB b h I a i) (y : CoB c h l vs) : l ≠ I := by
 obtain ⟨o, e1, c1, _⟩ := x.obj
 obtain ⟨o', e2, c2⟩ := y.obj
 rintro rfl
 rw [e1] at e2
 cases e2
 rcases c1 with c1 | c1 <;> rcases c2 with c2 | c2 <;> rw [c1] at c2 <;> exact absurd c2 (uI (by decide))
section
variable {X : Cx} {pins : List (Addr × Obj)} {σ : St} {H : Hp} {s : Shared} {a I : Addr} {xs : List V} {b : Bool}
def Inv.seqB (J : Inv X pins σ H s) (h : SqB b X.K H a xs) : ∃ its : List Value, Vals xs its /\ CoB b s.heap a its.toArray := by
 cases b with
 | true => obtain ⟨its, r, p, _⟩ := J.list h; exact ⟨its, r, p.isList⟩
 | false => obtain ⟨its, r, p, _⟩ := J.tuple h; exact ⟨its, r, p⟩
def Inv.seqB_inj {ys : List V} (J : Inv X pins σ H s) (h : SqB b X.K H a xs) (h' : SqB b X.K H a ys) : xs = ys := by
 cases b with
 | true => exact J.list_inj h h'
 | false => exact J.tuple_inj h h'
def qE {prog : Program} {w : World} {A : Around} (hh : A.handled = none) (hne : a ≠ I) (vs : Array Value) : Draws prog w A I [I, a] vs.size (fun i v => vs[i]? = some v) (fun i h => ItB b h I a i /\ CoB b h a vs) := by
 cases b with
 | true => exact Draws.list hh I a hne vs
 | false => exact lA hh I a hne vs
def Inv.turnedL {h' : Heap} {t' : Nat} {fp : List Addr} (J : Inv X pins σ H s) (k : ∀ b o, b ∉ fp -> s.heap.get? b = some o -> h'.get? b = some o) (hf : ∀ b ∈ fp, fS X pins H b) : Inv X pins σ H { s with heap := h', toks := t' } := by
 have nit : ∀ b u, H b = some u -> b ∉ fp := fun b u e z => by rw [(hf b z).1] at e; cases e
 refine J.step (g' := s.gens) (d' := s.drawn) (ch := fp) (fun b hb => ?_) (fun b o _ _ hc e _ => k b o hc e) (fun b o _ _ hc e _ => ⟨o.slots, k b o hc e⟩) (fun _ _ _ _ n => n)
  (fun b o hc e => ⟨o, k b o hc e⟩) (fun _ _ e => e) (fun _ _ _ e => e) (fun b ps e => ⟨#[], by rw [e]; simp⟩) (fun m hm => ?_) (fun b u e => ?_) J.bare
 · exact ⟨(hf b hb).2.2.2.1, (hf b hb).2.1, (hf b hb).2.2.2.2.1, (hf b hb).2.2.2.2.2⟩
 · obtain ⟨o, es, ep, ho, r⟩ := hm
   exact ⟨o, es, ep, k _ o (fun z => (hf _ z).2.1 rfl) ho, r⟩
 · refine (J.hok b u e).stay (fun c v hc q => k c v ?_ q) (fun _ q => q) fun _ _ q => q
   rcases hc with z | z
   · rw [z]; exact nit b u e
   · exact nit c _ z
end
section
variable {X : Cx} {pins : List (Addr × Obj)} {σ : St} {H : Hp} {s : Shared}
def Inv.turnedT {h' : Heap} {t' : Nat} {fp : List Addr} {t : Addr} {u : HO} (J : Inv X pins σ H s) (k : ∀ b o, b ∉ fp -> s.heap.get? b = some o -> h'.get? b = some o) (hf : ∀ b ∈ fp, fS X pins H b) (ht : s.heap.objs.size <= t) (new : ObjOk X.prog X.w (upd H t u) h' t u) :
  Inv X pins σ (upd H t u) { s with heap := h', toks := t' } := by
 have nit : ∀ b u, H b = some u -> b ∉ fp := fun b u e z => by rw [(hf b z).1] at e; cases e
 have hn : H t = none := J.hok.fresh ht
 have net : ∀ b v, H b = some v -> b ≠ t := fun b v e => bJ e hn
 have nlt : ∀ b o, s.heap.get? b = some o -> b ≠ t := fun b o e z => by subst z; exact absurd (Heap.lt_size e) (Nat.not_lt.mpr ht)
 refine J.step (g' := s.gens) (d' := s.drawn) (ch := fp) (fun b hb => ?_) (fun b o _ _ hc e _ => k b o hc e) (fun b o _ _ hc e _ => ⟨o.slots, k b o hc e⟩) (fun b o _ e n => by rw [ay (nlt b o e)]; exact n)
  (fun b o hc e => ⟨o, k b o hc e⟩) (fun b xs e => by rw [ay (net b _ e)]; exact e) (fun b o v e => by rw [ay (net b _ e)]; exact e) (fun b ps e => ⟨#[], by rw [ay (net b _ e), e]; simp⟩) (fun m hm => ?_) (fun b v e => ?_) J.bare
 · exact ⟨(hf b hb).2.2.2.1, (hf b hb).2.1, (hf b hb).2.2.2.2.1, (hf b hb).2.2.2.2.2⟩
 · obtain ⟨o, es, ep, ho, r⟩ := hm
   exact ⟨o, es, ep, k _ o (fun z => (hf _ z).2.1 rfl) ho, r⟩
 · by_cases hb : b = t
   · subst hb
     rw [az] at e
     cases e
     exact new
   · rw [ay hb] at e
     refine (J.hok b v e).stay (fun c ob hc q => k c ob ?_ q) (fun c q => by rw [ay (net c _ q)]; exact q) fun c ys q => by rw [ay (net c _ q)]; exact q
     rcases hc with z | z
     · rw [z]; exact nit b v e
     · exact nit c _ z
end
noncomputable def Ite (b : Bool) (K : PySem.W.Frag) (a : Addr) : It :=
 ⟨fun i H => ∃ xs x, SqB b K H a xs /\ xs[i]? = some x, fun i H x H' => ∃ t v, H t = none /\ x = .ref t /\ H' = upd H t (.tup [.int i, v]) /\ ∀ xs, SqB b K H a xs -> xs[i]? = some v, fun i H => ∃ xs, SqB b K H a xs /\ xs.length = i⟩
def pp {P : Program} {w : World} {K : PySem.W.Frag} {elts : List Expr} {n : Nat} {pos : Pos} (b : Bool) (a e I : Addr) (hne : e ≠ I) :
  Turn P w K (.Tuple elts n pos) (Ite b K a) [e, I] e (fun i h => (∃ old, IsEnum h e I i old) /\ ItB b h I a i) where
 mem := by simp
 obj := fun i h st c hc => by
  obtain ⟨⟨old, st1⟩, st2⟩ := st
  simp only [List.mem_cons, List.not_mem_nil, or_false] at hc
  rcases hc with rfl | rfl
  · exact ⟨_, st1, fun v z => nomatch z⟩
  · obtain ⟨o, q, _, d⟩ := st2.obj
    exact ⟨o, q, d⟩
 keep := fun i h h' st k => by
  obtain ⟨⟨old, st1⟩, st2⟩ := st
  exact ⟨⟨old, k e (by simp) _ st1⟩, st2.at fun o q => k I (by simp) o q⟩
 item := by
  intro X hP hw hK hc i pins s σ H E J hf st hg
  subst hP hw hK
  obtain ⟨⟨old, st1⟩, st2⟩ := st
  obtain ⟨xs, x, hq, hx⟩ := hg
  obtain ⟨its, rv, co⟩ := J.seqB hq
  obtain ⟨u, hu, ru⟩ := rv.get hx
  have hi : i < its.toArray.size := by simpa using (gX hu).1
  have hae : e ∉ [I, a] := by
   simp only [List.mem_cons, List.not_mem_nil, or_false, not_or]
   refine ⟨hne, fun z => ?_⟩
   obtain ⟨o, q, c⟩ := co.obj
   rw [<- z, st1] at q
   cases q
   rcases c with c | c <;> exact absurd c (uI (by decide))
  refine wpAny_pyNext_enum_itemD (qE (A := X.A.in1) (b := b) (I := I) (a := a) (show X.A.in1.handled = none from J.ok.hd hc) (qD st2 co) its.toArray) st1 ⟨st2, co⟩ hi hne hae fun y h1 tk hy ho hs1 hT hsz hk => ⟨_, rfl, ?_⟩
  have ey : y = u := by
   rw [show its.toArray[i]? = its[i]? by simp, hu] at hy
   exact (Option.some.inj hy).symm
  subst ey
  refine wpAny_letOwnedTupleGo_enum ho fun h2 he2 sb2 => ?_
  have kk : ∀ c o, c ∉ [e, I] -> s.heap.get? c = some o -> h2.get? c = some o := fun c o hc' q => by
   simp only [List.mem_cons, List.not_mem_nil, or_false, not_or] at hc'
   exact (sb2.2 c hc'.1).trans (hk c o hc'.1 hc'.2 q)
  have lt : ∀ c ∈ [e, I], c < s.heap.objs.size := fun c hc' => by
   simp only [List.mem_cons, List.not_mem_nil, or_false] at hc'
   rcases hc' with rfl | rfl
   · exact Heap.lt_size st1
   · obtain ⟨o, q, _⟩ := st2.obj
     exact Heap.lt_size q
  -- first the records, then the pair
  have hT2 : h2.get? s.heap.objs.size = some { cls := .type "tuple", data := .seq #[.int i tk, y] } := (sb2.2 _ (fun z => Nat.lt_irrefl _ (z ▸ lt e (by simp)))).trans hT
  have J2 : Inv X pins σ (upd H s.heap.objs.size (.tup [.int i, x])) { s with heap := h2, toks := tk + 1 } := by
   refine J.turnedT kk hf (nL _) ⟨by show 2 <= sizeLine; decide, [.int i tk, y], .cons ⟨_, rfl⟩ (.cons ru .nil), ?_⟩
   exact ⟨_, hT2, rfl, _, rfl⟩
  refine ⟨.ref s.heap.objs.size, _, J2, rfl, ⟨_, x, J.hok.fresh (Nat.le_refl _), rfl, rfl, fun ys hy => by rw [J.seqB_inj hy hq]; exact hx⟩, ⟨⟨_, by simpa using he2⟩, hs1.1.at fun o q => (sb2.2 I (Ne.symm hne)).trans q⟩, fun c hc' => ?_⟩
  rw [ay (Nat.ne_of_lt (lt c hc'))]
  exact (hf c hc').1
 done := by
  intro X hP hw hK hc i pins s σ H E J hf st hg
  subst hP hw hK
  obtain ⟨⟨old, st1⟩, st2⟩ := st
  obtain ⟨xs, hq, hx⟩ := hg
  obtain ⟨its, rv, co⟩ := J.seqB hq
  have hi : i = its.toArray.size := by rw [<- hx]; simpa using rv.length
  refine wpAny_pyNext_enum_endD (qE (A := X.A.in1) (b := b) (I := I) (a := a) (show X.A.in1.handled = none from J.ok.hd hc) (qD st2 co) its.toArray) st1 (show ItB b s.heap I a its.toArray.size /\ CoB b s.heap a its.toArray from ⟨hi ▸ st2, co⟩) fun h' eb => ⟨rfl, ?_⟩
  exact J.turnedL (t' := s.toks) (fun c o hc' q => eb c o (fun z => hc' (by simp [z])) q) hf
 self := fun A i s Q E st h => by
  obtain ⟨⟨old, st1⟩, st2⟩ := st
  exact wpAny_pyIter_enum st1 h
def lB (t : Addr) (vs : Array Value) (n : Nat) (dd : Option Addr) (sl : Array (Option Value)) :
  Meets (Builtin.«enumerate.__new__» ⟨[.type "enumerate", .ref t], []⟩) (fun _ R s => s.heap.get? t = some { cls := .type "tuple", dict := dd, data := .seq vs n, slots := sl } ∧
   R (.ok (.ret (.ref (s.heap.push { cls := .type "tuple_iterator", data := .fields #[.ref t, .int 0 0] }).objs.size)))
    { s with heap := (s.heap.push { cls := .type "tuple_iterator", data := .fields #[.ref t, .int 0 0] }).push { cls := .type "enumerate", data := .fields #[.none, .bool false, .ref s.heap.objs.size, rawInt 0, .none, .none] } }) :=
 .of_wp fun prog w A R s h => by
  obtain ⟨hp, g, d, tk, os⟩ := s
  obtain ⟨ht, h⟩ := h
  have hsub := sub_enumerate
  have hT : Heap.IsTuple (Shared.heap ⟨hp, g, d, tk, os⟩) t vs := ⟨_, ht, rfl, n, rfl⟩
  wp_walk using AutoSeq1.wpAny_loadPart' ht
  refine wpAny_stack_any fun st => wpAny_pure ?_
  split
  · rename_i c _ _ _ _ _
    cases (c == Value.type "enumerate") <;> (wp_walk using AutoSeq1.wpAny_loadPart' ht, wpAny_pyIter_tuple hT) <;> exact ⟨_, rfl, h⟩
  · (wp_walk using AutoSeq1.wpAny_loadPart' ht, wpAny_pyIter_tuple hT) <;> exact ⟨_, rfl, h⟩
section
variable {prog : Program} {w : World} {A : Around} {E : Value -> Shared -> Prop} {s : Shared}
def mN {t : Addr} {vs : Array Value} {Q : Value -> Shared -> Prop} (hT : s.heap.IsTuple t vs)
  (h : ∀ h', IsEnum h' (s.heap.objs.size + 1) s.heap.objs.size 0 .none -> h'.IsTupleIter s.heap.objs.size t 0 -> h'.objs.size = s.heap.objs.size + 2 →
   (∀ c u, s.heap.get? c = some u -> h'.get? c = some u) -> Q (.ref (s.heap.objs.size + 1)) { s with heap := h' }) :
  wpAny (model prog w) A (call (.type "enumerate") [.ref t]) Q E s := by
 obtain ⟨⟨c, dct, dt, sl⟩, hl, hc, n, hd⟩ := hT
 have hc : c = .type "tuple" := hc
 have hd : dt = .seq vs n := hd
 subst hc hd
 refine callType_new F.called_enumerate (by decide) (F.typeCall_enumerate_1 _) (F.newCall_enumerate_1 _) (fun obj => F.args_object_init_2 obj _) F.entry_enumerate_new (lB t vs n dct sl) ⟨hl, ?_⟩
 have hz : (s.heap.push { cls := .type "tuple_iterator", data := .fields #[.ref t, .int 0 0] }).objs.size = s.heap.objs.size + 1 := Heap.size_push ..
 have hz2 : ((s.heap.push { cls := .type "tuple_iterator", data := .fields #[.ref t, .int 0 0] }).push { cls := .type "enumerate", data := .fields #[.none, .bool false, .ref s.heap.objs.size, rawInt 0, .none, .none] }).objs.size = s.heap.objs.size + 2 := by rw [Heap.size_push, hz]
 rw [hz]
 have hen := Heap.get?_push_size (s.heap.push { cls := .type "tuple_iterator", data := .fields #[.ref t, .int 0 0] }) (o := { cls := .type "enumerate", data := .fields #[.none, .bool false, .ref s.heap.objs.size, rawInt 0, .none, .none] }) rfl
 rw [hz] at hen
 exact ⟨⟨_, hen, rfl⟩, h _ hen ⟨_, gP _ (Heap.get?_push_size _ rfl), rfl, rfl⟩ hz2 fun c u z => gP _ (gP _ z)⟩
def mO {b : Bool} {t : Addr} {vs : Array Value} {Q : Value -> Shared -> Prop} (hT : CoB b s.heap t vs)
  (h : ∀ h', IsEnum h' (s.heap.objs.size + 1) s.heap.objs.size 0 .none -> ItB b h' s.heap.objs.size t 0 -> h'.objs.size = s.heap.objs.size + 2 →
   (∀ c u, s.heap.get? c = some u -> h'.get? c = some u) -> Q (.ref (s.heap.objs.size + 1)) { s with heap := h' }) :
  wpAny (model prog w) A (call (.type "enumerate") [.ref t]) Q E s := by
 cases b with
 | true => exact call_enumerate_list hT h
 | false => exact mN hT h
end
section
variable {X : Cx} {x : Expr} {p pos tpos : Pos} {sc : Scope} {fs : De -> Option (List Dt)} {elts : List Expr} {n : Nat}
def xJ (K : PySem.W.Frag) (ta : TA) : TI := fun σ H R => ta σ H fun vs H1 => ∃ b a xs, vs = [.ref a] /\ SqB b K H1 a xs /\ R (Ite b K a) H1
def tf {ta : TA} (h : aT sc "enumerate" = true) (hm : X.mg "enumerate" = none) (ha : PA X [x] ta) (e1 : ck X sc := by rfl) (hs : starEach [x] X.env = [(false, eval x X.env)] := by rfl) :
  PI X (.Tuple elts n tpos) (.Call (.Name "enumerate" p) [x] [] pos) (xJ X.K ta) := by
 intro pins s σ H R I h'
 refine Call_ (iD I (glD h e1) hm j8 (PyProof.Rows.callWith_type1 (thn (ha pos pins s σ H _ I h') fun us s1 ⟨vs, H1, I1, r1, q1⟩ => ?_) hs rfl))
 obtain ⟨b, a, xs, rfl, hq, q⟩ := q1
 obtain ⟨u, rfl, ru⟩ := la r1
 cases ru
 obtain ⟨its, rv, co⟩ := I1.seqB hq
 refine mO co fun h2 he hi hz hk => wpAny_pyIter_enum he ?_
 have I2 : Inv X pins σ H1 { s1 with heap := h2 } := I1.kept (t' := s1.toks) hk
 refine ⟨s1.heap.objs.size + 1, [s1.heap.objs.size + 1, s1.heap.objs.size], _, _, H1, rfl, I2, pp b a _ _ (Nat.ne_of_gt (Nat.lt_succ_self _)), ⟨⟨_, he⟩, hi⟩, fun c hc => ?_, q⟩
 have hge : s1.heap.objs.size <= c := by
  simp only [List.mem_cons, List.not_mem_nil, or_false] at hc
  rcases hc with rfl | rfl
  · exact Nat.le_succ _
  · exact nL _
 exact I1.fpOk hge (I1.hok.fresh hge)
def cR (i : Nat) : List Dt -> List Dt
 | [] => []
 | d :: r => .tup [.int i, d] :: cR (i + 1) r
def gW : ∀ (l : List Dt) (i : Nat), (cR i l).length = l.length
 | [], _ => rfl
 | _ :: r, i => by simp [cR, gW r]
def fJ : ∀ (l : List Dt) (i k : Nat), (cR i l)[k]? = l[k]?.map fun d => .tup [.int ((i + k : Nat) : Int), d]
 | [], i, k => by simp [cR]
 | d :: r, i, 0 => by simp [cR]
 | d :: r, i, k + 1 => by simp [cR, fJ r, Nat.add_assoc, Nat.add_comm 1]
def qF : List Dt -> Option (List Dt)
 | [.lst l] => some (cR 0 l)
 | [.tup l] => some (cR 0 l)
 | _ => none
def qG {K : PySem.W.Frag} {F : Hp} {d e : Dt} {v w : V} {t : Addr} (h : F t = some (.tup [v, w])) (r : Rep K F d v) (r' : Rep K F e w) : Rep K F (.tup [d, e]) (.ref t) := by
 simp only [Rep, Reps]
 exact ⟨t, _, rfl, SqT.of h, v, [w], rfl, r, w, [], rfl, r', rfl⟩
def jO {K : PySem.W.Frag} {F : Hp} {b : Bool} {a : Addr} {xs : List V} {l : List Dt} (r : Reps K F l xs) : nT K F (Ite b K a) (cR 0 l) (fun H => SqB b K H a xs) := fun i H F2 hok fh ff => by
 have hl := r.length
 rw [gW]
 refine ⟨fun h => ⟨xs, xs[i], hok, by simp [show i < xs.length by omega]⟩, fun h => ⟨xs, hok, by omega⟩, fun x H' hi hy => ?_⟩
 obtain ⟨t, v, ht, rfl, rfl, hv⟩ := hy
 have hx := hv xs hok
 obtain ⟨d, hd, rd⟩ := r.same_get hx
 refine ⟨_, upd F2 t (.tup [.int i, v]), ?_, Step.new fh ht, qG az dR ((rd.same ff).same (Same.upd (fh.free ht)))⟩
 rw [fJ, hd]
 simp
def ki (h : aT sc "enumerate" = true) (hm : X.mg "enumerate" = none) (ha : DA X [x] fs) (e1 : ck X sc := by rfl) (hs : starEach [x] X.env = [(false, eval x X.env)] := by rfl) :
  DIF X (.Tuple elts n tpos) (.Call (.Name "enumerate" p) [x] [] pos) (ij qF fs) := PI.mono (tf h hm ha.pa e1 hs) fun σ H R ⟨Φ, δ, F, ds, hK, en, hf, k⟩ => by
 unfold ij at hf
 obtain ⟨as, hd, hf⟩ := bS hf
 refine ⟨Φ, δ, F, as, hK, en, hd, fun vs H' F' st r => ?_⟩
 unfold qF at hf
 split at hf <;> first | (cases hf; done) | skip
 · cases hf
   simp only [Reps, Rep] at r
   obtain ⟨v, ws, rfl, ⟨a, xs, rfl, h1, h2⟩, rfl⟩ := r
   exact ⟨true, a, xs, rfl, st.fh.seq h1, k _ _ H' F' st (jO (b := true) h2) fun H2 s => s.seq h1⟩
 · cases hf
   simp only [Reps, Rep] at r
   obtain ⟨v, ws, rfl, ⟨a, xs, rfl, h1, h2⟩, rfl⟩ := r
   exact ⟨false, a, xs, rfl, st.fh.tup h1, k _ _ H' F' st (jO (b := false) h2) fun H2 s => s.tup h1⟩
end
section
variable {prog : Program} {w : World} {A : Around} {E : Value -> Shared -> Prop} {s : Shared} {z ti tO i1 i2 : Addr} {fp1 fp2 : List Addr} {n1 n2 k : Nat} {P1 P2 : Nat -> Value -> Prop} {S1 S2 : Nat -> Heap -> Prop} {va vb : Value}
end
section
variable {prog : Program} {w : World} {A : Around} {E : Value -> Shared -> Prop} {s : Shared}
end
section
variable {X : Cx} {pins : List (Addr × Obj)} {σ : St} {H : Hp} {s : Shared} {a : Addr} {xs ys : List V} {b c : Bool}
end
section
variable {X : Cx} {x y : Expr} {p pos tpos : Pos} {sc : Scope} {fs : De -> Option (List Dt)} {elts : List Expr} {n : Nat}
end
section
variable {X : Cx} {o a b e c : Expr} {es : List Expr} {fa fb fo fe : De -> Option Dt} {fs : De -> Option (List Dt)} {pos apos cpos p : Pos} {i : Nat}
end
def RepBs.reps {K : PySem.W.Frag} {F H : Hp} (fh : Same F H) : ∀ {l : List Dt} {vs : List V}, RepBs K F H l vs -> Reps K H l vs
 | [], vs, h => by simp only [Reps]; exact h
 | d :: l, vs, h => by
  obtain ⟨v, ws, e, h1, h2⟩ := h
  simp only [Reps]
  exact ⟨v, ws, e, h1.rep fh, h2.reps fh⟩
def lC {K : PySem.W.Frag} {F F' : Hp} {d : Dt} {v : V} (r : Rep K F d v) (h : hX d = true) : Rep K F' d v := by
 cases d <;> first | (cases h; done) | (simp only [Rep] at r ⊢; exact r)
section
variable {X : Cx} {e : Expr} {es : List Expr} {fs : De -> Option (List Dt)} {pos p : Pos} {x : Str} {sc : Scope}
end
def wl {i j : Int} : bV (.int i) (.int j) = some (.leaf (.int (i + j))) := rfl
def wm {x y : Str} (h : x.length + y.length <= sizeLine) : bV (.str x) (.str y) = some (.leaf (.str (x ++ y))) := if_pos h
def wn {l m : List Dt} (h : l.length + m.length <= sizeLine) : bV (.lst l) (.lst m) = some (.lst (l ++ m)) := if_pos h
def gSub_i {i j : Int} : jL (.int i) (.int j) = some (.leaf (.int (i - j))) := rfl
def qH {i j : Int} (h : hW i j = true) : il (.int i) (.int j) = some (.leaf (.int (i * j))) := if_pos h
def qI {j : Int} (h0 : 0 < j) (h1 : j < 1073741824) : lv j = true := by
 unfold lv
 simp [h0, h1]
def gDiv_i {i j : Int} (h0 : 0 < j) (h1 : j < 1073741824) : gU (.int i) (.int j) = some (.leaf (.int (i / j))) := if_pos (qI h0 h1)
def eR {i j : Int} (h : 0 < j) : bE (.int i) (.int j) = some (.leaf (.int (i % j))) := if_pos h
def wp {i j : Int} (h : lu i j = true) : pi (.int i) (.int j) = some (.leaf (.int (i ^ j.toNat))) := if_pos h
def qJ : lu 2 40 = true := by decide
@[irreducible] def wide : Int := 1099511627776
def fK : wide = 1099511627776 := by unfold wide; rfl
def yb : pi (.int 2) (.int 40) = some (.leaf (.int wide)) := by
 rw [wp qJ, fK]
 rfl
def lD : (0 : Int) < wide := by rw [fK]; decide
def gMod_w {i : Int} : bE (.int i) (.int wide) = some (.leaf (.int (i % wide))) := eR lD
def gCmp_i {f : Int -> Int -> Bool} {i j : Int} : iU f (.int i) (.int j) = some (.leaf (.bl (f i j))) := rfl
def xK {l m : List Dt} (h : (eu l m && decide (cZ l <= 59)) = true) : eqD (.lst l) (.lst m) = some (dz l m) := if_pos h
def qK {neg : Bool} {x y : Dt} {b : Bool} (h : eqD x y = some b) : gEq neg x y = some (.leaf (.bl (if neg then !b else b))) := by
 unfold gEq
 rw [h]
 rfl
def wq {i j : Int} : gEq false (.int i) (.int j) = some (.leaf (.bl (decide (i = j)))) := rfl
def qL {i j : Str} : gEq false (.str i) (.str j) = some (.leaf (.bl (decide (i = j)))) := rfl
def gIx_l {l : List Dt} {i : Int} : au (.lst l) (.int i) = (atI l i).map .leaf := rfl
def qM {l : List Dt} {i : Int} : au (.tup l) (.int i) = (atI l i).map .leaf := rfl
def uJ {x : Str} {i : Int} (h : x.length <= sizeLine) : au (.str x) (.int i) = (atI x.cps.toList i).map fun c => .leaf (.str ⟨#[c]⟩) := if_pos h
def gLen_l {l : List Dt} : dA [.lst l] = some (.leaf (.int l.length)) := rfl
def iZ {j : Int} (h : jI j = true) : jo [.int j] = some (bK 0 j.toNat) := if_pos h
def eS {j : Int} (h0 : -1000000000 <= j) (h1 : j <= 1000000000) : jI j = true := by
 unfold jI
 simp only [Bool.and_eq_true, decide_eq_true_eq]
 omega
def itD_l {l : List Dt} : itD (.lst l) = some l := rfl
def asB_b {b : Bool} : asB (.leaf (.bl b)) = some b := rfl
def asBl_b {b : Bool} : mC (.bl b) = some b := rfl
def asI_i {b : Int} : asI (.int b) = some b := rfl
def hZ {n : Nat} (h : n <= 1000000) : n <= sizeLine := Nat.le_trans h (by decide)
def qN {n : Nat} (h : n < 1000000) : n < sizeLine := Nat.lt_of_lt_of_le h (by decide)
def dN {bb : Dt -> De -> Option De} {ft : De -> Option Bool} {fe : De -> Option Dt} {δ : De} {f : Dt -> Dt} : ∀ {ds : List Dt}, (∀ d ∈ ds, ∃ δ1, bb d δ = some δ1 /\ ft δ1 = some true /\ fe δ1 = some (f d)) -> dJ bb ft fe δ ds = some (ds.map f)
 | [], _ => rfl
 | d :: r, h => by
  obtain ⟨δ1, h1, h2, h3⟩ := h d List.mem_cons_self
  unfold dJ
  rw [h1, Option.bind_some, h2, Option.bind_some, if_pos rfl, h3, Option.bind_some, dN fun e he => h e (List.mem_cons_of_mem _ he)]
  rfl
def gu {bb : Dt -> De -> Option De} {ft : De -> Option Bool} {fe : De -> Option Dt} {δ : De} {P : Dt -> Dt -> Prop} : ∀ {ds : List Dt}, (∀ d ∈ ds, ∃ δ1 y, bb d δ = some δ1 /\ ft δ1 = some true /\ fe δ1 = some y /\ P d y) -> ∃ ys, dJ bb ft fe δ ds = some ys /\ Paired P ds ys
 | [], _ => ⟨[], rfl, .nil⟩
 | d :: r, h => by
  obtain ⟨δ1, y, h1, h2, h3, h4⟩ := h d List.mem_cons_self
  obtain ⟨ys, h5, h6⟩ := gu fun e he => h e (List.mem_cons_of_mem _ he)
  refine ⟨y :: ys, ?_, .cons h4 h6⟩
  unfold dJ
  rw [h1, Option.bind_some, h2, Option.bind_some, if_pos rfl, h3, Option.bind_some, h5]
  rfl
def mem_range {lo : Int} {n : Nat} {d : Dt} (h : d ∈ bK lo n) : ∃ i : Nat, i < n /\ d = .int (lo + i) := by
 unfold bK at h
 obtain ⟨i, hi, rfl⟩ := List.mem_map.mp h
 exact ⟨i, List.mem_range.mp hi, rfl⟩
def gY {lo : Int} {n : Nat} : (bK lo n).length = n := by simp [bK]
def mP {α : Type} {x : α} {l : List α} : atI (x :: l) 0 = some x := by
 unfold atI ixN
 simp
def bG {α : Type} {l : List α} {k : Nat} : atI l (k : Int) = l[k]? := by
 unfold atI ixN
 rw [if_pos (by omega)]
 by_cases h : k < l.length
 · rw [if_pos (by omega)]
   simp
 · rw [if_neg (by omega)]
   simp
   omega
def wr {i j : Int} (h1 : -1000000000000000000 < i) (h2 : i < 1000000000000000000) : il (.int i) (.int j) = some (.leaf (.int (i * j))) := qH (sP h1 h2)
def wt {i j : Int} (h1 : -1000000000000000000 < j) (h2 : j < 1000000000000000000) : il (.int i) (.int j) = some (.leaf (.int (i * j))) := qH (sQ h1 h2)
def qO (o : Option Out) (g : De -> Option Out) : Option Out := o.bind fun o => match o with
 | .nx δ' => g δ'
 | o => some o
def sSeq_d {g1 g2 : De -> Option Out} {δ : De} : b8 g1 g2 δ = qO (g1 δ) g2 := rfl
def xL {δ : De} {g : De -> Option Out} : qO (some (.nx δ)) g = g δ := rfl
def xM {t : T} {g : De -> Option Out} : qO (some (.rt t)) g = some (.rt t) := rfl
def wu : Option Out -> Option T
 | some (.rt t) => some t
 | some (.nx _) => some (.leaf .non)
 | _ => none
def runD_d {m : Nat} {g : De -> Option Out} {ds : List Dt} : gt m g ds = wu (g (ds.map (fun d => some (.leaf d)) ++ List.replicate (m - ds.length) none)) := rfl
def yc {t : T} : wu (some (.rt t)) = some t := rfl
def i0 {α : Type} (b : Option Bool) (f g : De -> Option α) (δ : De) : Option α := b.bind fun b => if b then f δ else g δ
def yd {α : Type} {f g : De -> Option α} {δ : De} : i0 (some true) f g δ = f δ := rfl
def ye {α : Type} {f g : De -> Option α} {δ : De} : i0 (some false) f g δ = g δ := rfl
def dq {α : Type} {f g : De -> Option α} {δ : De} {b : Bool} (h : b = true) : i0 (some b) f g δ = f δ := by subst h; rfl
def dr {α : Type} {f g : De -> Option α} {δ : De} {b : Bool} (h : b = false) : i0 (some b) f g δ = g δ := by subst h; rfl
def sIf_d {c : De -> Option Bool} {g1 g2 : De -> Option Out} {δ : De} : sIf c g1 g2 δ = i0 (c δ) g1 g2 δ := rfl
def kT (b : Bool) : De -> Option T := fun _ => some (.leaf (.bl b))
def vAnd_d {f : De -> Option Dt} {g : De -> Option T} {δ : De} : ph f g δ = i0 ((f δ).bind mC) g (kT false) δ := by
 unfold ph i0 kT
 cases f δ with
 | none => rfl
 | some d => rfl
def mkL (ds : List Dt) : Option T := if ds.length <= sizeLine then some (.lst ds) else none
def mkTp (ds : List Dt) : Option T := if ds.length <= sizeLine then some (.leaf (.tup ds)) else none
def ga {ds : List Dt} (h : ds.length <= 1000000) : mkL ds = some (.lst ds) := if_pos (hZ h)
def yf {ds : List Dt} (h : ds.length <= 1000000) : mkTp ds = some (.leaf (.tup ds)) := if_pos (hZ h)
def vLst_d {f : De -> Option (List Dt)} {δ : De} : dl f δ = (f δ).bind mkL := rfl
def vTup_d {f : De -> Option (List Dt)} {δ : De} : cI f δ = (f δ).bind mkTp := rfl
def yg {src : List (Option Nat)} {fi : De -> Option (List Dt)} {bb : Dt -> De -> Option De} {ft : De -> Option Bool} {fe : De -> Option Dt} {δ : De} : cj src fi bb ft fe δ = (fi δ).bind fun ds => (dJ bb ft fe (dC src δ) ds).bind mkL := rfl
def appL (l : List Dt) (i : Nat) (δ : De) (d : Dt) : Option Out := if l.length < sizeLine then some (.nx (δ.set i (some (.lst (l ++ [d]))))) else none
def tj {l : List Dt} {i : Nat} {δ : De} {d : Dt} (h : l.length < 1000000) : appL l i δ d = some (.nx (δ.set i (some (.lst (l ++ [d]))))) := if_pos (qN h)
def xN {i : Nat} {f : De -> Option Dt} {δ : De} {l : List Dt} (h : δ[i]? = some (some (.lst l))) : y61 i f δ = (f δ).bind (appL l i δ) := by
 unfold y61
 rw [h]
 rfl
def mQ (cs : List Nat) : Txt.join "" (cs.map fun c => (⟨#[c]⟩ : Str)) = ⟨cs.toArray⟩ := by
 have e0 : ("" : Str).cps = #[] := by decide +kernel
 have go : ∀ (l : List Nat) (acc : Array Nat), (l.map fun c => (⟨#[c]⟩ : Str)).foldl (fun acc p => acc ++ ("" : Str).cps ++ p.cps) acc = acc ++ l.toArray := by
  intro l
  induction l with
  | nil => intro acc; simp
  | cons c l ih =>
   intro acc
   rw [List.map_cons, List.foldl_cons, ih, e0]
   simp
 unfold Txt.join Builtin.Str.glued
 cases cs with
 | nil => rfl
 | cons c r =>
  show (⟨(r.map fun c => (⟨#[c]⟩ : Str)).foldl (fun acc p => acc ++ ("" : Str).cps ++ p.cps) (#[c] : Array Nat)⟩ : Str) = _
  rw [go]
  simp
def kj (cs : List Nat) (h : cs.length <= 1000) : JoinOk "" (cs.map fun c => (⟨#[c]⟩ : Str)) = true := by
 unfold JoinOk
 have h1 : ∀ y ∈ cs.map (fun c => (⟨#[c]⟩ : Str)), y.length <= 1 := fun y hy => by
  obtain ⟨c, _, rfl⟩ := List.mem_map.mp hy
  exact nL _
 rw [StrLaws.joinFits h1 (by rw [List.length_map, show ("" : Str).length = 0 by decide +kernel]; omega)]
 rfl
def i6 : ∀ ts : List Str, fY (ts.map .str) = some ts
 | [] => rfl
 | t :: r => by
  show (fY (r.map .str)).map (t :: ·) = _
  rw [i6 r]
  rfl
def sgD (cs : List Nat) : List Dt := cs.map fun c => .str ⟨#[c]⟩
def qP {cs : List Nat} (h : cs.length <= 1000) : fZ (.str "") [.lst (sgD cs)] = some (.leaf (.str ⟨cs.toArray⟩)) := by
 have e : sgD cs = (cs.map fun c => (⟨#[c]⟩ : Str)).map .str := by unfold sgD; rw [List.map_map]; rfl
 show (fY (sgD cs)).bind _ = _
 rw [e, i6, Option.bind_some, if_pos (kj cs h), mQ]
def jP : ∀ {ds ys : List Dt}, Paired (fun _ y => ∃ c : Nat, y = .str ⟨#[c]⟩) ds ys -> ∃ cs : List Nat, ys = sgD cs /\ cs.length = ds.length
 | _, _, .nil => ⟨[], rfl, rfl⟩
 | _, _, .cons ⟨c, e⟩ t => by
  obtain ⟨cs, e1, e2⟩ := jP t
  exact ⟨c :: cs, by rw [e, e1]; rfl, by simp [e2]⟩
def mR {α : Type} {xs : List α} {i : Int} (h0 : 0 <= i) (h1 : i < xs.length) : ∃ v, atI xs i = some v /\ v ∈ xs := by
 obtain ⟨n, rfl⟩ := Int.eq_ofNat_of_zero_le h0
 have hn : n < xs.length := by omega
 exact ⟨xs[n], so (by simp [hn]), List.getElem_mem hn⟩
def tm (x : Str) : x.length = x.cps.toList.length := by
 show x.cps.size = _
 simp
def tp {x : Str} {i : Int} (hl : x.length <= 1000000) (h0 : 0 <= i) (h1 : i < x.length) : ∃ c, au (.str x) (.int i) = some (.leaf (.str ⟨#[c]⟩)) /\ c ∈ x.cps.toList := by
 obtain ⟨c, e, hm⟩ := mR (xs := x.cps.toList) h0 (by rw [<- tm]; exact h1)
 refine ⟨c, ?_, hm⟩
 rw [uJ (hZ hl), e]
 rfl
def n0 {l m : List Dt} (h : l.length + m.length <= 1000000) : bV (.lst l) (.lst m) = some (.lst (l ++ m)) := wn (hZ h)
def sFor_d {fi : De -> Option (List Dt)} {bb : Dt -> De -> Option De} {g : De -> Option Out} {δ : De} : sM fi bb g δ = (fi δ).bind fun ds => lq bb g ds δ := rfl
def atI_0 {α : Type} {l : List α} : atI l 0 = l[0]? := bG (k := 0)
def uK {α : Type} {l : List α} : atI l 1 = l[1]? := bG (k := 1)
def atI_2 {α : Type} {l : List α} : atI l 2 = l[2]? := bG (k := 2)
def atI_3 {α : Type} {l : List α} : atI l 3 = l[3]? := bG (k := 3)
def atI_4 {α : Type} {l : List α} : atI l 4 = l[4]? := bG (k := 4)
def atI_5 {α : Type} {l : List α} : atI l 5 = l[5]? := bG (k := 5)
def wv {α : Type} {l : List α} : atI l 12 = l[12]? := bG (k := 12)
def qQ {α : Type} {x : α} {l : List α} : atI (x :: l) (-1) = (x :: l)[l.length]? := by
 unfold atI ixN
 rw [if_neg (by decide), if_pos (by simp only [List.length_cons]; omega)]
 simp only [Option.bind_some]
 congr 1
 simp only [List.length_cons]
 omega
def n6 {bb : Dt -> De -> Option De} {g : De -> Option Out} (P : List Dt -> De -> Prop) (all : List Dt) : ∀ (ds done : List Dt) (δ : De), all = done ++ ds -> P done δ -> (∀ done d r δ, all = done ++ d :: r -> P done δ -> ∃ δ1 δ2, bb d δ = some δ1 /\ (g δ1 = some (.nx δ2) ∨ g δ1 = some (.ct δ2)) /\ P (done ++ [d]) δ2) -> ∃ δ', lq bb g ds δ = some (.nx δ') /\ P all δ'
 | [], done, δ, ha, h, _ => ⟨δ, rfl, by rw [ha, List.append_nil]; exact h⟩
 | d :: r, done, δ, ha, h, hs => by
  obtain ⟨δ1, δ2, h1, h2, h3⟩ := hs done d r δ ha h
  obtain ⟨δ', h4, h5⟩ := n6 P all r (done ++ [d]) δ2 (by rw [ha]; simp) h3 hs
  refine ⟨δ', ?_, h5⟩
  unfold lq
  rw [h1, Option.bind_some]
  rcases h2 with h2 | h2 <;> rw [h2, Option.bind_some] <;> exact h4
def qR {lo : Int} {n : Nat} {done r : List Dt} {d : Dt} (h : bK lo n = done ++ d :: r) : d = .int (lo + done.length) /\ done.length < n := by
 have hl : done.length < n := by
  have e := congrArg List.length h
  rw [gY, List.length_append, List.length_cons] at e
  omega
 have e : (bK lo n)[done.length]? = some d := by rw [h]; simp
 unfold bK at e
 rw [List.getElem?_map, List.getElem?_range hl] at e
 exact ⟨(Option.some.inj e).symm, hl⟩
open PySem
def ww : (Str.ofString "copy" = Str.ofString "if") = False := eq_false (by decide +kernel)
def wx : (Str.ofString "copy" = Str.ofString "go") = False := eq_false (by decide +kernel)
def uL : (Str.ofString "copy" = Str.ofString "end") = False := eq_false (by decide +kernel)
def wy : (Str.ofString "load" = Str.ofString "if") = False := eq_false (by decide +kernel)
def wz : (Str.ofString "load" = Str.ofString "go") = False := eq_false (by decide +kernel)
def uM : (Str.ofString "load" = Str.ofString "end") = False := eq_false (by decide +kernel)
def uN : (Str.ofString "store" = Str.ofString "if") = False := eq_false (by decide +kernel)
def uO : (Str.ofString "store" = Str.ofString "go") = False := eq_false (by decide +kernel)
def tq : (Str.ofString "store" = Str.ofString "end") = False := eq_false (by decide +kernel)
def wA : (Str.ofString "take" = Str.ofString "if") = False := eq_false (by decide +kernel)
def wC : (Str.ofString "take" = Str.ofString "go") = False := eq_false (by decide +kernel)
def uP : (Str.ofString "take" = Str.ofString "end") = False := eq_false (by decide +kernel)
def xa : (Str.ofString "lay" = Str.ofString "if") = False := eq_false (by decide +kernel)
def xb : (Str.ofString "lay" = Str.ofString "go") = False := eq_false (by decide +kernel)
def wD : (Str.ofString "lay" = Str.ofString "end") = False := eq_false (by decide +kernel)
def wE : (Str.ofString "hear" = Str.ofString "if") = False := eq_false (by decide +kernel)
def wF : (Str.ofString "hear" = Str.ofString "go") = False := eq_false (by decide +kernel)
def uQ : (Str.ofString "hear" = Str.ofString "end") = False := eq_false (by decide +kernel)
def xc : (Str.ofString "end" = Str.ofString "if") = False := eq_false (by decide +kernel)
def xf : (Str.ofString "end" = Str.ofString "go") = False := eq_false (by decide +kernel)
section
variable {X : Cx} {b : Expr} {fb : De -> Option Dt} {pos p : Pos} {x : Str} {sc : Scope} {ks : List Key} {l : List Dt}
end
section
variable {X : Cx} {elt tg iter : Expr} {ifs : List Expr} {scope : Scope} {pos : Pos} {M : List Str} {src : List (Option Nat)} {wi : TI} {g : TG} {tt : TT} {te : TE}
def pq {pins : List (Addr × Obj)} {s : Shared} {σ : St} {H : Hp} {Q : VK} {cpos : Pos} {use : Option (Value -> Sem Unit)} {QQ : Value -> Shared -> Prop} (S : CmpScope X.N X.env.scope scope M src) (hc : X.calm = true) (hi : PI X tg iter wi) (hg : M.Nodup -> ∀ C s H ex, PG (cxC X M scope C s H ex) tg g) (ht : ∀ C s H ex, PTs (cxC X M scope C s H ex) ifs tt)
  (he : ∀ C s H ex, PE (cxC X M scope C s H ex) elt te) (hs : ∀ x, foldedSetIterable iter X.env x = pure x) (I : Inv X pins σ H s) (h : jE src wi g tt te σ H Q)
  (hfin : ∀ (D C : Addr) (H' : Hp) (s' : Shared) (m : Str -> Option Value), Inv X pins σ H' s' -> fS X pins H' C -> s'.heap.Ns C m -> Q (.ref D) H' -> compPost (model X.prog X.w) X.A X.xe use QQ (.ref D) C (.ok .next) s') :
  wpAny (model X.prog X.w) X.A (comprehension (.ListComp elt [⟨tg, iter, ifs, 0⟩] scope pos) scope X.env cpos (newList []) false (eval iter X.env) use) QQ X.xe s := by
 have hcells : ∀ x ∈ scope.names, x.2 = .free -> ∃ c, X.env.cells.lookup x.1 = some c := fun x hx hfr => I.ok.has x.1 (S.free x hx hfr)
 refine wpAny_comprehension_free (use := use) rfl hs (iM hcells) S.kind S.names (thn (hi pins s σ H _ I h) fun v s1 h1 => thn h1 fun itv s2 h2 => ?_)
 obtain ⟨it, fp, tn, J, H2, rfl, I2, T, st2, f2, hq⟩ := h2
 refine wpAny_newObj_type ?_
 have I3 : Inv X pins σ (upd H2 s2.heap.objs.size (.lst [])) { s2 with heap := s2.heap.push { cls := .type "list", dict := none, data := .seq ([] : List Value).toArray }, toks := s2.toks } := I2.lnew (its := []) (ys := []) (t' := s2.toks) .nil (by simp)
 have hD : H2 s2.heap.objs.size = none := I2.fresh
 obtain ⟨W, ⟨m0, w0⟩, turn⟩ := hq _ hD
 generalize hDn : s2.heap.objs.size = D at *
 generalize hs3 : ({ s2 with heap := s2.heap.push { cls := .type "list", dict := none, data := .seq ([] : List Value).toArray }, toks := s2.toks } : Shared) = s3 at *
 have f3 : ∀ b ∈ fp, fS X pins (upd H2 D (.lst [])) b := fun b hb => ⟨by
  obtain ⟨o, e, _⟩ := T.obj _ _ st2 b hb
  rw [ay (by rw [<- hDn]; exact Nat.ne_of_lt (Heap.lt_size e))]
  exact (f2 b hb).1, (f2 b hb).2⟩
 have k23 : ∀ b o, s2.heap.get? b = some o -> s3.heap.get? b = some o := fun b o e => by rw [<- hs3]; exact gP _ e
 have st3 : tn 0 s3.heap := T.keep _ _ _ st2 fun b _ o e => k23 b o e
 have fl3 : ∀ b ∈ fp, b < s3.heap.objs.size := fun b hb => by
  obtain ⟨o, e, _⟩ := T.obj _ _ st3 b hb
  exact Heap.lt_size e
 refine wpAny_newFunctionEnv S.nocell (by intro y hy; simp at hy) (fun h₁ hns₁ hsb₁ => ?_) S.kind
 have k34 : ∀ b o, s3.heap.get? b = some o -> h₁.get? b = some o := fun b o e => hsb₁.extBut b o (Nat.ne_of_lt (Heap.lt_size e)) (gP _ e)
 generalize hs4 : ({ s3 with heap := h₁, toks := s3.toks + ([] : List (Str × Value)).length } : Shared) = s4
 have I4 : Inv (cxC X M scope s3.heap.objs.size s3 (upd H2 D (.lst [])) fp) [] (stC src σ) (upd H2 D (.lst [])) s4 := by
  rw [<- hs4]
  exact ll S I3 f3 fl3 hns₁ k34 rfl rfl
 have st4 : tn 0 s4.heap := T.keep _ _ _ st3 fun b _ o e => by rw [<- hs4]; exact k34 b o e
 generalize hX' : cxC X M scope s3.heap.objs.size s3 (upd H2 D (.lst [])) fp = X' at *
 have hg' : PG X' tg g := by rw [<- hX']; exact hg S.nd _ _ _ _
 have ht' : PTs X' ifs tt := by rw [<- hX']; exact ht _ _ _ _
 have he' : PE X' elt te := by rw [<- hX']; exact he _ _ _ _
 have eP : X'.prog = X.prog := by rw [<- hX']; rfl
 have eW : X'.w = X.w := by rw [<- hX']; rfl
 have eK : X'.K = X.K := by rw [<- hX']; rfl
 have eA : X'.A = X.A := by rw [<- hX']; rfl
 have ex' : X'.xe = fun _ _ => False := by rw [<- hX']; rfl
 have ec : X'.calm = true := by rw [<- hX']; exact hc
 have eE : X'.env = compEnvC scope (lh scope.names X.env.cells) s3.heap.objs.size X.env := by rw [<- hX']; rfl
 have stat : ∀ {H' : Hp}, (∀ b ∈ fp, H' b = none) -> ∀ b ∈ fp, fS X' [] H' b := fun hn b hb => by
  rw [<- hX']
  refine ⟨hn b hb, Nat.ne_of_lt (fl3 b hb), fun z => ?_, .inl hb, fun x c h => (f3 b hb).2.2.2.2.1 x c (eh hcells h), fun p hp => absurd hp (by simp [cxC])⟩
  rcases List.mem_cons.mp (I3.stkSub b z) with q | q
  · exact (f3 b hb).2.1 q
  · exact (f3 b hb).2.2.1 q
 -- behind the block
 have fin : ∀ (H' : Hp) (s' : Shared), Inv X' [] (stC src σ) H' s' -> Q (.ref D) H' -> compPost (model X.prog X.w) X.A X.xe use QQ (.ref D) s3.heap.objs.size (.ok .next) s' := by
  intro H' s' J' q
  rw [<- hX'] at J'
  obtain ⟨m, hn, _⟩ := id J'.loc
  have hC : H' s3.heap.objs.size = none := J'.free
  have un : Un (frs X.stack) fp (upd H2 D (.lst [])) H' s3.heap s'.heap := J'.base
  have IA : Inv X pins σ H' s' := I3.call' (s' := s') (show s'.os = s3.os from J'.os) un J'.hok J'.bare fun b hb => ⟨(f3 b hb).2.2.2.1, (f3 b hb).2.1, (f3 b hb).2.2.2.2.1, (f3 b hb).2.2.2.2.2⟩
  exact hfin D _ H' s' m IA (I3.fpOk (nL _) hC) hn q
 have loop : ∀ s4' : Shared, s4' = s4 -> codeAny (model X.prog X.w) X.A (.compLoop (.ListComp elt [⟨tg, iter, ifs, 0⟩] scope pos) 0 (.ref it) (.ref D) X'.env) (compPost (model X.prog X.w) X.A X.xe use QQ (.ref D) s3.heap.objs.size) s4' := by
  rintro _ rfl
  refine gj (fun n s' => ∃ i H', Inv X' [] (stC src σ) H' s' /\ tn i s'.heap /\ (∀ b ∈ fp, H' b = none) /\ W i n H') ?_ m0 ⟨0, _, I4, st4, fun b hb => (f3 b hb).1, w0⟩
  rintro n s5 ⟨i, H5, I5, st5, fr5, w5⟩
  rcases turn i n H5 w5 with ⟨stop, qn⟩ | ⟨go, N, hN, step⟩
  · have := T.done X' eP eW eK ec i [] s5 (stC src σ) H5 (fun _ _ => False) I5 (stat fr5) st5 stop
    rw [eA] at this
    refine thn this fun r s6 ⟨hr, I6⟩ => ?_
    subst hr
    exact fin H5 s6 I6 qn
  · have := T.item X' eP eW eK ec i [] s5 (stC src σ) H5 (fun _ _ => False) I5 (stat fr5) st5 go
    rw [eA] at this
    refine thn this fun r s6 ⟨u, hr, h6⟩ => ?_
    subst hr
    refine thn h6 fun _ s7 ⟨x, H7, I7, r7, y7, st7, fr7⟩ => ?_
    have I7' := I7.pinned (stat fr7) (T.obj _ _ st7)
    have a1 := hg' _ s7 (stC src σ) H7 x u _ I7' r7 (step x H7 y7)
    rw [ex', eP, eW, eA] at a1
    refine thn a1 fun _ s8 ⟨σ8, H8, I8, wk8, q8⟩ => ?_
    have a2 := ht' _ s8 σ8 H8 _ I8 q8
    rw [ex', eP, eW, eA] at a2
    refine thn a2 fun ok s9 ⟨H9, I9, q9⟩ => ?_
    have again : ∀ {H7' : Hp} {s' : Shared}, Inv X' ([] ++ gG fp s7.heap) σ8 H7' s' -> N H7' -> ∃ m, m < n /\ ∃ i H', Inv X' [] (stC src σ) H' s' /\ tn i s'.heap /\ (∀ b ∈ fp, H' b = none) /\ W i m H' := fun {H7' s'} J7 n7 => by
     obtain ⟨m', hm, w7⟩ := hN H7' n7
     refine ⟨m', hm, i + 1, H7', J7.unpinned.weak wk8.1 wk8.2, T.keep _ _ _ st7 fun b hb o e => (J7.pin (b, o) (List.mem_append_right _ (List.mem_append_right _ (cE hb e)))).1, fun b hb => ?_, w7⟩
     obtain ⟨o, e, d⟩ := T.obj _ _ st7 b hb
     exact (J7.pin (b, o) (List.mem_append_right _ (List.mem_append_right _ (cE hb e)))).2.1
    cases ok with
    | false => exact again I9 q9
    | true =>
     have a3 := he' _ s9 σ8 H9 _ I9 q9
     rw [ex', eP, eW, eA] at a3
     refine thn a3 fun v s10 ⟨y, H10, I10, r10, ys, hl, hz, q10⟩ => ?_
     have a4 := fG (X := X') _ s10 σ8 H10 (.ref D) [y] (.ref D) [v] (fun _ H' => N H') I10 rfl (.cons r10 .nil) ⟨D, ys, y, rfl, rfl, hl, hz, q10⟩
     rw [ex', eP, eW, eA] at a4
     refine thn a4 fun _ s11 ⟨_, H11, I11, _, q11⟩ => ?_
     exact again I11 q11
 have e4 : ∀ c : Env, c = X'.env -> codeAny (model X.prog X.w) X.A (.compStart (.ListComp elt [⟨tg, iter, ifs, 0⟩] scope pos) 0 (.ref it) (.ref D) c) (compPost (model X.prog X.w) X.A X.xe use QQ (.ref D) s3.heap.objs.size) s4 := by
  rintro _ rfl
  exact codeAny_compStart_list (loop _ rfl) (T.self _ _ _ _ _ st4 (loop _ rfl))
 exact e4 _ (by rw [eE]; rfl)
def tu {i : Nat} {y : Str} {py spos : Pos} (hN : X.N.Nodup) (hi' : X.N[i]? = some y) (hx : Loc X.env.scope y) (hf : X.fn y = true ∨ X.env.scope.names.lookup y = some .local)
  (S : CmpScope X.N X.env.scope scope M src) (hc : X.calm = true) (hi : PI X tg iter wi) (hg : M.Nodup -> ∀ C s H ex, PG (cxC X M scope C s H ex) tg g) (ht : ∀ C s H ex, PTs (cxC X M scope C s H ex) ifs tt)
  (he : ∀ C s H ex, PE (cxC X M scope C s H ex) elt te) (hs : ∀ x, foldedSetIterable iter X.env x = pure x)
  (hsw : swapsWith (.ListComp elt [⟨tg, iter, ifs, 0⟩] scope pos) (some (.Name y py)) spos.line X.env = pure true) :
  PS X (.Assign [.Name y py] (.ListComp elt [⟨tg, iter, ifs, 0⟩] scope pos) spos) (rY (jE src wi g tt te) (iE i)) := by
 intro pins s σ H D I h
 rw [exec_Assign_Name_used _ _ _ _ hsw]
 refine wB (wpAny_standAt (wB ?_))
 show wpAny _ X.A (do let _ <- comprehension (.ListComp elt [⟨tg, iter, ifs, 0⟩] scope pos) scope X.env _ (newList []) false (eval iter X.env) (some (assign (.Name y py) X.env))) _ _ s
 refine wB (wpAny_mono (pq (use := some (assign (.Name y py) X.env)) (QQ := fun _ s' => ∃ σ' H', Inv X pins σ' H' s' /\ D.nx σ' H') S hc hi hg ht he hs I h ?_) (fun _ s' hq => wpAny_pure (wpAny_pure hq)) fun _ _ e => e)
 intro Dd C H' s' m IA hC hn q
 show wpAny _ X.A (assign (.Name y py) X.env (.ref Dd)) _ _ s'
 refine wpAny_assign_Name (jq IA hN hi' hx (v := .ref Dd) rfl (fun s2 I2 hsb => ?_) hf)
 obtain ⟨a, sb, ha⟩ := hsb
 have ne : C ≠ a := by
  rcases ha with rfl | ha
  · exact hC.2.1
  · exact Ne.symm (hC.2.2.2.2.1 y a ha)
 refine ⟨m, hn.sameBut sb ne, fun h3 sb3 => ⟨_, H', ?_, q⟩⟩
 have kC : ∀ b o, b ≠ C -> s2.heap.get? b = some o -> h3.get? b = some o := fun b o hb e => sb3.extBut b o hb e
 have nm : ∀ {b : Addr}, b ∉ [C] -> b ≠ C := fun hb z => hb (by rw [z]; exact List.mem_cons_self)
 refine I2.call' (s' := { s2 with heap := h3 }) (ch := [C]) rfl ⟨fun b o e n hb hx => kC b o (nm hx) e, fun b o e n hb hx => ⟨o.slots, kC b o (nm hx) e⟩, fun b o e n hx => n, fun b o e hx => ⟨o, kC b o (nm hx) e⟩, fun b xs e => e, fun b o u e => e, fun b ps e => ⟨#[], by rw [Array.append_empty]; exact e⟩⟩ ?_ I2.bare fun b hb => ?_
 · intro b u e
   have nb : b ≠ C := fun z => by rw [z, hC.1] at e; cases e
   refine (I2.hok b u e).stay (fun c v hc' q => kC c v ?_ q) (fun _ q => q) fun _ _ q => q
   rcases hc' with z | z
   · rw [z]; exact nb
   · intro w; rw [w, hC.1] at z; cases z
 · cases List.mem_singleton.mp hb
   exact ⟨hC.2.2.2.1, hC.2.1, hC.2.2.2.2.1, hC.2.2.2.2.2⟩
end
section
variable {X : Cx} {elt tg iter : Expr} {ifs : List Expr} {scope : Scope} {pos : Pos} {M : List Str} {src : List (Option Nat)} {fi : De -> Option (List Dt)} {ft : De -> Option Bool} {fe : De -> Option Dt} {i : Nat}
def wG {K : PySem.W.Frag} {f : De -> Option T} {σ : St} {H : Hp} {Q : VK} (h : tO K (toT (toD f)) σ H Q) : tO K f σ H Q := by
 obtain ⟨Φ, δ, F, t, hK, en, hf, k⟩ := h
 unfold toT toD at hf
 cases ht : f δ with
 | none => rw [ht] at hf; cases hf
 | some u =>
  rw [ht] at hf
  cases hf
  exact ⟨Φ, δ, F, u, hK, en, ht, k.leaf.to⟩
end
def ClsAt.inj {K : PySem.W.Frag} {c : Str} {C C' : Addr} (h : ClsAt K c C) (h' : ClsAt K c C') : C = C' := by
 unfold ClsAt at h h'
 rw [h] at h'
 cases h'
 rfl
def gb (K : PySem.W.Frag) (c f : Str) : Prop := ∃ C, ClsAt K c C /\ Cls K C /\ NoAttr K C f
section
variable {X : Cx} {e o : Expr} {f : Str} {pos pos' apos cpos : Pos} {i j : Nat} {c : Str} {NS : List Str} {fe : De -> Option T} {fd : De -> Option Dt}
end
section
variable {X : Cx} {e o ik : Expr} {f : Str} {pos pos' apos cpos spos : Pos} {i j : Nat} {c : Str} {NS : List Str} {fe : De -> Option T} {fd fk : De -> Option Dt}
end
structure OkM (P : Program) (w : World) (K : PySem.W.Frag) (mg : Str -> Option Value) (base : Heap) (c m : Str) (k : Nat) (ps : List Str) (sp : Sp) : Prop where
 ex : ∃ C f fd, ClsAt K c C /\ Cls K C /\ Meth K C m f /\ Binds K fd ps [] /\ FnOk P w K mg base CX0 k f fd ps sp
structure DefM (K : PySem.W.Frag) (c m q : Str) (st : Stmt) (ps : List Str) : Prop where
 ex : ∃ C f fd, ClsAt K c C /\ Cls K C /\ Meth K C m f /\ Binds K fd ps [] /\ Fun K m q st f fd
structure OkI (P : Program) (w : World) (K : PySem.W.Frag) (mg : Str -> Option Value) (base : Heap) (c : Str) (k : Nat) (ps : List Str) (sp : Sp) : Prop where
 ex : ∃ C f fd, ClsAt K c C /\ mg c = some (.ref C) /\ Mk K C f /\ Binds K fd ps [] /\ FnOk P w K mg base CX0 k f fd ps sp
structure DefI (K : PySem.W.Frag) (mg : Str -> Option Value) (c q : Str) (st : Stmt) (ps : List Str) : Prop where
 ex : ∃ C f fd, ClsAt K c C /\ mg c = some (.ref C) /\ Mk K C f /\ Binds K fd ps [] /\ Fun K "__init__" q st f fd
def n8 : T -> Option T
 | .leaf d => if hX d then some (.leaf d) else none
 | .lst l => if l.all hX then some (.lst l) else none
 | _ => none
def jQ {K : PySem.W.Frag} {F F' : Hp} : ∀ {l : List Dt} {vs : List V}, Reps K F l vs -> l.all hX = true -> Reps K F' l vs
 | [], vs, h, _ => by simp only [Reps] at h ⊢; exact h
 | d :: l, vs, h, hf => by
  simp only [List.all_cons, Bool.and_eq_true] at hf
  simp only [Reps] at h ⊢
  obtain ⟨v, ws, e, h1, h2⟩ := h
  exact ⟨v, ws, e, lC h1 hf.1, jQ h2 hf.2⟩
def qS {K : PySem.W.Frag} {F1 H1 : Hp} {u t : T} {Q : VK} (fh : Same F1 H1) (hf : n8 u = some t) (k : KO K F1 H1 t Q) : KO K H1 H1 u Q := fun v H' F' S st o hs => by
 unfold n8 at hf
 split at hf <;> first | (cases hf; done) | skip
 · split at hf <;> first | (cases hf; done) | skip
   rename_i d hd
   cases hf
   exact k.leaf v H' F1 ⟨st.hh, Same.refl _, fh.trans st.hh, fun b o e => .inl e⟩ (lC o hd)
 · split at hf <;> first | (cases hf; done) | skip
   rename_i l hl
   cases hf
   obtain ⟨a, vs, e, sa, h1, h2⟩ := o
   refine k v H' F1 S ⟨st.hh, Same.refl _, fh.trans st.hh, fun b o e => .inl e⟩ ⟨a, vs, e, sa, h1, jQ h2 hl⟩ fun b z => ⟨?_, (hs b z).2.1, (hs b z).2.2⟩
   cases q : F1 b with
   | none => rfl
   | some o => have y := (hs b z).2.1; rw [fh _ _ q] at y; cases y
def h9 {m : Str} : ∀ {fs : List (Str × V)}, m ∉ fs.map (·.1) -> fs.lookup m = none
 | [], _ => rfl
 | (g, x) :: fs, h => by
  simp only [List.map_cons, List.mem_cons, not_or] at h
  have : (m == g) = false := by simpa using h.1
  simp only [List.lookup, this]
  exact h9 h.2
section
variable {X : Cx} {e o : Expr} {es : List Expr} {m c : Str} {pos apos cpos p : Pos} {i j : Nat} {NS ps : List Str} {fo : De -> Option Dt} {fs : De -> Option (List Dt)} {ff : List Dt -> Option T} {k n : Nat}
end
section
variable {K : PySem.W.Frag} {F H : Hp} {ts : List T} {vs : List V} {S : Nat -> Addr -> Prop} {N : List Str}
end
section
variable {P : Program} {w : World} {K : PySem.W.Frag} {mg : Str -> Option Value} {base : Heap}
end
section
variable {X : Cx} {e : Expr} {pos : Pos} {fd : De -> Option Dt}
end
section
variable {X : Cx} {e : Expr} {es : List Expr} {i : Nat} {ags : List Ag} {f : De -> Option Dt}
end
section
variable {X : Cx} {e o : Expr} {es : List Expr} {x m c : Str} {pos apos cpos p : Pos} {i j : Nat} {NS ps : List Str} {sc : Scope} {k n : Nat} {f : List T -> Option (T × List T)} {ags : List Ag} {fs : De -> Option (List Dt)} {fe fk : De -> Option Dt}
end
section
variable {X : Cx}
def qT (K : PySem.W.Frag) : R2 := fun x y H Q => ∃ a b ys, x = .ref a /\ y = .ref b /\ SqT K H a [] /\ SqT K H b ys /\ Q (.ref b) H
def tw : OpR X (binaryOp .Add) (qT X.K) := by
 intro pins s σ H x y v u Q I rx ry h
 obtain ⟨a, b, ys, rfl, rfl, ha, hb, q⟩ := h
 cases rx
 cases ry
 obtain ⟨its, r1, p1, _⟩ := I.tuple ha
 obtain ⟨its2, r2, p2, _⟩ := I.tuple hb
 cases r1
 obtain ⟨⟨cls, dd, data, sl⟩, ho, hc, n, hd⟩ := id p1
 obtain ⟨⟨cls2, dd2, data2, sl2⟩, ho2, hc2, n2, hd2⟩ := id p2
 simp only at hc hd hc2 hd2
 subst hc hd hc2 hd2
 exact concat_meets ⟨_, ho, rfl⟩ ⟨_, ho2, rfl⟩ noFill_tuple_add seq_tuple_add PySem.F.slot_tuple_add PySem.F.entry_tuple_add (PySem.F.args_tuple_add_2 _ _)
  (tuple_addW0 a b #[] its2.toArray n n2 dd dd2 sl sl2 rfl) ⟨ho, ho2, ⟨.ref b, H, I, rfl, q⟩⟩
def i7 : Dt -> Dt -> Option T
 | .tup [], .tup m => some (.leaf (.tup m))
 | .tup (d :: l), .tup (e :: m) => bV (.tup (d :: l)) (.tup (e :: m))
 | _, _ => none
def tz : OpR X (binaryOp .Add) (fun x y H Q => qT X.K x y H Q ∨ nW X.K x y H Q) := OpR.or tw bh
def wH {K : PySem.W.Frag} : R2D K (fun x y H Q => qT K x y H Q ∨ nW K x y H Q) i7 := by
 intro F H x y vx vy Q t fh rx ry hg k
 unfold i7 at hg
 split at hg <;> first | (cases hg; done) | skip
 · rename_i m
   cases hg
   obtain ⟨a, vs, rfl, h1, h2⟩ := rx
   obtain ⟨b, ws, rfl, h3, h4⟩ := ry
   simp only [Reps] at h2
   subst h2
   refine .inl ⟨a, b, ws, rfl, rfl, fh.tup h1, fh.tup h3, k.leaf.here fh ?_⟩
   simp only [Rep]
   exact ⟨b, ws, rfl, h3, h4⟩
 · exact .inr (b5 F H _ _ vx vy Q t fh rx ry hg k)
end
section
variable {X : Cx} {pos : Pos} {k v : Expr} {ks : List (Option Expr)} {vs : List Expr} {fk fv : De -> Option Dt} {g : De -> Option (List (Key × Dt))}
end
section
variable {X : Cx} {pins : List (Addr × Obj)} {σ : St} {H : Hp} {s : Shared} {a : Addr} {u : HO} {ob : Obj}
def Inv.frz (I : Inv X pins σ H s) (e : H a = some u) (mu : Mut (H a)) (ho : s.heap.get? a = some ob) (hu : ∀ c xs, u ≠ .ins c xs []) (hp : u ≠ .own a) (hi : ∀ C dx fs, u ≠ .ins C dx fs) : Inv X pins σ (upd H a (.frz ob u)) s := by
 have := I.write (x := a) (e := a) (o := .frz ob u) (h' := s.heap) (t' := s.toks) mu (.inl rfl) (fun _ _ _ q => q) ⟨_, ho⟩ ⟨ho, ?_⟩
 · exact this
 · refine (I.hok a u e).stay (fun b u _ q => q) (fun b q => ?_) fun b xs q => ?_
   · rw [ay (fun z => by rw [z, e] at q; cases q; exact hp rfl)]
     exact q
   · rw [ay (fun z => by rw [z] at q; rw [q] at mu; exact mu)]
     exact q
def Inv.thaw (I : Inv X pins σ H s) (e : H a = some (.frz ob u)) (hn : ∀ o w, X.H₀ a ≠ some (.frz o w)) (hu : ∀ xs, u ≠ .tup xs) (ho : ∀ y, u ≠ .own y) : Inv X pins σ (upd H a u) s := by
 have ne : ∀ {b : Addr}, H b = none -> b ≠ a := fun {b} h z => by rw [z, e] at h; cases h
 refine ⟨I.ok, I.os, I.bare, ⟨I.base.keep, I.base.slot, fun b o h1 h2 h3 => ?_, I.base.there, fun b xs h => ?_, fun b o w h => ?_, fun b ps h => ?_⟩, I.loc, I.cell, ?_, fun x c h => ?_, fun p hp => ?_, fun b o h => ?_, I.len⟩
 · have := I.base.free b o h1 h2 h3
   rw [ay (ne this)]
   exact this
 · have := I.base.tups b xs h
   rw [ay fun z => by rw [z, e] at this; cases this]
   exact this
 · have hb : b ≠ a := fun z => by rw [z] at h; exact hn o w h
   rw [ay hb]
   exact I.base.frzs b o w h
 · obtain ⟨more, hm⟩ := I.base.tbls b ps h
   exact ⟨more, by rw [ay fun z => by rw [z, e] at hm; cases hm]; exact hm⟩
 · rw [ay (ne I.free)]
   exact I.free
 · rw [ay (ne (I.freeC x c h))]
   exact I.freeC x c h
 · obtain ⟨q1, q2, q3⟩ := I.pin p hp
   exact ⟨q1, by rw [ay (ne q2)]; exact q2, q3⟩
 · have st : ∀ {b : Addr} {o : HO}, ObjOk X.prog X.w H s.heap b o -> ObjOk X.prog X.w (upd H a u) s.heap b o := fun {b o} x => x.stay (fun _ _ _ q => q) (fun c q => by
       rw [ay fun z => by rw [z, e] at q; cases q]
       exact q) fun c xs q => by
       rw [ay fun z => by rw [z, e] at q; cases q]
       exact q
   by_cases hb : b = a
   · subst hb
     rw [az] at h
     cases h
     exact st (I.hok b _ e).2
   · rw [ay hb] at h
     exact st (I.hok b o h)
end
def tB {P : Program} {w : World} {k : Key} {u : Value} (h : (aQ P w).is k u = true) : RelV (kV k) u := by
 rcases bu (show iC k u = true from h) with ⟨i, t, rfl, rfl⟩ | ⟨x, t, rfl, rfl⟩
 · exact ⟨t, rfl⟩
 · exact ⟨t, rfl⟩
noncomputable def Itk (a : Addr) (o : Obj) (kvs : List (Key × V)) : It where
 go := fun i H => H a = some (.frz o (.dK kvs)) /\ i < kvs.length
 yld := fun i H x H' => H' = H /\ ∃ p, kvs[i]? = some p /\ x = kV p.1
 stop := fun i H => H a = some (.frz o (.dK kvs)) /\ i = kvs.length
def pr {P : Program} {w : World} {K : PySem.W.Frag} {tg : Expr} {a it : Addr} {o : Obj} {kvs : List (Key × V)} {es : Array DictEntry} {ep : Nat} (hd : o.data = .dict es ep) :
  Turn P w K tg (Itk a o kvs) [it] it (fun i h => h.IsKeyIter it a i kvs.length ep) where
 mem := by simp
 obj := fun i h st b hb => by
  have e : b = it := by simpa using hb
  subst e
  obtain ⟨q, hq, hc, hdd⟩ := st
  exact ⟨q, hq, fun v z => by rw [hdd] at z; cases z⟩
 keep := fun i h h' st k => by
  obtain ⟨q, hq, r⟩ := st
  exact ⟨q, k it (by simp) _ hq, r⟩
 item := by
  intro X hP hw hK hc i pins s σ H E I hf st hg
  subst hP hw hK
  obtain ⟨f0, f1, f2, f3, f4, f5⟩ := hf it (by simp)
  obtain ⟨ho, z, y, vs, rel, o', es', ep', e1, e2, e3, e4⟩ := I.hok a _ hg.1
  rw [ho] at e1
  cases e1
  rw [hd] at e3
  cases e3
  have hl := rel.length
  have hik : i < kvs.length := hg.2
  have hiv : i < vs.length := by omega
  have hv : vs[i]? = some vs[i] := by simp [hiv]
  have st : s.heap.IsKeyIter it a i vs.length ep := by rw [<- hl]; exact st
  refine wpAny_pyNext_dict_item (knd := aQ X.prog X.w) (k := vs[i].1) (v := vs[i].2) st ⟨o, es, ho, e2, hd, e4⟩ hv fun key h' hk st' sb => ?_
  have I1 : Inv X pins σ H { s with heap := h' } := I.turned (t' := s.toks) (fun b o hb e => (sb.2 b hb).trans e) f0 f1 f3 f4 f5
  obtain ⟨q, e, c, d⟩ := id st'
  have hkk : kvs[i]? = some kvs[i] := by simp [hik]
  have hkey : kvs[i].1 = vs[i].1 := by
   have h1 : (kvs.map (·.1))[i]? = some kvs[i].1 := by rw [List.getElem?_map, hkk]; rfl
   rw [rel.keys, List.getElem?_map, hv] at h1
   exact (Option.some.inj h1).symm
  exact ⟨key, rfl, jr (s := { s with heap := h' }) e c d (by decide) ⟨kV kvs[i].1, H, I1, by rw [hkey]; exact tB hk, ⟨rfl, _, hkk, rfl⟩, by rw [hl]; exact st', fun b hb => (hf b hb).1⟩⟩
 done := by
  intro X hP hw hK hc i pins s σ H E I hf st hg
  subst hP hw hK
  obtain ⟨f0, f1, f2, f3, f4, f5⟩ := hf it (by simp)
  obtain ⟨ho, z, y, vs, rel, o', es', ep', e1, e2, e3, e4⟩ := I.hok a _ hg.1
  rw [ho] at e1
  cases e1
  rw [hd] at e3
  cases e3
  have hl := rel.length
  have st : s.heap.IsKeyIter it a i vs.length ep := by rw [<- hl]; exact st
  exact wpAny_pyNext_dict_end (knd := aQ X.prog X.w) (I.ok.hd hc) st ⟨o, es, ho, e2, hd, e4⟩ (by have h2 : i = kvs.length := hg.2; simp; omega) fun h' eb => ⟨rfl, I.turned (t' := s.toks) (fun b o hb e => eb b o hb e) f0 f1 f3 f4 f5⟩
 self := fun _ _ _ _ _ st h => wpAny_pyIter_keyiter st h
section
variable {X : Cx} {tg : Expr}
def xO (X : Cx) (td : TE) : TI := fun σ H R => td σ H fun x H1 => ∃ a kvs, x = .ref a /\ H1 a = some (.dK kvs) /\ ∀ o, (∀ o' w, X.H₀ a ≠ some (.frz o' w)) -> R (Itk a o kvs) (upd H1 a (.frz o (.dK kvs)))
def tE {d : Expr} {td : TE} (hd : PE X d td) : PI X tg d (xO X td) := by
 intro pins s σ H R I h
 refine thn (hd pins s σ H _ I h) fun v s1 ⟨x, H1, I1, r1, q1⟩ => ?_
 obtain ⟨a, kvs, e, hq, q⟩ := q1
 subst e
 cases r1
 obtain ⟨z, y, vs, rel, o, es, ep, e1, e2, e3, e4⟩ := I1.hok a _ hq
 have hat : s1.heap.DictAt (aQ X.prog X.w) a vs ep := ⟨o, es, e1, e2, e3, e4⟩
 have hl := rel.length
 refine wpAny_pyIter_dict y hat ?_
 have I2 := I1.frz hq (by rw [hq]; trivial) e1 (fun _ _ z => nomatch z) (fun z => nomatch z) (fun _ _ _ z => nomatch z)
 refine ⟨s1.heap.objs.size, [s1.heap.objs.size], _, _, upd H1 a (.frz o (.dK kvs)), rfl, I2.kept (t' := s1.toks) fun b o e => gP _ e, pr e3, ⟨_, Heap.get?_push_size _ rfl, rfl, by rw [hl]; rfl⟩, fun b hb => ?_, q o fun o' w z => by have := I1.base.frzs a o' w z; rw [hq] at this; cases this⟩
 have e : b = s1.heap.objs.size := by simpa using hb
 subst e
 exact I2.fpOk (nL _) (I2.hok.fresh (nL _))
def Thw (X : Cx) (Q : Hp -> Prop) : Hp -> Prop := fun H' => ∃ a o kvs, (∀ o' w, X.H₀ a ≠ some (.frz o' w)) /\ H' a = some (.frz o (.dK kvs)) /\ Q (upd H' a (.dK kvs))
def thwE (X : Cx) (D : Ends) : Ends := { nx := fun σ => Thw X (D.nx σ), rt := fun v => Thw X (D.rt v), bk := fun σ => Thw X (D.bk σ), ct := fun σ => Thw X (D.ct σ) }
def tF {st : Stmt} {t : TS} (h : PS X st t) : PS X st (fun D σ H => t (thwE X D) σ H) := fun pins s σ H D I hw => by
 refine thn (h pins s σ H (thwE X D) I hw) fun f s1 q => ?_
 cases f with
 | next =>
  obtain ⟨σ', H', I', a, o, kvs, hn, e, q⟩ := q
  exact ⟨σ', _, I'.thaw e hn (fun _ z => nomatch z) (fun _ z => nomatch z), q⟩
 | brk =>
  obtain ⟨σ', H', I', a, o, kvs, hn, e, q⟩ := q
  exact ⟨σ', _, I'.thaw e hn (fun _ z => nomatch z) (fun _ z => nomatch z), q⟩
 | cont =>
  obtain ⟨σ', H', I', a, o, kvs, hn, e, q⟩ := q
  exact ⟨σ', _, I'.thaw e hn (fun _ z => nomatch z) (fun _ z => nomatch z), q⟩
 | ret u =>
  obtain ⟨v, σ', H', I', r, a, o, kvs, hn, e, q⟩ := q
  exact ⟨v, σ', _, I'.thaw e hn (fun _ z => nomatch z) (fun _ z => nomatch z), r, q⟩
end
inductive CV where
 | dat (d : Dt) | ref (i : Nat)
inductive CO where
 | lst (l : List CV) | tup (l : List CV) | dK (l : List (Key × CV)) | ins (c : Str) (ns : List Str) (l : List CV) | wk (l : List (Key × CV))
abbrev CH := List CO
abbrev Sl := List (Option CV)
section
variable (K : PySem.W.Frag) (F H : Hp) (ρ : Nat -> Addr) (n : Nat)
def RelC : CV -> V -> Prop
 | .dat d, v => Rep K F d v
 | .ref i, v => i < n /\ v = .ref (ρ i)
def RelCs : List CV -> List V -> Prop
 | [], vs => vs = []
 | c :: l, vs => ∃ v ws, vs = v :: ws /\ RelC K F ρ n c v /\ RelCs l ws
noncomputable def CoOk (a : Addr) : CO -> Prop
 | .lst l => ∃ vs, H a = some (.lst vs) /\ RelCs K F ρ n l vs
 | .tup l => ∃ vs, H a = some (.tup vs) /\ RelCs K F ρ n l vs
 | .dK l => ∃ kvs, H a = some (.dK kvs) /\ kvs.map (·.1) = l.map (·.1) /\ RelCs K F ρ n (l.map (·.2)) (kvs.map (·.2))
 | .ins c ns l => ∃ C dx fs, ClsAt K c C /\ H a = some (.ins C dx fs) /\ fs.map (·.1) = ns /\ RelCs K F ρ n l (fs.map (·.2))
 | .wk l => ∃ o kvs, H a = some (.frz o (.dK kvs)) /\ kvs.map (·.1) = l.map (·.1) /\ RelCs K F ρ n (l.map (·.2)) (kvs.map (·.2))
end
section
variable {K : PySem.W.Frag} {F H F' H' F1 H1 : Hp} {ρ ρ' ρ1 : Nat -> Addr} {n n' : Nat} {c : CV} {v : V}
def RelC.mono (ff : Same F F') (he : ∀ i, i < n -> ρ' i = ρ i) (hn : n <= n') (h : RelC K F ρ n c v) : RelC K F' ρ' n' c v := by
 cases c with
 | dat d => exact Rep.same ff h
 | ref i => exact ⟨Nat.lt_of_lt_of_le h.1 hn, by rw [he i h.1]; exact h.2⟩
def RelCs.mono (ff : Same F F') (he : ∀ i, i < n -> ρ' i = ρ i) (hn : n <= n') : ∀ {l : List CV} {vs : List V}, RelCs K F ρ n l vs -> RelCs K F' ρ' n' l vs
 | [], _, h => h
 | c :: l, vs, h => by
  obtain ⟨v, ws, e, h1, h2⟩ := h
  exact ⟨v, ws, e, h1.mono ff he hn, RelCs.mono ff he hn h2⟩
def RelCs.length : ∀ {l : List CV} {vs : List V}, RelCs K F ρ n l vs -> vs.length = l.length
 | [], _, h => by rw [show _ = [] from h]; rfl
 | c :: l, vs, h => by
  obtain ⟨v, ws, rfl, h1, h2⟩ := h
  simp [RelCs.length h2]
def RelCs.get : ∀ {l : List CV} {vs : List V} {i : Nat} {c : CV}, RelCs K F ρ n l vs -> l[i]? = some c -> ∃ v, vs[i]? = some v /\ RelC K F ρ n c v
 | [], _, _, _, _, e => by simp at e
 | c :: l, vs, 0, c', h, e => by
  obtain ⟨v, ws, rfl, h1, h2⟩ := h
  simp at e
  subst e
  exact ⟨v, rfl, h1⟩
 | c :: l, vs, i + 1, c', h, e => by
  obtain ⟨v, ws, rfl, h1, h2⟩ := h
  obtain ⟨u, q1, q2⟩ := RelCs.get (i := i) h2 (by simpa using e)
  exact ⟨u, by simpa using q1, q2⟩
def RelCs.set {c : CV} {v : V} (r : RelC K F ρ n c v) : ∀ {l : List CV} {vs : List V} (i : Nat), RelCs K F ρ n l vs -> RelCs K F ρ n (l.set i c) (vs.set i v)
 | [], vs, i, h => by rw [show vs = [] from h]; rfl
 | x :: l, vs, 0, h => by
  obtain ⟨u, ws, rfl, h1, h2⟩ := h
  exact ⟨v, ws, rfl, r, h2⟩
 | x :: l, vs, i + 1, h => by
  obtain ⟨u, ws, rfl, h1, h2⟩ := h
  exact ⟨u, ws.set i v, rfl, h1, RelCs.set r i h2⟩
def RelCs.append : ∀ {l m : List CV} {vs ws : List V}, RelCs K F ρ n l vs -> RelCs K F ρ n m ws -> RelCs K F ρ n (l ++ m) (vs ++ ws)
 | [], m, vs, ws, h, h' => by rw [show vs = [] from h]; exact h'
 | x :: l, m, vs, ws, h, h' => by
  obtain ⟨u, us, rfl, h1, h2⟩ := h
  exact ⟨u, us ++ ws, rfl, h1, RelCs.append h2 h'⟩
def RelCs.one {c : CV} {v : V} (r : RelC K F ρ n c v) : RelCs K F ρ n [c] [v] := ⟨v, [], rfl, r, rfl⟩
def RelCs.dats : ∀ {l : List Dt} {vs : List V}, Reps K F l vs -> RelCs K F ρ n (l.map .dat) vs
 | [], vs, h => by simp only [Reps] at h; exact h
 | d :: l, vs, h => by
  simp only [Reps] at h
  obtain ⟨v, ws, e, h1, h2⟩ := h
  exact ⟨v, ws, e, h1, RelCs.dats h2⟩
def CoOk.mono {a : Addr} {o : CO} (ff : Same F F') (he : ∀ i, i < n -> ρ' i = ρ i) (hn : n <= n') (ha : ∀ u, H a = some u -> H' a = some u) (h : CoOk K F H ρ n a o) : CoOk K F' H' ρ' n' a o := by
 cases o with
 | lst l => obtain ⟨vs, h1, h2⟩ := h; exact ⟨vs, ha _ h1, h2.mono ff he hn⟩
 | tup l => obtain ⟨vs, h1, h2⟩ := h; exact ⟨vs, ha _ h1, h2.mono ff he hn⟩
 | dK l => obtain ⟨vs, h1, h2, h3⟩ := h; exact ⟨vs, ha _ h1, h2, h3.mono ff he hn⟩
 | ins c ns l => obtain ⟨C, dx, fs, h0, h1, h2, h3⟩ := h; exact ⟨C, dx, fs, h0, ha _ h1, h2, h3.mono ff he hn⟩
 | wk l => obtain ⟨o, vs, h1, h2, h3⟩ := h; exact ⟨o, vs, ha _ h1, h2, h3.mono ff he hn⟩
def CoOk.there {a : Addr} {o : CO} (h : CoOk K F H ρ n a o) : ∃ u, H a = some u := by
 cases o with
 | lst l => obtain ⟨vs, h1, h2⟩ := h; exact ⟨_, h1⟩
 | tup l => obtain ⟨vs, h1, h2⟩ := h; exact ⟨_, h1⟩
 | dK l => obtain ⟨vs, h1, h2⟩ := h; exact ⟨_, h1⟩
 | ins c ns l => obtain ⟨C, dx, fs, h0, h1, h2⟩ := h; exact ⟨_, h1⟩
 | wk l => obtain ⟨o, vs, h1, h2⟩ := h; exact ⟨_, h1⟩
end
structure Gh (K : PySem.W.Frag) (F H : Hp) (ρ : Nat -> Addr) (ch : CH) : Prop where
 fh : Same F H
 inj : ∀ i j, i < ch.length -> j < ch.length -> ρ i = ρ j -> i = j
 out : ∀ i, i < ch.length -> F (ρ i) = none
 ok : ∀ i o, ch[i]? = some o -> CoOk K F H ρ ch.length (ρ i) o
structure Adv (K : PySem.W.Frag) (F H : Hp) (ρ : Nat -> Addr) (ch : CH) (F' H' : Hp) (ρ' : Nat -> Addr) (ch' : CH) : Prop where
 gh : Gh K F' H' ρ' ch'
 len : ch.length <= ch'.length
 ext : ∀ i, i < ch.length -> ρ' i = ρ i
 fr : ∀ i, ch.length <= i -> i < ch'.length -> H (ρ' i) = none
 prot : ∀ b o, H b = some o -> (∀ i, i < ch.length -> ρ i ≠ b) -> H' b = some o
 old : Same F F'
 nw : ∀ b o, F' b = some o -> F b = some o ∨ H b = none
 fz : ∀ b o u, H b = some (.frz o u) -> H' b = some (.frz o u)
section
variable {K : PySem.W.Frag} {F H F' H' F1 H1 : Hp} {ρ ρ' ρ1 : Nat -> Addr} {ch ch' ch1 : CH} {c : CV} {v : V}
def Gh.at (g : Gh K F H ρ ch) {i : Nat} (hi : i < ch.length) : ∃ u, H (ρ i) = some u := (g.ok i ch[i] (by simp [hi])).there
def Adv.refl (g : Gh K F H ρ ch) : Adv K F H ρ ch F H ρ ch := ⟨g, nL _, fun _ _ => rfl, fun i h1 h2 => absurd h2 (Nat.not_lt.mpr h1), fun _ _ h _ => h, Same.refl _, fun _ _ h => .inl h, fun _ _ _ h => h⟩
def Adv.back (g : Gh K F H ρ ch) (a : Adv K F H ρ ch F1 H1 ρ1 ch1) {b : Addr} (h : H1 b = none) : H b = none := by
 cases q : H b with
 | none => rfl
 | some o =>
  by_cases z : ∃ i, i < ch.length /\ ρ i = b
  · obtain ⟨i, hi, rfl⟩ := z
    obtain ⟨u, hu⟩ := a.gh.at (Nat.lt_of_lt_of_le hi a.len)
    rw [a.ext i hi, h] at hu
    cases hu
  · rw [a.prot b o q fun i hi e => z ⟨i, hi, e⟩] at h
    cases h
def Adv.trans (g : Gh K F H ρ ch) (a : Adv K F H ρ ch F1 H1 ρ1 ch1) (b : Adv K F1 H1 ρ1 ch1 F' H' ρ' ch') : Adv K F H ρ ch F' H' ρ' ch' where
 gh := b.gh
 len := Nat.le_trans a.len b.len
 ext := fun i hi => (b.ext i (Nat.lt_of_lt_of_le hi a.len)).trans (a.ext i hi)
 fr := fun i h1 h2 => by
  by_cases hi : i < ch1.length
  · rw [b.ext i hi]
    exact a.fr i h1 hi
  · exact a.back g (b.fr i (Nat.not_lt.mp hi) h2)
 prot := fun x o h1 h2 => b.prot x o (a.prot x o h1 h2) fun i hi e => by
  by_cases hj : i < ch.length
  · rw [a.ext i hj] at e
    exact h2 i hj e
  · have := a.fr i (Nat.not_lt.mp hj) hi
    rw [e, h1] at this
    cases this
 old := a.old.trans b.old
 nw := fun x o h => (b.nw x o h).elim (a.nw x o) fun z => .inr (a.back g z)
 fz := fun x o u h => b.fz x o u (a.fz x o u h)
def Gh.of (g : Gh K F H ρ ch) (st : Step F H F' H') : Gh K F' H' ρ ch := by
 refine ⟨st.fh, g.inj, fun i hi => ?_, fun i o h => (g.ok i o h).mono st.ff (fun _ _ => rfl) (nL _) fun u hu => st.hh _ _ hu⟩
 cases q : F' (ρ i) with
 | none => rfl
 | some o =>
  rcases st.nw _ _ q with z | z
  · rw [g.out i hi] at z; cases z
  · obtain ⟨u, hu⟩ := g.at hi
    rw [hu] at z; cases z
def Adv.of (g : Gh K F H ρ ch) (st : Step F H F' H') : Adv K F H ρ ch F' H' ρ ch :=
 ⟨g.of st, nL _, fun _ _ => rfl, fun i h1 h2 => absurd h2 (Nat.not_lt.mpr h1), fun b o h _ => st.hh b o h, st.ff, st.nw, fun b o u h => st.hh b _ h⟩
def Adv.upd (g : Gh K F H ρ ch) {i : Nat} {o : CO} {u w : HO} (hi : i < ch.length) (hw : H (ρ i) = some w) (hz : ∀ x y, w ≠ .frz x y) (ho : CoOk K F (upd H (ρ i) u) ρ ch.length (ρ i) o) : Adv K F H ρ ch F (upd H (ρ i) u) ρ (ch.set i o) where
 gh := ⟨fun b x e => by
     have : b ≠ ρ i := fun q => by rw [q, g.out i hi] at e; cases e
     rw [ay this]
     exact g.fh b x e, fun j k hj hk => g.inj j k (by simpa using hj) (by simpa using hk), fun j hj => g.out j (by simpa using hj), fun j x hx => by
     rw [List.length_set]
     rw [List.getElem?_set] at hx
     split at hx
     · rename_i q
       subst q
       first
        | (split at hx <;> first | (cases hx; exact ho) | cases hx)
        | (cases hx; exact ho)
     · rename_i q
       refine (g.ok j x hx).mono (Same.refl _) (fun _ _ => rfl) (nL _) fun y hy => ?_
       have hj : j < ch.length := (gX hx).1
       rw [ay fun e => q (g.inj j i hj hi e).symm]
       exact hy⟩
 len := by simp
 ext := fun _ _ => rfl
 fr := fun j h1 h2 => absurd h2 (by simpa using h1)
 prot := fun b x h1 h2 => by
  rw [ay fun e => h2 i hi e.symm]
  exact h1
 old := Same.refl _
 nw := fun b x h => .inl h
 fz := fun b x y h => by
  rw [ay fun e => by rw [e, hw] at h; exact hz x y (Option.some.inj h)]
  exact h
def Adv.new (g : Gh K F H ρ ch) (st : Step F H F' H') {a : Addr} {o : CO} (ha : H a = none) (hf : F' a = none) (ho : CoOk K F' H' (fun i => if i = ch.length then a else ρ i) (ch.length + 1) a o) :
  Adv K F H ρ ch F' H' (fun i => if i = ch.length then a else ρ i) (ch ++ [o]) := by
 have g' := (Adv.of g st).gh
 have lt : ∀ {i : Nat}, i < ch.length -> (if i = ch.length then a else ρ i) = ρ i := fun {i} hi => if_neg (Nat.ne_of_lt hi)
 have ne : ∀ {i : Nat}, i < ch.length -> ρ i ≠ a := fun {i} hi e => by
  obtain ⟨u, hu⟩ := g.at hi
  rw [e, ha] at hu
  cases hu
 refine ⟨⟨st.fh, fun i j hi hj e => ?_, fun i hi => ?_, fun i x hx => ?_⟩, by simp, fun i hi => lt hi, fun i h1 h2 => ?_, fun b x h1 _ => st.hh b x h1, st.ff, st.nw, fun b o u h => st.hh b _ h⟩
 · simp only [List.length_append, List.length_cons, List.length_nil] at hi hj
   by_cases h1 : i = ch.length <;> by_cases h2 : j = ch.length
   · rw [h1, h2]
   · rw [if_pos h1, if_neg h2] at e
     exact absurd e.symm (ne (by omega))
   · rw [if_neg h1, if_pos h2] at e
     exact absurd e (ne (by omega))
   · rw [if_neg h1, if_neg h2] at e
     exact g.inj i j (by omega) (by omega) e
 · simp only [List.length_append, List.length_cons, List.length_nil] at hi
   (try dsimp only)
   by_cases h1 : i = ch.length
   · rw [if_pos h1]; exact hf
   · rw [if_neg h1]; exact g'.out i (by omega)
 · simp only [List.length_append, List.length_cons, List.length_nil]
   by_cases h1 : i < ch.length
   · rw [gL h1] at hx
     (try dsimp only)
     rw [lt h1]
     exact (g'.ok i x hx).mono (Same.refl _) (fun j hj => lt hj) (Nat.le_succ _) fun u hu => hu
   · rw [gR (Nat.not_lt.mp h1)] at hx
     have h2 : i = ch.length := by
      have := (gX hx).1
      simp at this
      omega
     subst h2
     simp at hx
     subst hx
     (try dsimp only)
     rw [if_pos rfl]
     exact ho
 · simp only [List.length_append, List.length_cons, List.length_nil] at h2
   have h3 : i = ch.length := by omega
   (try dsimp only)
   rw [if_pos h3]
   exact ha
end
structure Ge (K : PySem.W.Frag) (δ : Sl) (ch : CH) (σ : St) (F H : Hp) (ρ : Nat -> Addr) : Prop where
 gh : Gh K F H ρ ch
 len : δ.length = σ.length
 has : ∀ (i : Nat) (c : CV), δ[i]? = some (some c) -> ∃ v, σ[i]? = some (some v) /\ RelC K F ρ ch.length c v
def KG (K : PySem.W.Frag) (F H : Hp) (ρ : Nat -> Addr) (ch : CH) (c : CV) (ch' : CH) (Q : VK) : Prop := ∀ v F' H' ρ', Adv K F H ρ ch F' H' ρ' ch' -> RelC K F' ρ' ch'.length c v -> Q v H'
abbrev Fg := Sl -> CH -> Option (CV × CH)
def tG (K : PySem.W.Frag) (f : Fg) : TE := fun σ H Q => ∃ δ ch F ρ c ch', Ge K δ ch σ F H ρ /\ f δ ch = some (c, ch') /\ KG K F H ρ ch c ch' Q
def GE (X : Cx) (e : Expr) (f : Fg) : Prop := PE X e (tG X.K f)
def dats : List CV -> Option (List Dt)
 | [] => some []
 | .dat d :: l => (dats l).map (d :: ·)
 | _ => none
def cW {K : PySem.W.Frag} {F : Hp} {ρ : Nat -> Addr} {n : Nat} : ∀ {l : List CV} {ds : List Dt} {vs : List V}, dats l = some ds -> RelCs K F ρ n l vs -> Reps K F ds vs
 | [], ds, vs, h, r => by cases h; simp only [Reps]; exact r
 | .dat d :: l, ds, vs, h, r => by
  simp only [dats] at h
  obtain ⟨es, he, rfl⟩ := mS h
  obtain ⟨v, ws, e, h1, h2⟩ := r
  simp only [Reps]
  exact ⟨v, ws, e, h1, cW he h2⟩
 | .ref i :: l, ds, vs, h, r => by cases h
def tvO : CO -> Option T
 | .lst l => (dats l).map .lst
 | .dK l => (dats (l.map (·.2))).map fun ds => .dct ((l.map (·.1)).zip ds)
 | _ => none
def loA (ch : CH) : List Nat -> Sl -> De
 | _, [] => []
 | u, none :: r => none :: loA ch u r
 | u, some (.dat d) :: r => some (.leaf d) :: loA ch u r
 | u, some (.ref i) :: r => (if i ∈ u then none else (ch[i]?).bind tvO) :: loA ch (i :: u) r
def lo (δ : Sl) (ch : CH) : De := loA ch [] δ
section
variable {K : PySem.W.Frag} {F H F' H' F1 H1 : Hp} {ρ ρ' ρ1 : Nat -> Addr} {δ : Sl} {σ : St} {ch ch' ch1 ch2 : CH} {c : CV} {v : V} {Q : VK}
def Ge.adv (e : Ge K δ ch σ F H ρ) (a : Adv K F H ρ ch F' H' ρ' ch') : Ge K δ ch' σ F' H' ρ' := ⟨a.gh, e.len, fun i c h => by
 obtain ⟨v, h1, h2⟩ := e.has i c h
 exact ⟨v, h1, h2.mono a.old a.ext a.len⟩⟩
def KG.adv (k : KG K F H ρ ch c ch' Q) (g : Gh K F H ρ ch) (a : Adv K F H ρ ch F1 H1 ρ1 ch1) : KG K F1 H1 ρ1 ch1 c ch' Q := fun v F' H' ρ' b r => k v F' H' ρ' (a.trans g b) r
def fL (ch : CH) : ∀ (u : List Nat) (δ : Sl), (loA ch u δ).length = δ.length
 | _, [] => rfl
 | u, none :: r => by simp [loA, fL ch u r]
 | u, some (.dat d) :: r => by simp [loA, fL ch u r]
 | u, some (.ref i) :: r => by simp [loA, fL ch (i :: u) r]
def gv {ch : CH} : ∀ {u : List Nat} {δ : Sl} {j : Nat} {t : T}, (loA ch u δ)[j]? = some (some t) -> (∃ d, t = .leaf d /\ δ[j]? = some (some (.dat d))) ∨ ∃ i o, δ[j]? = some (some (.ref i)) /\ ch[i]? = some o /\ tvO o = some t /\ i ∉ u /\ ∀ m, m < j -> δ[m]? ≠ some (some (.ref i))
 | _, [], j, t, h => by simp [loA] at h
 | u, none :: r, 0, t, h => by simp [loA] at h
 | u, none :: r, j + 1, t, h => by
  rcases gv (u := u) (δ := r) (j := j) (t := t) (by simpa [loA] using h) with ⟨d, e, q⟩ | ⟨i, o, q1, q2, q3, q4, q5⟩
  · exact .inl ⟨d, e, by simpa using q⟩
  · refine .inr ⟨i, o, by simpa using q1, q2, q3, q4, fun m hm => ?_⟩
    cases m with
    | zero => simp
    | succ m => simpa using q5 m (by omega)
 | u, some (.dat d) :: r, 0, t, h => by
  simp [loA] at h
  exact .inl ⟨d, h.symm, rfl⟩
 | u, some (.dat d) :: r, j + 1, t, h => by
  rcases gv (u := u) (δ := r) (j := j) (t := t) (by simpa [loA] using h) with ⟨d', e, q⟩ | ⟨i, o, q1, q2, q3, q4, q5⟩
  · exact .inl ⟨d', e, by simpa using q⟩
  · refine .inr ⟨i, o, by simpa using q1, q2, q3, q4, fun m hm => ?_⟩
    cases m with
    | zero => simp
    | succ m => simpa using q5 m (by omega)
 | u, some (.ref i) :: r, 0, t, h => by
  simp only [loA, List.getElem?_cons_zero, Option.some.injEq] at h
  split at h
  · cases h
  · rename_i hi
    obtain ⟨o, ho, h⟩ := bS h
    exact .inr ⟨i, o, rfl, ho, h, hi, fun m hm => absurd hm (Nat.not_lt_zero _)⟩
 | u, some (.ref i) :: r, j + 1, t, h => by
  rcases gv (u := i :: u) (δ := r) (j := j) (t := t) (by simpa [loA] using h) with ⟨d, e, q⟩ | ⟨i', o, q1, q2, q3, q4, q5⟩
  · exact .inl ⟨d, e, by simpa using q⟩
  · simp only [List.mem_cons, not_or] at q4
    refine .inr ⟨i', o, by simpa using q1, q2, q3, q4.2, fun m hm => ?_⟩
    cases m with
    | zero =>
     simp only [List.getElem?_cons_zero, ne_eq, Option.some.injEq, CV.ref.injEq]
     exact fun z => q4.1 z.symm
    | succ m => simpa using q5 m (by omega)
def n9 {α β : Type} : ∀ {l : List α} {m : List β}, l.length = m.length -> (l.zip m).map (·.1) = l /\ (l.zip m).map (·.2) = m
 | [], [], _ => ⟨rfl, rfl⟩
 | [], _ :: _, h => by cases h
 | _ :: _, [], h => by cases h
 | a :: l, b :: m, h => by
  obtain ⟨h1, h2⟩ := n9 (l := l) (m := m) (by simpa using h)
  simp [h1, h2]
def tH {o : CO} {t : T} {n : Nat} {a : Addr} {S : Addr -> Prop} (h : tvO o = some t) (ok : CoOk K F H ρ n a o) (hs : S a) : Own K F H t (.ref a) S := by
 cases o with
 | lst l =>
  obtain ⟨ds, hd, rfl⟩ := mS h
  obtain ⟨vs, h1, h2⟩ := ok
  exact ⟨a, vs, rfl, hs, h1, cW hd h2⟩
 | dK l =>
  obtain ⟨ds, hd, rfl⟩ := mS h
  obtain ⟨vs, h1, h2, h3⟩ := ok
  have r := cW hd h3
  have e : (l.map (·.1)).length = ds.length := by
   have e1 := congrArg List.length h2
   have e2 := r.length
   simp only [List.length_map] at e1 e2 ⊢
   omega
  obtain ⟨z1, z2⟩ := n9 e
  exact ⟨a, vs, rfl, hs, h1, by rw [z1]; exact h2, by rw [z2]; exact r⟩
 | tup l => cases h
 | ins c ns l => cases h
 | wk l => cases h
def Ge.en (e : Ge K δ ch σ F H ρ) : En ⟨K, F, H, fun b => ∃ i, i < ch.length /\ ρ i = b⟩ (lo δ ch) σ F H := by
 refine ⟨e.gh.fh, fun b o h _ => h, Same.refl _, fun b o h => .inl h, by simp [lo, fL, e.len], fun j t h => ?_, fun j b => ∃ i o, δ[j]? = some (some (.ref i)) /\ ch[i]? = some o /\ ρ i = b /\ ∀ m, m < j -> δ[m]? ≠ some (some (.ref i)), fun j t v h => ?_, fun j b z => ?_, fun j k b z1 z2 => ?_⟩
 · rcases gv h with ⟨d, _, q⟩ | ⟨i, o, q, _⟩
   · obtain ⟨v, hv, _⟩ := e.has j _ q
     exact ⟨v, hv⟩
   · obtain ⟨v, hv, _⟩ := e.has j _ q
     exact ⟨v, hv⟩
 · obtain ⟨h1, h2⟩ := eI h
   rcases gv h1 with ⟨d, rfl, q⟩ | ⟨i, o, q1, q2, q3, q4, q5⟩
   · obtain ⟨w, hw, r⟩ := e.has j _ q
     rw [h2] at hw
     cases hw
     exact r
   · obtain ⟨w, hw, r⟩ := e.has j _ q1
     rw [h2] at hw
     cases hw
     obtain ⟨hi, rfl⟩ := r
     exact tH q3 (e.gh.ok i o q2) ⟨i, o, q1, q2, rfl, q5⟩
 · obtain ⟨i, o, q1, q2, rfl, q3⟩ := z
   have hi : i < ch.length := (gX q2).1
   exact ⟨e.gh.out i hi, e.gh.at hi, .inr ⟨i, hi, rfl⟩⟩
 · obtain ⟨i, o, q1, q2, e1, q3⟩ := z1
   obtain ⟨i', o', q1', q2', e2, q3'⟩ := z2
   have hi : i < ch.length := (gX q2).1
   have hi' : i' < ch.length := (gX q2').1
   have := e.gh.inj i i' hi hi' (e1.trans e2.symm)
   subst this
   by_cases h1 : j < k
   · exact absurd q1 (q3' j h1)
   · by_cases h2 : k < j
     · exact absurd q1' (q3 k h2)
     · exact Nat.le_antisymm (Nat.not_lt.mp h2) (Nat.not_lt.mp h1)
end
section
variable {X : Cx} {e a b o : Expr} {f fa fb : Fg} {fd : De -> Option Dt} {ft : De -> Option T} {pos : Pos} {i : Nat}
def eD (fd : De -> Option Dt) : Fg := fun δ ch => (fd (lo δ ch)).map fun d => (.dat d, ch)
def ag (h : DL X e fd) : GE X e (eD fd) := PE.mono h fun σ H Q ⟨δ, ch, F, ρ, c, ch', en, hf, k⟩ => by
 unfold eD at hf
 obtain ⟨d, hd, hf⟩ := mS hf
 cases hf
 exact ⟨_, _, F, d, rfl, en.en, hd, fun v H' F' st r => k v F' H' ρ (Adv.of en.gh st) r⟩
def al (ch : CH) : T -> Option (CV × CH)
 | .leaf d => some (.dat d, ch)
 | .lst l => some (.ref ch.length, ch ++ [.lst (l.map .dat)])
 | .dct l => some (.ref ch.length, ch ++ [.dK (l.map fun p => (p.1, .dat p.2))])
 | _ => none
def lE {K : PySem.W.Frag} {F H : Hp} {ρ : Nat -> Addr} {ch ch' : CH} {c : CV} {t : T} {Q : VK} (g : Gh K F H ρ ch) (h : al ch t = some (c, ch')) (k : KG K F H ρ ch c ch' Q) : KO K F H t Q := fun v H' F' S st o hs => by
 cases t with
 | leaf d =>
  cases h
  exact k v F' H' ρ (Adv.of g st) o
 | lst l =>
  cases h
  obtain ⟨x, vs, rfl, sa, h1, h2⟩ := o
  obtain ⟨q1, q2, _⟩ := hs x sa
  refine k _ F' H' _ (Adv.new g st q2 q1 ⟨vs, h1, RelCs.dats h2⟩) ⟨by simp, ?_⟩
  dsimp only
  rw [if_pos rfl]
 | dct l =>
  cases h
  obtain ⟨x, vs, rfl, sa, h1, h2, h3⟩ := o
  obtain ⟨q1, q2, _⟩ := hs x sa
  refine k _ F' H' _ (Adv.new g st q2 q1 ⟨vs, h1, by rw [h2]; simp, ?_⟩) ⟨by simp, ?_⟩
  · have := RelCs.dats (ρ := fun i => if i = ch.length then x else ρ i) (n := ch.length + 1) h3
    rw [List.map_map] at this
    rw [List.map_map]
    exact this
  · dsimp only
    rw [if_pos rfl]
 | dcT l => cases h
 | obj c ns l => cases h
 | pin a t => cases h
def eN (ft : De -> Option T) : Fg := fun δ ch => (ft (lo δ ch)).bind (al ch)
def b9 (h : DO X e ft) : GE X e (eN ft) := PE.mono h fun σ H Q ⟨δ, ch, F, ρ, c, ch', en, hf, k⟩ => by
 unfold eN at hf
 obtain ⟨t, ht, hf⟩ := bS hf
 exact ⟨_, _, F, t, rfl, en.en, ht, lE en.gh hf k⟩
def eV (i : Nat) : Fg := fun δ ch => match δ[i]? with
 | some (some c) => some (c, ch)
 | _ => none
def aj (h : PE X e (oO i)) : GE X e (eV i) := PE.mono h fun σ H Q ⟨δ, ch, F, ρ, c, ch', en, hf, k⟩ => by
 unfold eV at hf
 split at hf <;> cases hf
 rename_i c q
 obtain ⟨v, h1, h2⟩ := en.has i _ q
 exact ⟨v, h1, k v F H ρ (Adv.refl en.gh) h2⟩
end
def vwO : CO -> Option Dt
 | .lst l => (dats l).map .lst
 | .dK l => (dats (l.map (·.2))).map (.dct (l.map (·.1)))
 | .wk l => (dats (l.map (·.2))).map (.dct (l.map (·.1)))
 | _ => none
def vw (ch : CH) : CV -> Option Dt
 | .dat d => some d
 | .ref i => (ch[i]?).bind vwO
section
variable {K : PySem.W.Frag} {F H F' H' F1 H1 : Hp} {ρ ρ' ρ1 : Nat -> Addr} {n : Nat} {δ : Sl} {σ : St} {ch ch' ch1 ch2 : CH} {c : CV} {v : V} {Q : VK} {d : Dt}
def fM (g : Gh K F H ρ ch) (r : RelC K F ρ ch.length c v) (h : vw ch c = some d) : RepB K F H d v := by
 cases c with
 | dat e => cases h; exact RepB.of g.fh r
 | ref i =>
  obtain ⟨hi, rfl⟩ := r
  simp only [vw] at h
  obtain ⟨o, ho, h⟩ := bS h
  have ok := g.ok i o ho
  cases o with
  | lst l =>
   obtain ⟨ds, hd, rfl⟩ := mS h
   obtain ⟨vs, h1, h2⟩ := ok
   exact ⟨_, vs, rfl, SqL.of h1, cW hd h2⟩
  | dK l =>
   obtain ⟨ds, hd, rfl⟩ := mS h
   obtain ⟨vs, h1, h2, h3⟩ := ok
   exact ⟨_, vs, rfl, .inl h1, h2, cW hd h3⟩
  | wk l =>
   obtain ⟨ds, hd, rfl⟩ := mS h
   obtain ⟨o, vs, h1, h2, h3⟩ := ok
   exact ⟨_, vs, rfl, .inr ⟨o, h1⟩, h2, cW hd h3⟩
  | tup l => cases h
  | ins c ns l => cases h
end
section
variable {X : Cx} {e a b o : Expr} {es : List Expr} {f fa fb fc : Fg} {fd : De -> Option Dt} {ft : De -> Option T} {pos apos cpos p : Pos} {i : Nat} {σ : St} {H : Hp} {Q : VK} {K : PySem.W.Frag}
def e2 (g : Dt -> Dt -> Option T) (fa fb : Fg) : Fg := fun δ ch => (fa δ ch).bind fun p => (fb δ p.2).bind fun q => (vw q.2 p.1).bind fun x => (vw q.2 q.1).bind fun y => (g x y).bind (al q.2)
def qU {r : R2} {g : Dt -> Dt -> Option T} (hr : R2D K r g) (h : tG K (e2 g fa fb) σ H Q) : tOp r (tG K fa) (tG K fb) σ H Q := by
 obtain ⟨δ, ch, F, ρ, c, ch', en, hf, k⟩ := h
 unfold e2 at hf
 obtain ⟨p, hp, hf⟩ := bS hf
 obtain ⟨q, hq, hf⟩ := bS hf
 obtain ⟨x, hx, hf⟩ := bS hf
 obtain ⟨y, hy, hf⟩ := bS hf
 obtain ⟨t, ht, hf⟩ := bS hf
 refine ⟨δ, ch, F, ρ, p.1, p.2, en, hp, fun v F1 H1 ρ1 a1 r1 => ⟨δ, p.2, F1, ρ1, q.1, q.2, en.adv a1, hq, fun w F2 H2 ρ2 a2 r2 => ?_⟩⟩
 exact hr F2 H2 x y v w Q t a2.gh.fh (fM a2.gh (r1.mono a2.old a2.ext a2.len) hx) (fM a2.gh r2 hy) ht (lE a2.gh hf (k.adv en.gh (a1.trans en.gh a2)))
def gZ {op : Operator} {r : R2} {g : Dt -> Dt -> Option T} (ho : OpR X (binaryOp op) r) (hr : R2D X.K r g) (ha : GE X a fa) (hb : GE X b fb) : GE X (.BinOp a op b pos) (e2 g fa fb) := PE.mono (pN ho ha hb) fun _ _ _ h => qU hr h
abbrev Ft := Sl -> CH -> Option (Bool × CH)
def tGT (K : PySem.W.Frag) (f : Ft) : TT := fun σ H Q => ∃ δ ch F ρ b ch', Ge K δ ch σ F H ρ /\ f δ ch = some (b, ch') /\ ∀ F' H' ρ', Adv K F H ρ ch F' H' ρ' ch' -> Q b H'
def GT (X : Cx) (e : Expr) (f : Ft) : Prop := PT X e (tGT X.K f)
def tD (ft : De -> Option Bool) : Ft := fun δ ch => (ft (lo δ ch)).map fun b => (b, ch)
def bL {ft : De -> Option Bool} (h : DT X e ft) : GT X e (tD ft) := PT.mono h fun σ H Q ⟨δ, ch, F, ρ, b, ch', en, hf, k⟩ => by
 unfold tD at hf
 obtain ⟨x, hx, hf⟩ := mS hf
 cases hf
 exact ⟨_, _, F, _, rfl, en.en, hx, fun H' F' st => k F' H' ρ (Adv.of en.gh st)⟩
def i8 (f : Fg) : Ft := fun δ ch => (f δ ch).bind fun p => match p.1 with
 | .dat (.bl b) => some (b, p.2)
 | _ => none
def tI {f : Fg} {Q : Bool -> Hp -> Prop} (h : tGT K (i8 f) σ H Q) : tG K f σ H fun x H' => ∃ k, x = .bl k /\ Q k H' := by
 obtain ⟨δ, ch, F, ρ, b, ch', en, hf, k⟩ := h
 unfold i8 at hf
 obtain ⟨p, hp, hf⟩ := bS hf
 obtain ⟨c, ch1⟩ := p
 dsimp only at hf
 split at hf <;> cases hf
 refine ⟨δ, ch, F, ρ, _, _, en, hp, fun v F' H' ρ' a r => ⟨b, ?_, k F' H' ρ' a⟩⟩
 have r : Rep K F' (.bl b) v := r
 simp only [Rep] at r
 exact r
def mT {op : CmpOp} {r : R2} {g : Dt -> Dt -> Option T} (ho : OpR X (compareOp op) r) (hr : R2D X.K r g) (ha : GE X a fa) (hb : GE X b fb) (hm : behindInMarks op b = false) : GT X (.Compare a [op] [b] pos) (i8 (e2 g fa fb)) :=
 PT.mono (nq ho ha hb hm) fun _ _ _ h => qU hr (tI h)
def lkC {κ : Type} [DecidableEq κ] (l : List (κ × CV)) (k : κ) : Option CV := (l.find? fun p => decide (p.1 = k)).map (·.2)
def iy {κ : Type} [DecidableEq κ] {F : Hp} {ρ : Nat -> Addr} {n : Nat} {k : κ} : ∀ {l : List (κ × CV)} {kvs : List (κ × V)}, kvs.map (·.1) = l.map (·.1) -> RelCs K F ρ n (l.map (·.2)) (kvs.map (·.2)) →
  match lkC l k with | some c => ∃ v, dE kvs k = some v /\ RelC K F ρ n c v | none => dE kvs k = none
 | [], [], _, _ => rfl
 | [], p :: kvs, h, _ => by cases h
 | p :: l, [], h, _ => by cases h
 | p :: l, q :: kvs, h, r => by
  simp only [List.map_cons, List.cons.injEq] at h
  obtain ⟨v, ws, e, r1, r2⟩ := r
  simp only [List.map_cons, List.cons.injEq] at e
  obtain ⟨rfl, rfl⟩ := e
  have ih := iy (k := k) h.2 r2
  by_cases hk : p.1 = k
  · have e1 : lkC (p :: l) k = some p.2 := by simp [lkC, hk]
    rw [e1]
    exact ⟨q.2, d9 (h.1.trans hk), r1⟩
  · have e1 : lkC (p :: l) k = lkC l k := by simp [lkC, hk]
    rw [e1, ef (by rw [h.1]; exact hk)]
    exact ih
def ixO (o : CO) (d : Dt) : Option CV := match o with
 | .lst l => (asI d).bind (atI l)
 | .tup l => (asI d).bind (atI l)
 | .dK l => (dU d).bind (lkC l)
 | .wk l => (dU d).bind (lkC l)
 | _ => none
def kl {F : Hp} {d : Dt} {v : V} {j : Int} (h : asI d = some j) (r : Rep K F d v) : v = .int j := by
 unfold asI at h
 split at h <;> cases h
 simp only [Rep] at r
 exact r
def dh {F : Hp} {d : Dt} {v : V} {j : Key} (h : dU d = some j) (r : Rep K F d v) : v = kV j := by
 unfold dU at h
 split at h <;> cases h <;> (simp only [Rep] at r; exact r)
def oe {F : Hp} {ρ : Nat -> Addr} {n : Nat} {l : List CV} {vs : List V} {j : Int} {c : CV} (r : RelCs K F ρ n l vs) (h : atI l j = some c) : ∃ v, atI vs j = some v /\ RelC K F ρ n c v := by
 unfold atI at h ⊢
 obtain ⟨m, hm, h⟩ := bS h
 obtain ⟨v, h1, h2⟩ := r.get h
 exact ⟨v, by rw [r.length, hm]; exact h1, h2⟩
def eIx (fa fb : Fg) : Fg := fun δ ch => (fa δ ch).bind fun p => (fb δ p.2).bind fun q => match p.1, q.1 with
 | .ref i, .dat d => ((q.2[i]?).bind fun o => ixO o d).map fun c => (c, q.2)
 | .dat x, .dat d => (gIx x d).bind (al q.2)
 | _, _ => none
def bj {k : Nat} (hr : Room k X.A) (ha : GE X a fa) (hb : GE X b fb) (hs : j2 b := by exact fun _ _ => rfl) (hn : sw b := by exact fun _ _ => rfl) : GE X (.Subscript a b pos) (eIx fa fb) :=
 PE.mono (PE.or (uw p5 ha hb hs) (nz (nB hr) ha hb hn)) fun σ H Q ⟨δ, ch, F, ρ, c, ch', en, hf, kk⟩ => by
  unfold eIx at hf
  obtain ⟨⟨c1, ch1⟩, hp, hf⟩ := bS hf
  obtain ⟨⟨c2, ch2⟩, hq, hf⟩ := bS hf
  dsimp only at hq hf
  split at hf <;> first | (cases hf; done) | skip
  rotate_left
  · rename_i x d hz
    obtain ⟨t, ht, hf⟩ := bS hf
    left
    refine ⟨δ, ch, F, ρ, _, ch1, en, hp, fun v F1 H1 ρ1 a1 r1 => ⟨δ, ch1, F1, ρ1, _, _, en.adv a1, hq, fun w F2 H2 ρ2 a2 r2 => ?_⟩⟩
    exact r_ix F2 H2 x d v w Q t a2.gh.fh (fM (c := .dat x) a2.gh (r1.mono a2.old a2.ext a2.len) rfl) (fM (c := .dat d) a2.gh r2 rfl) ht (lE a2.gh hf (kk.adv en.gh (a1.trans en.gh a2)))
  rename_i i d hz
  obtain ⟨c', hc, hf⟩ := mS hf
  cases hf
  obtain ⟨o, ho, hc⟩ := bS hc
  cases o with
  | lst l =>
   obtain ⟨j, hj, hc⟩ := bS hc
   left
   refine ⟨δ, ch, F, ρ, _, ch1, en, hp, fun v F1 H1 ρ1 a1 r1 => ⟨δ, ch1, F1, ρ1, _, _, en.adv a1, hq, fun w F2 H2 ρ2 a2 r2 => ?_⟩⟩
   obtain ⟨vs, h1, h2⟩ := a2.gh.ok i _ ho
   obtain ⟨u, hu, ru⟩ := oe h2 hc
   exact .inl ⟨_, vs, j, u, (r1.mono a2.old a2.ext a2.len).2, kl hj r2, SqL.of h1, hu, kk u F2 H2 ρ2 (a1.trans en.gh a2) ru⟩
  | tup l =>
   obtain ⟨j, hj, hc⟩ := bS hc
   left
   refine ⟨δ, ch, F, ρ, _, ch1, en, hp, fun v F1 H1 ρ1 a1 r1 => ⟨δ, ch1, F1, ρ1, _, _, en.adv a1, hq, fun w F2 H2 ρ2 a2 r2 => ?_⟩⟩
   obtain ⟨vs, h1, h2⟩ := a2.gh.ok i _ ho
   obtain ⟨u, hu, ru⟩ := oe h2 hc
   exact .inr (.inl ⟨_, vs, j, u, (r1.mono a2.old a2.ext a2.len).2, kl hj r2, SqT.of h1, hu, kk u F2 H2 ρ2 (a1.trans en.gh a2) ru⟩)
  | dK l =>
   obtain ⟨j, hj, hc⟩ := bS hc
   right
   refine ⟨δ, ch, F, ρ, _, ch1, en, hp, fun v F1 H1 ρ1 a1 r1 => ⟨δ, ch1, F1, ρ1, _, _, en.adv a1, hq, fun w F2 H2 ρ2 a2 r2 => ?_⟩⟩
   obtain ⟨kvs, h1, h2, h3⟩ := a2.gh.ok i _ ho
   have lk := iy (k := j) h2 h3
   rw [hc] at lk
   obtain ⟨u, hu, ru⟩ := lk
   refine ⟨_, u, (r1.mono a2.old a2.ext a2.len).2, ?_, kk u F2 H2 ρ2 (a1.trans en.gh a2) ru⟩
   rw [dh hj r2, <- hu]
   exact DGet.k h1
  | wk l =>
   obtain ⟨j, hj, hc⟩ := bS hc
   right
   refine ⟨δ, ch, F, ρ, _, ch1, en, hp, fun v F1 H1 ρ1 a1 r1 => ⟨δ, ch1, F1, ρ1, _, _, en.adv a1, hq, fun w F2 H2 ρ2 a2 r2 => ?_⟩⟩
   obtain ⟨o, kvs, h1, h2, h3⟩ := a2.gh.ok i _ ho
   have lk := iy (k := j) h2 h3
   rw [hc] at lk
   obtain ⟨u, hu, ru⟩ := lk
   refine ⟨_, u, (r1.mono a2.old a2.ext a2.len).2, ?_, kk u F2 H2 ρ2 (a1.trans en.gh a2) ru⟩
   rw [dh hj r2, <- hu]
   exact .inl ⟨kvs, j, .inr ⟨o, h1⟩, rfl, rfl⟩
  | ins c ns l => cases hc
def mU (ns : List Str) (l : List CV) (f : Str) : Option CV := match ns, l with
 | n :: ns, c :: l => if f = n then some c else mU ns l f
 | _, _ => none
def km {F : Hp} {ρ : Nat -> Addr} {n : Nat} {f : Str} {c : CV} : ∀ {ns : List Str} {l : List CV} {fs : List (Str × V)}, fs.map (·.1) = ns -> RelCs K F ρ n l (fs.map (·.2)) -> mU ns l f = some c -> ∃ v, fs.lookup f = some v /\ RelC K F ρ n c v
 | [], l, fs, _, _, h => by cases h
 | m :: ns, [], fs, _, _, h => by cases h
 | m :: ns, c' :: l, [], e, _, _ => by cases e
 | m :: ns, c' :: l, p :: fs, e, r, h => by
  simp only [List.map_cons, List.cons.injEq] at e
  obtain ⟨v, ws, q, r1, r2⟩ := r
  simp only [List.map_cons, List.cons.injEq] at q
  obtain ⟨rfl, rfl⟩ := q
  obtain ⟨p1, p2⟩ := p
  obtain ⟨rfl, rfl⟩ := e
  simp only [mU] at h
  by_cases hk : f = p1
  · rw [if_pos hk] at h
    cases h
    subst hk
    exact ⟨p2, by simp [List.lookup], r1⟩
  · rw [if_neg hk] at h
    have : (f == p1) = false := by simpa using hk
    simp only [List.lookup, this]
    exact km rfl r2 h
def eF (c f : Str) (fa : Fg) : Fg := fun δ ch => (fa δ ch).bind fun p => match p.1 with
 | .ref i => match p.2[i]? with
  | some (.ins c' ns l) => if c' = c then (mU ns l f).map fun x => (x, p.2) else none
  | _ => none
 | _ => none
def bH {c f : Str} (h : GE X o fa) (hf : gb X.K c f) (hb : attributeBase o f X.env (eval o X.env) = eval o X.env := by rfl) : GE X (.Attribute o f pos) (eF c f fa) := PE.mono (vE h hb) fun σ H Q ⟨δ, ch, F, ρ, c0, ch', en, hg, kk⟩ => by
 obtain ⟨C, hc, hC, hN⟩ := hf
 unfold eF at hg
 obtain ⟨⟨c1, ch1⟩, hp, hg1⟩ := bS hg
 clear hg
 dsimp only at hg1
 split at hg1 <;> first | (cases hg1; done) | skip
 rename_i i
 split at hg1 <;> first | (cases hg1; done) | skip
 rename_i c' ns l ho
 split at hg1 <;> first | (cases hg1; done) | skip
 rename_i hcc
 subst hcc
 obtain ⟨x, hx, hg2⟩ := mS hg1
 cases hg2
 refine ⟨δ, ch, F, ρ, _, _, en, hp, fun v F1 H1 ρ1 a1 r1 => ?_⟩
 obtain ⟨C', dx, fs, h0, h1, h2, h3⟩ := a1.gh.ok i _ ho
 have := ClsAt.inj hc h0
 subst this
 obtain ⟨u, hu, ru⟩ := km h2 h3 hx
 exact ⟨_, C, dx, fs, u, r1.2, h1, hC, hN, hu, kk u F1 H1 ρ1 a1 ru⟩
abbrev Fgs := Sl -> CH -> Option (List CV × CH)
def tGs (K : PySem.W.Frag) (f : Fgs) : TA := fun σ H Q => ∃ δ ch F ρ cs ch', Ge K δ ch σ F H ρ /\ f δ ch = some (cs, ch') /\ ∀ vs F' H' ρ', Adv K F H ρ ch F' H' ρ' ch' -> RelCs K F' ρ' ch'.length cs vs -> Q vs H'
def GA (X : Cx) (es : List Expr) (f : Fgs) : Prop := PA X es (tGs X.K f)
def aB : Fgs := fun _ ch => some ([], ch)
def ah (f : Fg) (fs : Fgs) : Fgs := fun δ ch => (f δ ch).bind fun p => (fs δ p.2).map fun q => (p.1 :: q.1, q.2)
def aO : GA X [] aB := PA.mono fV fun σ H Q ⟨δ, ch, F, ρ, cs, ch', en, hf, k⟩ => by
 cases hf
 exact k [] F H ρ (Adv.refl en.gh) rfl
def ao {fs : Fgs} (h : GE X e f) (hr : GA X es fs) (hs : starEach (e :: es) X.env = (false, eval e X.env) :: starEach es X.env := by rfl) : GA X (e :: es) (ah f fs) := PA.mono (dm h hr hs) fun σ H Q ⟨δ, ch, F, ρ, cs, ch', en, hf, k⟩ => by
 unfold ah at hf
 obtain ⟨p, hp, hf⟩ := bS hf
 obtain ⟨q, hq, hf⟩ := mS hf
 cases hf
 exact ⟨δ, ch, F, ρ, p.1, p.2, en, hp, fun v F1 H1 ρ1 a1 r1 => ⟨δ, p.2, F1, ρ1, q.1, q.2, en.adv a1, hq, fun ws F2 H2 ρ2 a2 r2 => k (v :: ws) F2 H2 ρ2 (a1.trans en.gh a2) ⟨v, ws, rfl, r1.mono a2.old a2.ext a2.len, r2⟩⟩⟩
def eT (fs : Fgs) : Fg := fun δ ch => (fs δ ch).bind fun p => if p.1.length <= sizeLine then some (.ref p.2.length, p.2 ++ [.tup p.1]) else none
def kn {F H : Hp} {ρ : Nat -> Addr} {ch : CH} {o : CO} {u : HO} {a : Addr} (g : Gh K F H ρ ch) (ha : H a = none) (ho : CoOk K F (upd H a u) ρ ch.length a o) : Adv K F H ρ ch F (upd H a u) (fun i => if i = ch.length then a else ρ i) (ch ++ [o]) :=
 Adv.new g (Step.made g.fh ha) ha (g.fh.free ha) (ho.mono (Same.refl _) (fun i hi => if_neg (Nat.ne_of_lt hi)) (Nat.le_succ _) fun _ h => h)
def wI {fs : Fgs} {x1} (h : GA X es fs) : GE X (.Tuple es x1 pos) (eT fs) := PE.mono (pU h) fun σ H Q ⟨δ, ch, F, ρ, c, ch', en, hf, k⟩ => by
 unfold eT at hf
 obtain ⟨p, hp, hf⟩ := bS hf
 split at hf <;> cases hf
 rename_i hz
 refine ⟨δ, ch, F, ρ, p.1, p.2, en, hp, fun vs F1 H1 ρ1 a1 r1 => ⟨by rw [r1.length]; exact hz, fun q hq => ?_⟩⟩
 refine k (.ref q) F1 _ _ (a1.trans en.gh (kn (o := .tup p.1) a1.gh hq ⟨vs, az, r1⟩)) ⟨by simp, ?_⟩
 dsimp only
 rw [if_pos rfl]
abbrev Fd := List CV -> CH -> Option (CV × CH)
def spG (K : PySem.W.Frag) (n : Nat) (f : Fd) : Sp := fun vs H Q _ => ∃ F ρ cs ch c ch', Gh K F H ρ ch /\ cs.length = n /\ RelCs K F ρ ch.length cs vs /\ f cs ch = some (c, ch') /\ KG K F H ρ ch c ch' Q
def eC (g : Fd) (fs : Fgs) : Fg := fun δ ch => (fs δ ch).bind fun p => g p.1 p.2
def cr {sc : Scope} {x : Str} {k n : Nat} {ps : List Str} {g : Fd} {fs : Fgs} (h : aT sc x = true) (F : OkF X.prog X.w X.K X.mg X.base x k ps (spG X.K n g)) (hr : Room k X.A) (ha : GA X (e :: es) fs) (hn : ∀ δ ch p, fs δ ch = some p -> p.1.length = n) (e1 : ck X sc := by rfl)
  (he : starEach (e :: es) X.env = (false, eval e X.env) :: starEach es X.env := by rfl) (hpl : (backTo cpos (starEach es X.env)).any (·.1) = false := by rfl) : GE X (.Call (.Name x p) (e :: es) [] cpos) (eC g fs) :=
 PE.mono (gS h F hr ha e1 he hpl) fun σ H Q ⟨δ, ch, F, ρ, c, ch', en, hf, k⟩ => by
  unfold eC at hf
  obtain ⟨p, hp, hf⟩ := bS hf
  refine ⟨δ, ch, F, ρ, p.1, p.2, en, hp, fun vs F1 H1 ρ1 a1 r1 => ?_⟩
  show spG X.K n g (vs ++ []) H1 Q E0
  rw [List.append_nil]
  exact ⟨F1, ρ1, p.1, p.2, c, ch', a1.gh, hn δ ch p hp, r1, hf, k.adv en.gh a1⟩
noncomputable def eM (c m : Str) (g : Fd) (fo : Fg) (fs : Fgs) : Fg := fun δ ch => (fo δ ch).bind fun p => match p.1 with
 | .ref i => match p.2[i]? with
  | some (.ins c' ns _) => if c' = c /\ m ∉ ns then (fs δ p.2).bind fun q => g (.ref i :: q.1) q.2 else none
  | _ => none
 | _ => none
def uR {c m : Str} {C : Addr} {n : Nat} {g : Fd} {fo : Fg} {fs : Fgs} {as : TA} (h1 : ClsAt K c C) (hn : ∀ δ ch p, fs δ ch = some p -> p.1.length + 1 = n) (has : ∀ σ H Q, tGs K fs σ H Q -> as σ H Q) : ∀ σ H Q, tG K (eM c m g fo fs) σ H Q -> pW C m (spG K n g) [] E0 (tG K fo) as σ H Q := fun σ H Q ⟨δ, ch, F, ρ, c0, ch', en, hf, k⟩ => by
 unfold eM at hf
 obtain ⟨⟨c1, ch1⟩, hp, hf1⟩ := bS hf
 clear hf
 dsimp only at hf1
 split at hf1 <;> first | (cases hf1; done) | skip
 rename_i i
 split at hf1 <;> first | (cases hf1; done) | skip
 rename_i c' ns l ho
 split at hf1 <;> first | (cases hf1; done) | skip
 rename_i hcc
 obtain ⟨rfl, hm⟩ := hcc
 obtain ⟨q, hq, hf⟩ := bS hf1
 refine ⟨δ, ch, F, ρ, _, _, en, hp, fun v F1 H1 ρ1 a1 r1 => ?_⟩
 obtain ⟨C', dx, gs, h0, ha, h2, h3⟩ := a1.gh.ok i _ ho
 have := ClsAt.inj h1 h0
 subst this
 refine ⟨_, dx, gs, r1.2, ha, h9 (by rw [h2]; exact hm), has _ _ _ ⟨δ, ch1, F1, ρ1, q.1, q.2, en.adv a1, hq, fun vs F2 H2 ρ2 a2 r2 => ?_⟩⟩
 show spG K n g (v :: (vs ++ [])) H2 Q E0
 rw [List.append_nil]
 exact ⟨F2, ρ2, .ref i :: q.1, q.2, c0, ch', a2.gh, hn δ ch1 q hq, ⟨v, vs, rfl, r1.mono a2.old a2.ext a2.len, r2⟩, hf, k.adv en.gh (a1.trans en.gh a2)⟩
def bB {c m : Str} {k n : Nat} {ps : List Str} {g : Fd} {fs : Fgs} (F : OkM X.prog X.w X.K X.mg X.base c m k ps (spG X.K n g)) (hr : Room k X.A) (ho : GE X o fa) (ha : GA X (e :: es) fs) (hn : ∀ δ ch p, fs δ ch = some p -> p.1.length + 1 = n) {pl : Sem Bool}
  (hst : starEach (e :: es) X.env = (false, eval e X.env) :: starEach es X.env := by rfl) (hpl : (backTo cpos (starEach es X.env)).any (·.1) = false := by rfl)
  (ht : eval (.Call (.Attribute o m apos) (e :: es) [] cpos) X.env = (do
   let ov <- eval o X.env
   standAt apos.atName
   let (f, first) <- holding [ov] (getMethod ov m pl)
   callWith cpos f first (backTo cpos (starEach (e :: es) X.env)) (backToKw cpos (keywordEach [] X.env))) := by rfl) : GE X (.Call (.Attribute o m apos) (e :: es) [] cpos) (eM c m g fa fs) := by
 obtain ⟨C, f, fd, h1, h2, h3, h4, h5⟩ := F.ex
 exact PE.mono (sg ho h2 h3 h5 hr h4 .nil nA ha hst hpl ht) (uR h1 hn fun _ _ _ q => q)
def dO {c m : Str} {k : Nat} {ps : List Str} {g : Fd} (F : OkM X.prog X.w X.K X.mg X.base c m k ps (spG X.K 1 g)) (hr : Room k X.A) (ho : GE X o fa) {pl : Sem Bool}
  (ht : eval (.Call (.Attribute o m apos) [] [] cpos) X.env = (do
   let ov <- eval o X.env
   standAt apos.atName
   let (f, first) <- holding [ov] (getMethod ov m pl)
   callWith cpos f first (backTo cpos (starEach [] X.env)) (backToKw cpos (keywordEach [] X.env))) := by rfl) : GE X (.Call (.Attribute o m apos) [] [] cpos) (eM c m g fa aB) := by
 obtain ⟨C, f, fd, h1, h2, h3, h4, h5⟩ := F.ex
 exact PE.mono (pX ho h2 h3 h5 hr h4 .nil nA ht) (uR h1 (fun δ ch p h => by cases h; rfl) fun σ H Q ⟨δ, ch, F, ρ, cs, ch', en, hf, k⟩ => by
  cases hf
  exact k [] F H ρ (Adv.refl en.gh) rfl)
end
inductive Og where
 | nx (δ : Sl) (ch : CH) | rt (c : CV) (ch : CH) | bk (δ : Sl) (ch : CH) | ct (δ : Sl) (ch : CH)
noncomputable def PostG (K : PySem.W.Frag) (F H : Hp) (ρ : Nat -> Addr) (ch : CH) (D : Ends) : Og -> Prop
 | .nx δ' ch' => ∀ σ' F' H' ρ', Adv K F H ρ ch F' H' ρ' ch' -> Ge K δ' ch' σ' F' H' ρ' -> D.nx σ' H'
 | .rt c ch' => ∀ v F' H' ρ', Adv K F H ρ ch F' H' ρ' ch' -> RelC K F' ρ' ch'.length c v -> D.rt v H'
 | .bk δ' ch' => ∀ σ' F' H' ρ', Adv K F H ρ ch F' H' ρ' ch' -> Ge K δ' ch' σ' F' H' ρ' -> D.bk σ' H'
 | .ct δ' ch' => ∀ σ' F' H' ρ', Adv K F H ρ ch F' H' ρ' ch' -> Ge K δ' ch' σ' F' H' ρ' -> D.ct σ' H'
abbrev Fs := Sl -> CH -> Option Og
def tGS (K : PySem.W.Frag) (g : Fs) : TS := fun D σ H => ∃ δ ch F ρ o, Ge K δ ch σ F H ρ /\ g δ ch = some o /\ PostG K F H ρ ch D o
def GS1 (X : Cx) (st : Stmt) (g : Fs) : Prop := PS X st (tGS X.K g)
def GS (X : Cx) (ss : List Stmt) (g : Fs) : Prop := PSs X ss (tGS X.K g)
section
variable {K : PySem.W.Frag} {F H F' H' F1 H1 : Hp} {ρ ρ' ρ1 : Nat -> Addr} {ch ch' ch1 : CH} {D : Ends} {o : Og}
def PostG.adv (k : PostG K F H ρ ch D o) (g : Gh K F H ρ ch) (a : Adv K F H ρ ch F1 H1 ρ1 ch1) : PostG K F1 H1 ρ1 ch1 D o := by
 cases o with
 | nx δ' c' => exact fun σ' F' H' ρ' b e => k σ' F' H' ρ' (a.trans g b) e
 | rt c c' => exact fun v F' H' ρ' b e => k v F' H' ρ' (a.trans g b) e
 | bk δ' c' => exact fun σ' F' H' ρ' b e => k σ' F' H' ρ' (a.trans g b) e
 | ct δ' c' => exact fun σ' F' H' ρ' b e => k σ' F' H' ρ' (a.trans g b) e
end
section
variable {X : Cx} {st : Stmt} {rest a b body : List Stmt} {g g1 g2 : Fs} {e c o tg iter : Expr} {es : List Expr} {pos apos cpos : Pos} {f fa fe fk : Fg} {tc : Ft} {i : Nat} {K : PySem.W.Frag}
def ce : Fs := fun δ ch => some (.nx δ ch)
def aq (g1 g2 : Fs) : Fs := fun δ ch => (g1 δ ch).bind fun o => match o with
 | .nx δ' ch' => g2 δ' ch'
 | o => some o
def bQ : GS X [] ce := PSs.mono nc fun D σ H ⟨δ, ch, F, ρ, o, en, hg, k⟩ => by
 cases hg
 exact k σ F H ρ (Adv.refl en.gh) en
def aG (h : GS1 X st g) : GS X [st] g := ng h
def ap (h1 : GS1 X st g1) (h2 : GS X rest g2) : GS X (st :: rest) (aq g1 g2) := PSs.mono (kY h1 h2) fun D σ H ⟨δ, ch, F, ρ, o, en, hg, k⟩ => by
 unfold aq at hg
 obtain ⟨o1, h1, hg⟩ := bS hg
 refine ⟨δ, ch, F, ρ, o1, en, h1, ?_⟩
 cases o1 with
 | nx δ' ch' => exact fun σ' F' H' ρ' a en' => ⟨δ', ch', F', ρ', o, en', hg, k.adv en.gh a⟩
 | rt c ch' => cases hg; exact k
 | bk δ' ch' => cases hg; exact k
 | ct δ' ch' => cases hg; exact k
def gc (f : Fg) : Fs := fun δ ch => (f δ ch).map fun p => .nx δ p.2
def ko (h : GE X e f) (hs : swapsWith e none pos.line X.env = pure false := by rfl) : GS1 X (.Expr e pos) (gc f) := PS.mono (iq h hs) fun D σ H ⟨δ, ch, F, ρ, o, en, hg, k⟩ => by
 unfold gc at hg
 obtain ⟨p, hp, hg⟩ := mS hg
 cases hg
 exact ⟨δ, ch, F, ρ, p.1, p.2, en, hp, fun v F' H' ρ' a r => k σ F' H' ρ' a (en.adv a)⟩
def bt (f : Fg) : Fs := fun δ ch => (f δ ch).map fun p => .rt p.1 p.2
def bp (h : GE X e f) : GS1 X (.Return (some e) pos) (bt f) := PS.mono (pJ h) fun D σ H ⟨δ, ch, F, ρ, o, en, hg, k⟩ => by
 unfold bt at hg
 obtain ⟨p, hp, hg⟩ := mS hg
 cases hg
 exact ⟨δ, ch, F, ρ, p.1, p.2, en, hp, k⟩
def kr : Fs := fun _ ch => some (.rt (.dat .non) ch)
def ku : GS1 X (.Return none pos) kr := PS.mono rW fun D σ H ⟨δ, ch, F, ρ, o, en, hg, k⟩ => by
 cases hg
 exact k .non F H ρ (Adv.refl en.gh) (kd (K := X.K) (F := F))
def cg (c : Ft) (g1 g2 : Fs) : Fs := fun δ ch => (c δ ch).bind fun p => if p.1 then g1 δ p.2 else g2 δ p.2
def b6 (hc : GT X c tc) (h1 : GS X a g1) (h2 : GS X b g2) : GS1 X (.If c a b pos) (cg tc g1 g2) := PS.mono (uq hc h1 h2) fun D σ H ⟨δ, ch, F, ρ, o, en, hg, k⟩ => by
 unfold cg at hg
 obtain ⟨p, hp, hg⟩ := bS hg
 refine ⟨δ, ch, F, ρ, p.1, p.2, en, hp, fun F' H' ρ' a => ?_⟩
 split at hg
 · rename_i q
   rw [if_pos q]
   exact ⟨δ, p.2, F', ρ', o, en.adv a, hg, k.adv en.gh a⟩
 · rename_i q
   rw [if_neg q]
   exact ⟨δ, p.2, F', ρ', o, en.adv a, hg, k.adv en.gh a⟩
def Ge.put {δ : Sl} {σ : St} {F H : Hp} {ρ : Nat -> Addr} {ch : CH} {x : CV} {v : V} (en : Ge K δ ch σ F H ρ) (r : RelC K F ρ ch.length x v) (i : Nat) : Ge K (δ.set i (some x)) ch (σ.set i (some v)) F H ρ := ⟨en.gh, by simp [en.len], fun j y h => by
 rcases dQ h with ⟨rfl, z⟩ | ⟨hn, z⟩
 · cases z
   have hi : i < σ.length := by
    rw [<- en.len]
    have := (gX h).1
    simpa using this
   exact ⟨v, by simp [hi], r⟩
 · obtain ⟨w, h1, h2⟩ := en.has j y z
   exact ⟨w, by rw [gN hn]; exact h1, h2⟩⟩
def bd (i : Nat) (f : Fg) : Fs := fun δ ch => (f δ ch).map fun p => .nx (δ.set i (some p.1)) p.2
def bq {sc : Scope} {N : List Str} {x : Str} {pos' : Pos} (h : aD sc N i x = true) (hl : bA sc x = true) (nd : N.Nodup) (he : GE X e f) (e1 : ck X sc := by rfl) (e2 : X.N = N := by rfl) (hf : X.fn x = true ∨ X.env.scope.names.lookup x = some .local := by exact .inl rfl)
  (hs : swapsWith e (some (.Name x pos')) pos.line X.env = pure false := by rfl) : GS1 X (.Assign [.Name x pos'] e pos) (bd i f) := PS.mono (nH h hl nd he e1 e2 hf hs) fun D σ H ⟨δ, ch, F, ρ, o, en, hg, k⟩ => by
 unfold bd at hg
 obtain ⟨p, hp, hg⟩ := mS hg
 cases hg
 exact ⟨δ, ch, F, ρ, p.1, p.2, en, hp, fun v F' H' ρ' a r => k _ F' H' ρ' a ((en.adv a).put r i)⟩
def mgS (ts : List Nat) (δ : Sl) (δ1 : De) : Sl := δ.mapIdx fun j x => if j ∈ ts then (match δ1[j]? with | some (some (.leaf d)) => some (.dat d) | _ => none) else x
def Ge.mg {δ : Sl} {σ σ' : St} {F H : Hp} {ρ : Nat -> Addr} {ch : CH} {ts : List Nat} {δ1 : De} {Φ : Fm} (en : Ge K δ ch σ F H ρ) (hK : Φ.K = K) (hl : σ'.length = σ.length) (hs : ∀ j, j ∉ ts -> σ'[j]? = σ[j]?) (e : En Φ δ1 σ' F H) : Ge K (mgS ts δ δ1) ch σ' F H ρ := ⟨en.gh, by simp [mgS, en.len, hl], fun j x h => by
 unfold mgS at h
 rw [List.getElem?_mapIdx] at h
 obtain ⟨y, hy, h⟩ := mS h
 by_cases hj : j ∈ ts
 · rw [if_pos hj] at h
   split at h <;> cases h
   rename_i d q
   obtain ⟨v, h1, h2⟩ := e.leaf q
   exact ⟨v, h1, (hK ▸ h2 : Rep K F d v)⟩
 · rw [if_neg hj] at h
   subst h
   obtain ⟨v, h1, h2⟩ := en.has j x hy
   exact ⟨v, by rw [hs j hj]; exact h1, h2⟩⟩
noncomputable def dW (ts : List Nat) (bb : Dt -> De -> Option De) (g : Fs) : List Dt -> Sl -> CH -> Option Og
 | [], δ, ch => some (.nx δ ch)
 | d :: r, δ, ch => (bb d (lo δ ch)).bind fun δ1 => (g (mgS ts δ δ1) ch).bind fun o => match o with
  | .nx δ2 ch2 => dW ts bb g r δ2 ch2
  | .ct δ2 ch2 => dW ts bb g r δ2 ch2
  | .bk δ2 ch2 => some (.nx δ2 ch2)
  | .rt c ch2 => some (.rt c ch2)
def di (fi : De -> Option (List Dt)) (ts : List Nat) (bb : Dt -> De -> Option De) (g : Fs) : Fs := fun δ ch => (fi (lo δ ch)).bind fun ds => dW ts bb g ds δ ch
def kx {fi : De -> Option (List Dt)} {ts : List Nat} {bb : Dt -> De -> Option De} (hp : PassesOwn (model X.prog X.w) X.A X.env X.xe) (hc : X.calm = true) (hi : DIF X tg iter fi) (hg : DG X tg ts bb) (hb : GS X body g)
  (hs : ∀ x, foldedSetIterable iter X.env x = pure x := by intro _; rfl) : GS1 X (.For tg iter body [] pos) (di fi ts bb g) := PS.mono (mj hp hc hi hg hb hs) fun D σ H ⟨δ, ch, F, ρ, o, en, hg, k⟩ => by
 unfold di at hg
 obtain ⟨ds, hd, hg⟩ := bS hg
 rw [j9]
 refine ⟨_, _, F, ds, rfl, en.en, hd, fun J ok H1 F1 st1 wd ho => ?_⟩
 have a1 := Adv.of en.gh st1
 have en1 := en.adv a1
 have k1 := k.adv en.gh a1
 refine iS (n := ds.length) (fun i σ' H' => ∃ δ' ch' F' ρ', Adv X.K F1 H1 ρ ch F' H' ρ' ch' /\ Ge X.K δ' ch' σ' F' H' ρ' /\ dW ts bb g (ds.drop i) δ' ch' = some o) ⟨δ, ch, F1, ρ, Adv.refl en1.gh, en1, by simpa using hg⟩ (fun i σ' H' ⟨δ', ch', F', ρ', a', en', _⟩ => ?_) ?_ ?_
 · obtain ⟨p1, p2, _⟩ := wd i H' F' (ho H' (a'.old.trans en'.gh.fh)) en'.gh.fh a'.old
   exact ⟨p1, p2⟩
 · rintro i x σ' H' H'' hi ⟨δ', ch', F', ρ', a', en', hgo⟩ hy
   obtain ⟨_, _, p3⟩ := wd i H' F' (ho H' (a'.old.trans en'.gh.fh)) en'.gh.fh a'.old
   obtain ⟨d, F2, hd', st2, rd⟩ := p3 x H'' hi hy
   rw [gr hd'] at hgo
   unfold dW at hgo
   obtain ⟨δ1, h1, hgo⟩ := bS hgo
   obtain ⟨o1, h2, hgo⟩ := bS hgo
   have a2 := Adv.of en'.gh st2
   have a3 := a'.trans en1.gh a2
   have en2 := en'.adv a2
   refine ⟨_, _, F2, d, δ1, rfl, en2.en, rd, h1, fun σ1 l1 q1 e1 => ⟨_, ch', F2, ρ', o1, en2.mg rfl l1 q1 e1, h2, ?_⟩⟩
   cases o1 with
   | nx δ2 c2 => exact fun σ2 F3 H3 ρ3 a4 en4 => ⟨δ2, c2, F3, ρ3, a3.trans en1.gh a4, en4, hgo⟩
   | ct δ2 c2 => exact fun σ2 F3 H3 ρ3 a4 en4 => ⟨δ2, c2, F3, ρ3, a3.trans en1.gh a4, en4, hgo⟩
   | bk δ2 c2 => cases hgo; exact fun σ2 F3 H3 ρ3 a4 en4 => k1 σ2 F3 H3 ρ3 (a3.trans en1.gh a4) en4
   | rt c c2 => cases hgo; exact fun v F3 H3 ρ3 a4 r => k1 v F3 H3 ρ3 (a3.trans en1.gh a4) r
 · rintro σ' H' ⟨δ', ch', F', ρ', a', en', hgo⟩
   rw [List.drop_length] at hgo
   cases hgo
   exact k1 σ' F' H' ρ' a' en'
noncomputable def lF (fa fe : Fg) : Fs := fun δ ch => (fa δ ch).bind fun p => (fe δ p.2).bind fun q => match p.1 with
 | .ref i => match p.2[i]?, q.2[i]? with
  | some (.lst _), some (.lst l) => if l.length < sizeLine then some (.nx δ (q.2.set i (.lst (l ++ [q.1])))) else none
  | _, _ => none
 | _ => none
def jR (hx : GE X o fa) (he : GE X e fe)
  (hbase : attributeBase o "append" X.env (eval o X.env) = eval o X.env := by rfl)
  (hfew : ((backTo cpos (starEach [e] X.env)).all (fun x => !x.1) && (backToKw cpos (keywordEach [] X.env)).all (fun x => x.1.isSome)
   && decide ([e].length + ([] : List Keyword).length + (if ([] : List Keyword).isEmpty then 0 else 1) < 30)) = true := by rfl)
  (hline : (apos.endLine == cpos.line) = true := by rfl) (hs : starEach [e] X.env = (false, eval e X.env) :: starEach [] X.env := by rfl) (hplain : (backTo cpos (starEach [] X.env)).any (·.1) = false := by rfl)
  (hsw : swapsWith (.Call (.Attribute o "append" apos) [e] [] cpos) none pos.line X.env = pure false := by rfl) :
  GS1 X (.Expr (.Call (.Attribute o "append" apos) [e] [] cpos) pos) (lF fa fe) :=
 PS.mono (iq (p8 PySem.F.plainAttrs_list PySem.F.slot_list_append PySem.F.type_list_append fG hx (dm he fV hs) hbase hfew hline hs hplain) hsw) fun D σ H ⟨δ, ch, F, ρ, og, en, hg, k⟩ => by
  unfold lF at hg
  obtain ⟨⟨c1, ch1⟩, hp, hg1⟩ := bS hg
  clear hg
  obtain ⟨⟨c2, ch2⟩, hq, hg⟩ := bS hg1
  clear hg1
  dsimp only at hq hg
  split at hg <;> first | (cases hg; done) | skip
  rename_i i
  split at hg <;> first | (cases hg; done) | skip
  rename_i l0 l h0 h1
  split at hg <;> cases hg
  rename_i hz
  refine ⟨δ, ch, F, ρ, _, ch1, en, hp, fun v F1 H1 ρ1 a1 r1 => ?_⟩
  obtain ⟨vs0, q0, _⟩ := a1.gh.ok i _ h0
  obtain ⟨hi, rfl⟩ := r1
  refine ⟨.inl ⟨rfl, vs0, .inl (.inl q0)⟩, δ, ch1, F1, ρ1, c2, ch2, en.adv a1, hq, fun w F2 H2 ρ2 a2 r2 => ?_⟩
  obtain ⟨vs, q1, q2⟩ := a2.gh.ok i _ h1
  rw [a2.ext i hi] at q1
  refine ⟨_, vs, w, rfl, rfl, q1, by rw [q2.length]; exact hz, ?_⟩
  have hi2 : i < ch2.length := (gX h1).1
  have a3 := Adv.upd (o := .lst (l ++ [c2])) (u := .lst (vs ++ [w])) (w := .lst vs) a2.gh hi2 (by rw [a2.ext i hi]; exact q1) (fun _ _ z => nomatch z) ⟨_, az, q2.append (RelCs.one r2)⟩
  rw [a2.ext i hi] at a3
  have a := (a1.trans en.gh a2).trans en.gh a3
  exact k σ F2 _ ρ2 a (en.adv a)
def gw {κ : Type} [DecidableEq κ] : List (κ × CV) -> κ -> CV -> List (κ × CV)
 | [], k, c => [(k, c)]
 | p :: l, k, c => if p.1 = k then (p.1, c) :: l else p :: gw l k c
noncomputable def lG (o : CO) (d : Dt) (c : CV) : Option CO := match o with
 | .lst l => (asI d).bind fun j => (ixN l.length j).map fun m => .lst (l.set m c)
 | .dK l => (dU d).bind fun k => if l.length < sizeLine /\ (l.map (·.1)).Nodup then some (.dK (gw l k c)) else none
 | _ => none
def lH {κ : Type} [DecidableEq κ] {F : Hp} {ρ : Nat -> Addr} {n : Nat} {k : κ} {c : CV} {v : V} (r : RelC K F ρ n c v) : ∀ {l : List (κ × CV)} {kvs : List (κ × V)}, (l.map (·.1)).Nodup -> kvs.map (·.1) = l.map (·.1) -> RelCs K F ρ n (l.map (·.2)) (kvs.map (·.2)) →
  (cp kvs k v).map (·.1) = (gw l k c).map (·.1) /\ RelCs K F ρ n ((gw l k c).map (·.2)) ((cp kvs k v).map (·.2))
 | [], [], _, _, _ => ⟨rfl, ⟨v, [], rfl, r, rfl⟩⟩
 | [], q :: kvs, _, h, _ => by cases h
 | p :: l, [], _, h, _ => by cases h
 | p :: l, q :: kvs, nd, h, rs => by
  simp only [List.map_cons, List.cons.injEq] at h
  obtain ⟨h1, h2⟩ := h
  obtain ⟨w, ws, e, r1, r2⟩ := rs
  simp only [List.map_cons, List.cons.injEq] at e
  obtain ⟨rfl, rfl⟩ := e
  have nd' := List.nodup_cons.mp nd
  by_cases hk : p.1 = k
  · have hq : q.1 = k := h1.trans hk
    have hnone : ∀ x ∈ kvs, ¬ x.1 = k := fun x hx e => nd'.1 (by
     have : x.1 ∈ kvs.map (·.1) := List.mem_map_of_mem hx
     rw [h2] at this
     rw [e, <- hk] at this
     exact this)
    have e2 : cp (q :: kvs) k v = (q.1, v) :: kvs := by
     unfold cp
     rw [if_pos (by simp [hq])]
     simp only [List.map_cons, if_pos hq, List.cons.injEq, true_and]
     have : ∀ x ∈ kvs, (if x.1 = k then (x.1, v) else x) = id x := fun x hx => if_neg (hnone x hx)
     rw [List.map_congr_left this, List.map_id]
    have e1 : gw (p :: l) k c = (p.1, c) :: l := by simp only [gw, if_pos hk]
    rw [e1, e2]
    exact ⟨by simp [h1, h2], ⟨v, _, rfl, r, r2⟩⟩
  · have hq : ¬ q.1 = k := fun z => hk (h1.symm.trans z)
    have e2 : cp (q :: kvs) k v = q :: cp kvs k v := by
     unfold cp
     by_cases ha : (kvs.any fun kv => decide (kv.1 = k)) = true
     · rw [if_pos ha, if_pos (by simp only [List.any_cons, ha, Bool.or_true])]
       simp only [List.map_cons, if_neg hq]
     · rw [if_neg ha, if_neg (by simp only [List.any_cons, decide_eq_false hq, Bool.false_or]; exact ha)]
       rfl
    have e1 : gw (p :: l) k c = p :: gw l k c := by simp only [gw, if_neg hk]
    obtain ⟨i1, i2⟩ := lH (k := k) r nd'.2 h2 r2
    rw [e1, e2]
    exact ⟨by simp [h1, i1], ⟨q.2, _, rfl, r1, i2⟩⟩
def cS (fa fk fe : Fg) : Fs := fun δ ch => (fe δ ch).bind fun p => (fa δ p.2).bind fun q => (fk δ q.2).bind fun r => match q.1, r.1 with
 | .ref i, .dat d => ((r.2[i]?).bind fun o => lG o d p.1).map fun o' => .nx δ (r.2.set i o')
 | _, _ => none
def dX {k : Nat} {ik : Expr} {pos' : Pos} (hr : Room k X.A) (hx : GE X o fa) (hk : GE X ik fk) (he : GE X e fe) (hs : swapsWith e (some (.Subscript o ik pos')) pos.line X.env = pure false := by rfl)
  (hs2 : swapsWithSole [.Subscript o ik pos'] e pos.line X.env = pure false := by rfl) (hw : swappedStores [.Subscript o ik pos'] e X.env = pure none := by rfl)
  (h1 : (assignEach [.Subscript o ik pos'] X.env).map (·.2) = [assign (.Subscript o ik pos') X.env] := by rfl)
  (ha : ∀ v, assign (.Subscript o ik pos') X.env v = (do
   let ov <- holding [v] (eval o X.env)
   let iv <- holding [v, ov] (eval ik X.env)
   standAt pos'
   holding [v, ov, iv] (setItem ov iv v)
   release [v, ov, iv] []) := by intro _; rfl) : GS1 X (.Assign [.Subscript o ik pos'] e pos) (cS fa fk fe) :=
 PS.mono (PS.or (vk he (vj hx hk p6 ha) hs2 hw h1) (sy (nB hr) hx hk he hs)) fun D σ H ⟨δ, ch, F, ρ, og, en, hg, kk⟩ => by
  unfold cS at hg
  obtain ⟨⟨c1, ch1⟩, hp, hg1⟩ := bS hg
  clear hg
  obtain ⟨⟨c2, ch2⟩, hq, hg2⟩ := bS hg1
  clear hg1
  obtain ⟨⟨c3, ch3⟩, hw, hg⟩ := bS hg2
  clear hg2
  dsimp only at hq hw hg
  split at hg <;> first | (cases hg; done) | skip
  rename_i i d
  obtain ⟨o', hput, hg⟩ := mS hg
  cases hg
  obtain ⟨o0, ho, hput⟩ := bS hput
  cases o0 with
  | lst l =>
   obtain ⟨j, hj, hput⟩ := bS hput
   obtain ⟨m, hm, rfl⟩ := mS hput
   left
   refine ⟨δ, ch, F, ρ, _, ch1, en, hp, fun v F1 H1 ρ1 a1 r1 => ⟨δ, ch1, F1, ρ1, _, ch2, en.adv a1, hq, fun x F2 H2 ρ2 a2 r2 => ⟨δ, ch2, F2, ρ2, _, ch3, (en.adv a1).adv a2, hw, fun y F3 H3 ρ3 a3 r3 => ?_⟩⟩⟩
   obtain ⟨vs, q1, q2⟩ := a3.gh.ok i _ ho
   have hi3 : i < ch3.length := (gX ho).1
   have a12 := a1.trans en.gh a2
   have a13 := a12.trans en.gh a3
   have r1' := (r1.mono a2.old a2.ext a2.len).mono a3.old a3.ext a3.len
   refine ⟨_, vs, j, m, (r2.mono a3.old a3.ext a3.len).2, kl hj r3, q1, by rw [q2.length]; exact hm, ?_⟩
   have a4 := Adv.upd (o := .lst (l.set m c1)) (u := .lst (vs.set m v)) a3.gh hi3 q1 (fun _ _ z => nomatch z) ⟨_, az, q2.set r1' m⟩
   have a := a13.trans en.gh a4
   exact kk σ F3 _ ρ3 a (en.adv a)
  | dK l =>
   obtain ⟨j, hj, hput⟩ := bS hput
   split at hput <;> first | (cases hput; done) | skip
   rename_i hz
   cases hput
   right
   refine ⟨δ, ch, F, ρ, _, ch1, en, hp, fun v F1 H1 ρ1 a1 r1 => ⟨δ, ch1, F1, ρ1, _, ch2, en.adv a1, hq, fun x F2 H2 ρ2 a2 r2 => ⟨δ, ch2, F2, ρ2, _, ch3, (en.adv a1).adv a2, hw, fun y F3 H3 ρ3 a3 r3 => ?_⟩⟩⟩
   obtain ⟨kvs, q1, q2, q3⟩ := a3.gh.ok i _ ho
   have hi3 : i < ch3.length := (gX ho).1
   have a12 := a1.trans en.gh a2
   have a13 := a12.trans en.gh a3
   have r1' := (r1.mono a2.old a2.ext a2.len).mono a3.old a3.ext a3.len
   obtain ⟨z1, z2⟩ := lH (k := j) r1' hz.2 q2 q3
   have hlen : kvs.length = l.length := by
    have := congrArg List.length q2
    simpa using this
   refine ⟨_, upd H3 (ρ3 i) (.dK (cp kvs j v)), (r2.mono a3.old a3.ext a3.len).2, ?_, ?_⟩
   · rw [dh hj r3]
     exact DPut.k q1 (by rw [hlen]; exact hz.1)
   · have a4 := Adv.upd (o := .dK (gw l j c1)) (u := .dK (cp kvs j v)) a3.gh hi3 q1 (fun _ _ z => nomatch z) ⟨_, az, z1, z2⟩
     have a := a13.trans en.gh a4
     exact kk σ F3 _ ρ3 a (en.adv a)
  | tup l => cases hput
  | ins c ns l => cases hput
  | wk l => cases hput
def bO (ns : List Str) (l : List CV) (f : Str) (c : CV) : List Str × List CV := match ns, l with
 | n :: ns, x :: l => if n = f then (n :: ns, c :: l) else ((n :: (bO ns l f c).1), (x :: (bO ns l f c).2))
 | _, _ => ([f], [c])
def g0 {F : Hp} {ρ : Nat -> Addr} {n : Nat} {f : Str} {c : CV} {v : V} (r : RelC K F ρ n c v) : ∀ {ns : List Str} {l : List CV} {fs : List (Str × V)}, fs.map (·.1) = ns -> RelCs K F ρ n l (fs.map (·.2)) -> (cY f v fs).map (·.1) = (bO ns l f c).1 /\ RelCs K F ρ n (bO ns l f c).2 ((cY f v fs).map (·.2))
 | [], l, [], _, rs => by
  cases l with
  | nil => exact ⟨rfl, ⟨v, [], rfl, r, rfl⟩⟩
  | cons x l => obtain ⟨_, _, e, _⟩ := rs; cases e
 | [], l, p :: fs, h, _ => by cases h
 | m :: ns, l, [], h, _ => by cases h
 | m :: ns, [], p :: fs, h, rs => by
  have : p.2 :: fs.map (·.2) = [] := rs
  cases this
 | m :: ns, x :: l, p :: fs, h, rs => by
  simp only [List.map_cons, List.cons.injEq] at h
  obtain ⟨w, ws, e, r1, r2⟩ := rs
  simp only [List.map_cons, List.cons.injEq] at e
  obtain ⟨rfl, rfl⟩ := e
  obtain ⟨p1, p2⟩ := p
  obtain ⟨rfl, rfl⟩ := h
  by_cases hk : p1 = f
  · simp only [cY, bO, if_pos hk]
    exact ⟨by simp, ⟨v, _, rfl, r, r2⟩⟩
  · obtain ⟨i1, i2⟩ := g0 (f := f) r rfl r2
    simp only [cY, bO, if_neg hk]
    exact ⟨by simp [i1], ⟨p2, _, rfl, r1, i2⟩⟩
noncomputable def cu (c f : Str) (fa fe : Fg) : Fs := fun δ ch => (fe δ ch).bind fun p => (fa δ p.2).bind fun q => match q.1 with
 | .ref i => match q.2[i]? with
  | some (.ins c' ns l) => if c' = c /\ ns.length < 1000 then some (.nx δ (q.2.set i (.ins c' (bO ns l f p.1).1 (bO ns l f p.1).2))) else none
  | _ => none
 | _ => none
def bY {cn fn : Str} {pos' : Pos} (h : GE X o fa) (hf : gb X.K cn fn) (he : GE X e fe) (hs : swapsWith e (some (.Attribute o fn pos')) pos.line X.env = pure false := by rfl) : GS1 X (.Assign [.Attribute o fn pos'] e pos) (cu cn fn fa fe) :=
 PS.mono (vF h he hs) fun D σ H ⟨δ, ch, F, ρ, og, en, hg, kk⟩ => by
  obtain ⟨C, hc, hC, hN⟩ := hf
  unfold cu at hg
  obtain ⟨⟨c1, ch1⟩, hp, hg1⟩ := bS hg
  clear hg
  obtain ⟨⟨c2, ch2⟩, hq, hg⟩ := bS hg1
  clear hg1
  dsimp only at hq hg
  split at hg <;> first | (cases hg; done) | skip
  rename_i i
  split at hg <;> first | (cases hg; done) | skip
  rename_i c' ns l ho
  split at hg <;> cases hg
  rename_i hz
  obtain ⟨rfl, hz⟩ := hz
  refine ⟨δ, ch, F, ρ, _, ch1, en, hp, fun v F1 H1 ρ1 a1 r1 => ⟨δ, ch1, F1, ρ1, _, ch2, en.adv a1, hq, fun x F2 H2 ρ2 a2 r2 => ?_⟩⟩
  obtain ⟨C', dx, fs, h0, q1, q2, q3⟩ := a2.gh.ok i _ ho
  have := ClsAt.inj hc h0
  subst this
  have hi : i < ch2.length := (gX ho).1
  have r1' := r1.mono a2.old a2.ext a2.len
  obtain ⟨z1, z2⟩ := g0 (f := fn) r1' q2 q3
  refine ⟨_, C, dx, fs, r2.2, q1, hC, hN, ?_, ?_⟩
  · have := congrArg List.length q2
    rw [List.length_map] at this
    omega
  · have a3 := Adv.upd (o := .ins c' (bO ns l fn c1).1 (bO ns l fn c1).2) (u := .ins C dx (cY fn v fs)) a2.gh hi q1 (fun _ _ z => nomatch z) ⟨C, dx, _, hc, az, z1, z2⟩
    have a := (a1.trans en.gh a2).trans en.gh a3
    exact kk σ F2 _ ρ2 a (en.adv a)
end
def cO (m : Nat) (g : Fs) : Fd := fun cs ch => match g (cs.map some ++ List.replicate (m - cs.length) none) ch with
 | some (.rt c ch') => some (c, ch')
 | some (.nx _ ch') => some (.dat .non, ch')
 | _ => none
def lI {K : PySem.W.Frag} {F H : Hp} {ρ : Nat -> Addr} {ch : CH} {cs : List CV} {vs : List V} {N : List Str} (g : Gh K F H ρ ch) (r : RelCs K F ρ ch.length cs vs) : Ge K (cs.map some ++ List.replicate (N.length - cs.length) none) ch (cP N vs) F H ρ := by
 have hl := r.length
 refine ⟨g, by simp [cP, hl], fun i c h => ?_⟩
 by_cases hi : i < cs.length
 · rw [List.getElem?_append_left (by simpa using hi), List.getElem?_map] at h
   have hd : cs[i]? = some cs[i] := by simp [hi]
   rw [hd] at h
   cases h
   obtain ⟨v, hv, rv⟩ := r.get hd
   refine ⟨v, ?_, rv⟩
   unfold cP
   rw [List.getElem?_append_left (by simp; omega), List.getElem?_map, hv]
   rfl
 · rw [List.getElem?_append_right (by simpa using hi)] at h
   rw [List.getElem?_replicate] at h
   split at h <;> cases h
section
variable {P : Program} {w : World} {K : PySem.W.Frag} {mg : Str -> Option Value} {base : Heap}
def ky {x q : Str} {st : Stmt} {N ps : List Str} {k n : Nat} {g : Fs} {f : Addr} {fd : FuncData} (D : Fun K x q st f fd) (S : FnScope N ps (ab st)) (hn : ps.length = n)
  (hbody : ∀ (cdv : Value) (A : Around) (outer : List Env) (s : Shared) (H : Hp) (E : XK), Room k (A.deeper (envOfC q (ab st) s.heap.objs.size f cdv)) -> GS (ig CX0 P w K mg base N q (ab st) f cdv A outer s H E).nox (aE st) g) :
  FnOk P w K mg base CX0 (k + 1) f fd ps (spG K n (cO N.length g)) := by
 refine D.ok S (fun vs H Q E h => ?_) (fun cdv A outer s H vs Q E hr h => ?_)
 · obtain ⟨F, ρ, cs, ch, c, ch', _, hl, r, _⟩ := h
   rw [r.length, hl, hn]
 · obtain ⟨F, ρ, cs, ch, c, ch', gh, hl, r, hf, kq⟩ := h
   refine ⟨_, hbody cdv A outer s H E hr, ?_⟩
   unfold cO at hf
   split at hf
   · rename_i c1 ch1 q
     cases hf
     exact ⟨_, ch, F, ρ, _, lI gh r, q, fun v F' H' ρ' a z => kq v F' H' ρ' a z⟩
   · rename_i δ1 ch1 q
     cases hf
     exact ⟨_, ch, F, ρ, _, lI gh r, q, fun σ' F' H' ρ' a z => kq .non F' H' ρ' a (kd (K := K) (F := F'))⟩
   · cases hf
end
section
variable {X : Cx} {e a b o : Expr} {es rest : List Expr} {f fa fb fe : Fg} {fs : Fgs} {ta tb : Ft} {pos apos cpos p : Pos} {sc : Scope} {x : Str} {K : PySem.W.Frag}
def GW (X : Cx) (e : Expr) (f : Ft) : Prop := PW X e (tGT X.K f)
def eU (f : Ft) : Ft := fun δ ch => (f δ ch).map fun p => (!p.1, p.2)
def lJ (f g : Ft) : Ft := fun δ ch => (f δ ch).bind fun p => if p.1 then g δ p.2 else some (false, p.2)
def qV (f g : Ft) : Ft := fun δ ch => (f δ ch).bind fun p => if p.1 then some (true, p.2) else g δ p.2
def eX (f : Fg) : Ft := fun δ ch => (f δ ch).bind fun p => (vw p.2 p.1).bind fun d => (sK d).map fun b => (b, p.2)
def gx (ha : GE X a fa) (he : ∀ whole, isTrue a X.env whole = (do let v <- whole; standAt a.pos; holding [v] (truthy v))) : GT X a (eX fa) := PT.mono (kZ ha he) fun σ H Q ⟨δ, ch, F, ρ, b, ch', en, hf, k⟩ => by
 unfold eX at hf
 obtain ⟨p, hp, hf⟩ := bS hf
 obtain ⟨d, hd, hf⟩ := bS hf
 obtain ⟨c, hc, hf⟩ := mS hf
 cases hf
 exact ⟨δ, ch, F, ρ, p.1, _, en, hp, fun v F' H' ρ' a r => ⟨_, nR a.gh.fh (fM a.gh r hd) hc, k F' H' ρ' a⟩⟩
def mV (h : GT X a ta) : GT X (.UnaryOp .Not a pos) (eU ta) := PT.mono (pG h) fun σ H Q ⟨δ, ch, F, ρ, b, ch', en, hf, k⟩ => by
 unfold eU at hf
 obtain ⟨p, hp, hf⟩ := mS hf
 cases hf
 exact ⟨δ, ch, F, ρ, p.1, p.2, en, hp, fun F' H' ρ' a => k F' H' ρ' a⟩
def tJ (h : GT X a ta) : GW X (.BoolOp .And [a] pos) ta := na h
def wJ (h : GT X a ta) : GW X (.BoolOp .Or [a] pos) ta := vf h
def wK (h : GT X a ta) (h' : GW X (.BoolOp .And (b :: rest) pos) tb) : GW X (.BoolOp .And (a :: b :: rest) pos) (lJ ta tb) := PW.mono (pF h h') fun σ H Q ⟨δ, ch, F, ρ, t, ch', en, hf, k⟩ => by
 unfold lJ at hf
 obtain ⟨p, hp, hf⟩ := bS hf
 refine ⟨δ, ch, F, ρ, p.1, p.2, en, hp, fun F' H' ρ' a => ?_⟩
 split at hf
 · rename_i q
   rw [if_pos q]
   exact ⟨δ, p.2, F', ρ', t, ch', en.adv a, hf, fun F2 H2 ρ2 a2 => k F2 H2 ρ2 (a.trans en.gh a2)⟩
 · rename_i q
   rw [if_neg q]
   cases hf
   exact k F' H' ρ' a
def xP (h : GT X a ta) (h' : GW X (.BoolOp .Or (b :: rest) pos) tb) : GW X (.BoolOp .Or (a :: b :: rest) pos) (qV ta tb) := PW.mono (xi h h') fun σ H Q ⟨δ, ch, F, ρ, t, ch', en, hf, k⟩ => by
 unfold qV at hf
 obtain ⟨p, hp, hf⟩ := bS hf
 refine ⟨δ, ch, F, ρ, p.1, p.2, en, hp, fun F' H' ρ' a => ?_⟩
 split at hf
 · rename_i q
   rw [if_pos q]
   cases hf
   exact k F' H' ρ' a
 · rename_i q
   rw [if_neg q]
   exact ⟨δ, p.2, F', ρ', t, ch', en.adv a, hf, fun F2 H2 ρ2 a2 => k F2 H2 ρ2 (a.trans en.gh a2)⟩
def GW.t (h : GW X a ta) : GT X a ta := h.pt
def pw : CV -> Option Bool
 | .dat (.bl b) => some b
 | _ => none
def tK {F : Hp} {ρ : Nat -> Addr} {n : Nat} {c : CV} {b : Bool} {v : V} (h : pw c = some b) (r : RelC K F ρ n c v) : v = .bl b := by
 unfold pw at h
 split at h <;> cases h
 have r : Rep K F (.bl b) v := r
 simp only [Rep] at r
 exact r
def kz (f g : Fg) : Fg := fun δ ch => (f δ ch).bind fun p => (pw p.1).bind fun b => if b then g δ p.2 else some (.dat (.bl false), p.2)
def qW {op} (h : GE X a fa) : GE X (.BoolOp op [a] pos) fa := pH h
def mW (h : GE X a fa) (h' : GE X (.BoolOp .And (b :: rest) pos) fb) : GE X (.BoolOp .And (a :: b :: rest) pos) (kz fa fb) := PE.mono (pI h h') fun σ H Q ⟨δ, ch, F, ρ, c, ch', en, hf, k⟩ => by
 unfold kz at hf
 obtain ⟨p, hp, hf⟩ := bS hf
 obtain ⟨b, hb, hf⟩ := bS hf
 refine ⟨δ, ch, F, ρ, p.1, p.2, en, hp, fun v F' H' ρ' a r => ⟨b, tK hb r, ?_⟩⟩
 split at hf
 · rename_i q
   rw [if_pos q]
   exact ⟨δ, p.2, F', ρ', c, ch', en.adv a, hf, k.adv en.gh a⟩
 · rename_i q
   rw [if_neg q]
   cases hf
   exact k _ F' H' ρ' a (kc (K := X.K) (F := F'))
def mX {op : CmpOp} {r : R2} {g : Dt -> Dt -> Option T} (ho : OpR X (compareOp op) r) (hr : R2D X.K r g) (ha : GE X a fa) (hb : GE X b fb) (hm : behindInMarks op b = false) : GE X (.Compare a [op] [b] pos) (e2 g fa fb) := PE.mono (np ho ha hb hm) fun _ _ _ h => qU hr h
def vws (ch : CH) : List CV -> Option (List Dt)
 | [] => some []
 | c :: l => (vw ch c).bind fun d => (vws ch l).map (d :: ·)
def g5 {F H : Hp} {ρ : Nat -> Addr} {ch : CH} (g : Gh K F H ρ ch) : ∀ {l : List CV} {ds : List Dt} {vs : List V}, RelCs K F ρ ch.length l vs -> vws ch l = some ds -> RepBs K F H ds vs
 | [], ds, vs, r, h => by cases h; exact r
 | c :: l, ds, vs, r, h => by
  simp only [vws] at h
  obtain ⟨d, hd, h⟩ := bS h
  obtain ⟨es, he, rfl⟩ := mS h
  obtain ⟨v, ws, e, r1, r2⟩ := r
  exact ⟨v, ws, e, fM g r1 hd, g5 g r2 he⟩
def eB (g : List Dt -> Option T) (fs : Fgs) : Fg := fun δ ch => (fs δ ch).bind fun p => (vws p.2 p.1).bind fun ds => (g ds).bind (al p.2)
def uS {r : List V -> Hp -> VK -> Prop} {g : List Dt -> Option T} (hr : CRD K r g) {σ : St} {H : Hp} {Q : VK} (h : tG K (eB g fs) σ H Q) : tCB r (tGs K fs) σ H Q := by
 obtain ⟨δ, ch, F, ρ, c, ch', en, hf, k⟩ := h
 unfold eB at hf
 obtain ⟨p, hp, hf⟩ := bS hf
 obtain ⟨ds, hd, hf⟩ := bS hf
 obtain ⟨t, ht, hf⟩ := bS hf
 exact ⟨δ, ch, F, ρ, p.1, p.2, en, hp, fun vs F1 H1 ρ1 a1 r1 => hr F1 H1 ds vs Q t a1.gh.fh (g5 a1.gh r1 hd) ht (lE a1.gh hf (k.adv en.gh a1))⟩
def ja {id : String} {r : List V -> Hp -> VK -> Prop} {gg : List Dt -> Option T} (h : aT sc x = true) (hc : cX X (.builtin id) r) (hr : CRD X.K r gg) (hm : X.mg x = none) (hv : bootBuiltins x = some (.builtin id)) (ha : GA X (e :: es) fs) (e1 : ck X sc := by rfl)
  (he : starEach (e :: es) X.env = (false, eval e X.env) :: starEach es X.env := by rfl) (hpl : (backTo pos (starEach es X.env)).any (·.1) = false := by rfl) : GE X (.Call (.Name x p) (e :: es) [] pos) (eB gg fs) :=
 PE.mono (gO h hc hm hv ha e1 he hpl) fun σ H Q q => uS hr q
def jb {Ty : String} {r : List V -> Hp -> VK -> Prop} {gg : List Dt -> Option T} (h : aT sc x = true) (hc : cX X (.type Ty) r) (hr : CRD X.K r gg) (hm : X.mg x = none) (hv : bootBuiltins x = some (.type Ty)) (ha : GA X (e :: es) fs) (e1 : ck X sc := by rfl)
  (he : starEach (e :: es) X.env = (false, eval e X.env) :: starEach es X.env := by rfl) (hpl : (backTo pos (starEach es X.env)).any (·.1) = false := by rfl) : GE X (.Call (.Name x p) (e :: es) [] pos) (eB gg fs) :=
 PE.mono (fX h hc hm hv ha e1 he hpl) fun σ H Q q => uS hr q
def eCV (ff : List Dt -> Option T) (fs : Fgs) : Fg := fun δ ch => (fs δ ch).bind fun p => (vws p.2 p.1).bind fun ds => (ff ds).bind fun u => (n8 u).bind (al p.2)
def oh {ch : CH} : ∀ {l : List CV} {ds : List Dt}, vws ch l = some ds -> ds.length = l.length
 | [], ds, h => by cases h; rfl
 | c :: l, ds, h => by
  simp only [vws] at h
  obtain ⟨d, hd, h⟩ := bS h
  obtain ⟨es, he, rfl⟩ := mS h
  simp [oh he]
def gy {k n : Nat} {ps : List Str} {ff : List Dt -> Option T} (h : aT sc x = true) (F : OkF X.prog X.w X.K X.mg X.base x k ps (spD X.K n ff)) (hr : Room k X.A) (ha : GA X (e :: es) fs) (hn : ∀ δ ch p, fs δ ch = some p -> p.1.length = n) (e1 : ck X sc := by rfl)
  (he : starEach (e :: es) X.env = (false, eval e X.env) :: starEach es X.env := by rfl) (hpl : (backTo pos (starEach es X.env)).any (·.1) = false := by rfl) : GE X (.Call (.Name x p) (e :: es) [] pos) (eCV ff fs) :=
 PE.mono (gS h F hr ha e1 he hpl) fun σ H Q ⟨δ, ch, Fz, ρ, c, ch', en, hf, k⟩ => by
  unfold eCV at hf
  obtain ⟨p, hp, hf⟩ := bS hf
  obtain ⟨ds, hd, hf⟩ := bS hf
  obtain ⟨u, hu, hf⟩ := bS hf
  obtain ⟨t, ht, hf⟩ := bS hf
  refine ⟨δ, ch, Fz, ρ, p.1, p.2, en, hp, fun vs F1 H1 ρ1 a1 r1 => ?_⟩
  show spD X.K n ff (vs ++ []) H1 Q E0
  rw [List.append_nil]
  exact ⟨H1, ds, u, Same.refl _, (oh hd).trans (hn δ ch p hp), (g5 a1.gh r1 hd).reps a1.gh.fh, hu, qS a1.gh.fh ht (lE a1.gh hf (k.adv en.gh a1))⟩
noncomputable def eMk (c : Str) (g : Fd) (fs : Fgs) : Fg := fun δ ch => (fs δ ch).bind fun p => (g (.ref p.2.length :: p.1) (p.2 ++ [.ins c [] []])).bind fun q => match q.1 with
 | .dat .non => if p.2.length < q.2.length then some (.ref p.2.length, q.2) else none
 | _ => none
def xQ {c : Str} {C : Addr} {n : Nat} {g : Fd} {as : TA} (h1 : ClsAt K c C) (hn : ∀ δ ch p, fs δ ch = some p -> p.1.length + 1 = n) (has : ∀ σ H Q, tGs K fs σ H Q -> as σ H Q) : ∀ σ H Q, tG K (eMk c g fs) σ H Q -> uu C (spG K n g) [] E0 as σ H Q := fun σ H Q ⟨δ, ch, F, ρ, c0, ch', en, hf, k⟩ => by
 unfold eMk at hf
 obtain ⟨⟨cs, ch1⟩, hp, hf1⟩ := bS hf
 clear hf
 obtain ⟨⟨r, ch2⟩, hq, hf⟩ := bS hf1
 clear hf1
 dsimp only at hf
 split at hf <;> first | (cases hf; done) | skip
 split at hf <;> cases hf
 rename_i hlt
 refine has _ _ _ ⟨δ, ch, F, ρ, cs, ch1, en, hp, fun vs F1 H1 ρ1 a1 r1 x dx hx hdx hne => ?_⟩
 have st : Step F1 H1 F1 (upd (upd H1 dx (.own x)) x (.ins C dx [])) := (Step.made a1.gh.fh hdx).trans (Step.made (a1.gh.fh.trans (Same.upd hdx)) (by rw [ay (Ne.symm hne)]; exact hx))
 have a2 := Adv.new (o := .ins c [] []) a1.gh st hx (a1.gh.fh.free hx) ⟨C, dx, [], h1, az, rfl, rfl⟩
 have a12 := a1.trans en.gh a2
 show spG K n g (V.ref x :: (vs ++ [])) _ _ E0
 rw [List.append_nil]
 refine ⟨F1, _, .ref ch1.length :: cs, ch1 ++ [.ins c [] []], _, _, a2.gh, hn δ ch _ hp, ⟨_, vs, rfl, ⟨by simp, ?_⟩, r1.mono (Same.refl _) a2.ext (by simp)⟩, hq, fun v F' H' ρ' a3 rv => ⟨?_, ?_⟩⟩
 · (try dsimp only)
   rw [if_pos rfl]
 · have rv : Rep K F' .non v := rv
   simp only [Rep] at rv
   exact rv
 · refine k _ F' H' ρ' (a12.trans en.gh a3) ⟨hlt, ?_⟩
   rw [a3.ext ch1.length (by simp)]
   (try dsimp only)
   rw [if_pos rfl]
def oj {c : Str} {k n : Nat} {ps : List Str} {g : Fd} (h : aT sc c = true) (F : OkI X.prog X.w X.K X.mg X.base c k ps (spG X.K n g)) (hr : Room (k + 1) X.A) (ha : GA X (e :: es) fs) (hn : ∀ δ ch p, fs δ ch = some p -> p.1.length + 1 = n) (e1 : ck X sc := by rfl)
  (he : starEach (e :: es) X.env = (false, eval e X.env) :: starEach es X.env := by rfl) (hpl : (backTo pos (starEach es X.env)).any (·.1) = false := by rfl) : GE X (.Call (.Name c p) (e :: es) [] pos) (eMk c g fs) := by
 obtain ⟨C, g', fd, h1, h2, h3, h4, h5⟩ := F.ex
 exact PE.mono (si h3 h5 hr (glD h e1) h2 h4 .nil nA ha (gM h) he hpl) (xQ h1 hn fun _ _ _ q => q)
def eIf (c : Ft) (f g : Fg) : Fg := fun δ ch => (c δ ch).bind fun p => if p.1 then f δ p.2 else g δ p.2
def uT {c : Expr} {tc : Ft} (hc : GT X c tc) (h : GE X a fa) (h' : GE X b fb) : GE X (.IfExp c a b pos) (eIf tc fa fb) := PE.mono (kX hc h h') fun σ H Q ⟨δ, ch, F, ρ, x, ch', en, hf, k⟩ => by
 unfold eIf at hf
 obtain ⟨p, hp, hf⟩ := bS hf
 refine ⟨δ, ch, F, ρ, p.1, p.2, en, hp, fun F' H' ρ' a => ?_⟩
 split at hf
 · rename_i q
   rw [if_pos q]
   exact ⟨δ, p.2, F', ρ', x, ch', en.adv a, hf, k.adv en.gh a⟩
 · rename_i q
   rw [if_neg q]
   exact ⟨δ, p.2, F', ρ', x, ch', en.adv a, hf, k.adv en.gh a⟩
def aV : ∀ δ ch p, aB δ ch = some p -> p.1.length = 0 := fun δ ch p h => by cases h; rfl
def y1 {f : Fg} {fs : Fgs} {n : Nat} (h : ∀ δ ch p, fs δ ch = some p -> p.1.length = n) : ∀ δ ch p, ah f fs δ ch = some p -> p.1.length = n + 1 := fun δ ch p hp => by
 unfold ah at hp
 obtain ⟨a, ha, hp⟩ := bS hp
 obtain ⟨b, hb, hp⟩ := mS hp
 cases hp
 simp [h _ _ _ hb]
def dY {fs : Fgs} {n : Nat} (h : ∀ δ ch p, fs δ ch = some p -> p.1.length = n) : ∀ δ ch p, fs δ ch = some p -> p.1.length + 1 = n + 1 := fun δ ch p hp => by rw [h δ ch p hp]
end
section
variable {P : Program} {w : World} {K : PySem.W.Frag} {mg : Str -> Option Value} {base : Heap}
def iz {x : Str} {st : Stmt} {N ps : List Str} {k n : Nat} {g : Fs} (D : DefF K mg x st ps) (S : FnScope N ps (ab st)) (hn : ps.length = n)
  (hbody : ∀ (f : Addr) (cdv : Value) (A : Around) (outer : List Env) (s : Shared) (H : Hp) (E : XK), Room k (A.deeper (envOfC x (ab st) s.heap.objs.size f cdv)) -> GS (ig CX0 P w K mg base N x (ab st) f cdv A outer s H E).nox (aE st) g) :
  OkF P w K mg base x (k + 1) ps (spG K n (cO N.length g)) := by
 obtain ⟨f, fd, h1, h2, h3, h4⟩ := D.ex
 exact ⟨f, fd, h1, h2, h3, ky h4 S hn (hbody f)⟩
def bZ {c m q : Str} {st : Stmt} {N ps : List Str} {k n : Nat} {g : Fs} (D : DefM K c m q st ps) (S : FnScope N ps (ab st)) (hn : ps.length = n)
  (hbody : ∀ (f : Addr) (cdv : Value) (A : Around) (outer : List Env) (s : Shared) (H : Hp) (E : XK), Room k (A.deeper (envOfC q (ab st) s.heap.objs.size f cdv)) -> GS (ig CX0 P w K mg base N q (ab st) f cdv A outer s H E).nox (aE st) g) :
  OkM P w K mg base c m (k + 1) ps (spG K n (cO N.length g)) := by
 obtain ⟨C, f, fd, h1, h2, h3, h4, h5⟩ := D.ex
 exact ⟨C, f, fd, h1, h2, h3, h4, ky h5 S hn (hbody f)⟩
def tM {c q : Str} {st : Stmt} {N ps : List Str} {k n : Nat} {g : Fs} (D : DefI K mg c q st ps) (S : FnScope N ps (ab st)) (hn : ps.length = n)
  (hbody : ∀ (f : Addr) (cdv : Value) (A : Around) (outer : List Env) (s : Shared) (H : Hp) (E : XK), Room k (A.deeper (envOfC q (ab st) s.heap.objs.size f cdv)) -> GS (ig CX0 P w K mg base N q (ab st) f cdv A outer s H E).nox (aE st) g) :
  OkI P w K mg base c (k + 1) ps (spG K n (cO N.length g)) := by
 obtain ⟨C, f, fd, h1, h2, h3, h4, h5⟩ := D.ex
 exact ⟨C, f, fd, h1, h2, h3, h4, ky h5 S hn (hbody f)⟩
end
section
variable {X : Cx} {e a b c o : Expr} {es rest : List Expr} {f fa fb fe : Fg} {fs : Fgs} {ta tb tc : Ft} {pos apos cpos p : Pos} {sc : Scope} {x : Str} {K : PySem.W.Frag} {g : Fs} {body : List Stmt}
end
def kA : typeLookup (.type "list") "keys" = pure none := by rw [typeLookup_type, builtinLookup_eq_fast]; kernel_rfl
def io : typeLookup (.type "list") "__getattr__" = pure none := by rw [typeLookup_type, builtinLookup_eq_fast]; kernel_rfl
def cv : plainId "dict.update.loop" = true := by decide +kernel
def eY : entryFor table "dict.update.loop" = some Builtin.«dict.update.loop» := entryFor_of_fast (by kernel_rfl)
section
variable {prog : Program} {w : World} {A : Around} {E : Value -> Shared -> Prop} {s : Shared} {a : Addr} {its : Array Value} {c : Nat} {sl : Array (Option Value)}
def mY {tk : Tok} {Q : Fin -> Shared -> Prop} (hx : s.heap.get? a = some { cls := .type "list", dict := none, data := .seq its c, slots := sl }) (hh : A.handled = none)
  (hE : ∀ h' tk e, Heap.NewAttrErr s.heap h' e (.ref a) "keys" -> E (.ref e) { s with heap := h', toks := tk }) :
  wpAny (model prog w) A (Builtin.«object.__getattribute__» ⟨[.ref a, .str "keys" tk], []⟩) Q E s := by
 obtain ⟨h, g, d, t, os⟩ := s
 have hT : (⟨h, g, d, t, os⟩ : Shared).TypeIs (.ref a) "list" := ⟨_, hx, rfl⟩
 have f4 := kA
 repeat (any_goals (first | assumption | wp_step))
 exact wpAny_raiseAttrError hh hE (attrMsg_fits (by decide +kernel) (by size_fits))
def px {Q : Option Value -> Shared -> Prop} (hx : s.heap.get? a = some { cls := .type "list", dict := none, data := .seq its c, slots := sl }) (hh : A.handled = none)
  (hQ : ∀ h' tk, (∀ b ob, s.heap.get? b = some ob -> h'.get? b = some ob) -> Q none { s with heap := h', toks := tk }) :
  wpAny (model prog w) A (getAttr? (.ref a) "keys") Q E s := by
 obtain ⟨h, g, d, t, os⟩ := s
 have hT : (⟨h, g, d, t, os⟩ : Shared).TypeIs (.ref a) "list" := ⟨_, hx, rfl⟩
 have f1 := sub_AttributeError
 have f3 := F.slot_list_getattribute.lookup
 have f4 := F.slot_list_getattribute.bind (.ref a)
 have f5 := io
 unfold getAttr? getAttrBy? getAttrBy
 repeat (any_goals (first | assumption | wp_step))
 refine codeAny_call_builtin F.slot_list_getattribute.plain F.entry_list_ga (F.slot_list_getattribute.check _ _ _ _ _ _ _ _ hT (F.args_list_getattribute_2 _ _) (mY hx hh fun h' tk e hn => ?_))
 obtain ⟨t', u', he⟩ := hn.there
 show wpAny _ _ (getattributeRaised _ _ _ _ _ _ _) _ _ _
 unfold getattributeRaised
 repeat (any_goals (first | assumption | wp_step))
 exact hQ _ _ hn.keeps
end
section
variable {prog : Program} {w : World} {A : Around} {E : Value -> Shared -> Prop} {s : Shared} {a : Addr} {its : Array Value} {c : Nat} {sl : Array (Option Value)}
end
section
variable {X : Cx} {e o : Expr} {sc : Scope} {p pos : Pos} {fs : De -> Option (List Dt)}
end
section
variable {prog : Program} {w : World} {A : Around}
def eZ (kvs : List (Key × Value)) : List (Key × Value) -> List (Key × Value)
 | [] => kvs
 | p :: ps => eZ (stored kvs p.1 p.2) ps
structure PairsAt (prog : Program) (w : World) (h : Heap) (it D : Addr) (items : Array Value) (ps : List (Key × Value)) : Prop where
 len : items.size = ps.length
 at_ : ∀ (j : Nat) (p : Key × Value), ps[j]? = some p -> ∃ t key o n, items[j]? = some (.ref t) /\ t ≠ it /\ t ≠ D /\ (aQ prog w).is p.1 key = true /\ h.get? t = some o /\ o.cls = .type "tuple" /\ o.data = .seq #[key, p.2] n
def PairsAt.keep {h h' : Heap} {it D : Addr} {items : Array Value} {ps : List (Key × Value)} (P : PairsAt prog w h it D items ps) (k : ∀ b o, b ≠ it -> b ≠ D -> h.get? b = some o -> h'.get? b = some o) : PairsAt prog w h' it D items ps :=
 ⟨P.len, fun j p hp => by
  obtain ⟨t, key, o, n, h1, h2, h3, h4, h5, h6, h7⟩ := P.at_ j p hp
  exact ⟨t, key, o, n, h1, h2, h3, h4, k t o h2 h3 h5, h6, h7⟩⟩
def qX {l it D : Addr} {items : Array Value} {ps : List (Key × Value)} {result : Value} (hlD : l ≠ D) (hli : l ≠ it) (hiD : it ≠ D) :
  ∀ (k i : Nat) (A : Around) (s : Shared) (kvs : List (Key × Value)) (R : Result -> Shared -> Prop), A.handled = none -> ps.length - i = k -> i <= ps.length -> s.heap.IsListIter it l i -> s.heap.IsList l items -> PairsAt prog w s.heap it D items ps -> s.heap.DictOf (aQ prog w) D kvs →
   kvs.length + (ps.length - i) <= sizeLine →
   (∀ h' tk, h'.DictOf (aQ prog w) D (eZ kvs (ps.drop i)) -> (∀ b o, b ≠ it -> b ≠ D -> s.heap.get? b = some o -> h'.get? b = some o) -> R (.ok (.ret result)) { s with heap := h', toks := tk }) →
   codeAny (model prog w) A (.builtin "dict.update.loop" ⟨[.ref D, .ref it, rawInt i, result], []⟩) R s := by
 intro k
 induction k with
 | zero =>
  intro i A s kvs R hh hk hi hit hl hP hD hz hR
  have hin : i = ps.length := by omega
  subst hin
  refine codeAny_builtin eY ?_
  rw [Around.under_plainId cv _]
  unfold Builtin.«dict.update.loop»
  show wpAny _ _ (pyNext (.ref _) >>= _) _ _ _
  refine wpAny_bind (wpAny_pyNext_list_end hh hit hl (by rw [<- hP.len]; simp) fun h' eb => ?_)
  refine wB (wpAny_pure (wpAny_pure (hR h' s.toks ?_ fun b o hb _ e => eb b o hb e)))
  rw [List.drop_length]
  exact hD.extBut eb (Ne.symm hiD)
 | succ k ih =>
  intro i A s kvs R hh hk hi hit hl hP hD hz hR
  have hlt : i < ps.length := by omega
  obtain ⟨t, key, o, n, h1, h2, h3, h4, h5, h6, h7⟩ := hP.at_ i ps[i] (by simp [hlt])
  refine codeAny_builtin eY ?_
  rw [Around.under_plainId cv _]
  unfold Builtin.«dict.update.loop»
  show wpAny _ _ (pyNext (.ref _) >>= _) _ _ _
  refine wB (wpAny_pyNext_list_item hit hl h1 fun h' hit' sb => ?_)
  have h5' : h'.get? t = some o := (sb.2 t h2).trans h5
  have hD' : h'.DictOf (aQ prog w) D kvs := hD.sameBut sb (Ne.symm hiD)
  show wpAny _ _ (holding [Value.ref t] _ >>= _) _ _ _
  refine wB (wpAny_holding (wB (wpAny_tryCatch ?_)))
  unfold Builtin.Dict.pairItems
  refine wB (wpAny_typeOf (T := "tuple") ⟨o, h5', h6⟩ ?_)
  rw [if_pos (by decide)]
  refine wB (wpAny_seqItems h5' h7 ?_)
  refine wpAny_pure ?_
  show wpAny _ _ (holding [key, ps[i].2] (dictSet D key ps[i].2)) _ _ _
  refine wpAny_holding (wpAny_dictSet_pairs (hsz := by omega) h4 hD' fun h'' hD'' sb' => ?_)
  refine wpAny_pure ⟨plainId_quiet cv _, ?_⟩
  have kp : ∀ b o, b ≠ it -> b ≠ D -> s.heap.get? b = some o -> h''.get? b = some o := fun b o hb hb' e => by
   rw [sb'.2 b hb', sb.2 b hb]
   exact e
  have hl' : h''.IsList l items := by
   obtain ⟨ol, e1, e2⟩ := hl
   exact ⟨ol, kp l ol hli hlD e1, e2⟩
  have hit'' : h''.IsListIter it l (i + 1) := by
   obtain ⟨oi, e1, e2⟩ := hit'
   exact ⟨oi, by rw [sb'.2 it hiD]; exact e1, e2⟩
  refine ih (i + 1) _ _ (stored kvs ps[i].1 ps[i].2) R hh (by omega) (by omega) hit'' hl' (hP.keep kp) hD'' ?_ fun h3 tk hD3 kp3 => hR h3 tk ?_ fun b o hb hb' e => kp3 b o hb hb' (kp b o hb hb' e)
  · have := stored_length_le kvs ps[i].1 ps[i].2
    omega
  · have : ps.drop i = ps[i] :: ps.drop (i + 1) := List.drop_eq_getElem_cons hlt
    rw [this]
    exact hD3
variable {E : Value -> Shared -> Prop} {s : Shared} {a : Addr} {its : Array Value} {c : Nat} {sl : Array (Option Value)}
def jp {Q : Value -> Shared -> Prop} {ps : List (Key × Value)} (hx : s.heap.get? a = some { cls := .type "list", dict := none, data := .seq its c, slots := sl }) (hh : A.handled = none) (hl : its.size = ps.length) (hz : ps.length <= sizeLine)
  (hp : ∀ (j : Nat) (p : Key × Value), ps[j]? = some p -> ∃ t key o n, its[j]? = some (.ref t) /\ (aQ prog w).is p.1 key = true /\ s.heap.get? t = some o /\ o.cls = .type "tuple" /\ o.data = .seq #[key, p.2] n)
  (hQ : ∀ h' tk, h'.DictOf (aQ prog w) s.heap.objs.size (eZ [] ps) -> (∀ b ob, s.heap.get? b = some ob -> h'.get? b = some ob) -> Q (.ref s.heap.objs.size) { s with heap := h', toks := tk }) :
  wpAny (model prog w) A (call (.type "dict") [.ref a]) Q E s := by
 refine callType_codes (Q₁ := fun obj s₁ => obj = .ref s.heap.objs.size /\ s₁ = { s with heap := s.heap.push { cls := .type "dict", data := .dict #[] } }) F.kt_called_dict (F.kt_typeCall_dict_1 _) F.entry_dict_init (kt_code_dict_new _ ⟨rfl, rfl⟩) ?_
 rintro obj s₁ ⟨rfl, rfl⟩
 have hnew : (s.heap.push { cls := .type "dict", data := .dict #[] }).DictOf (aQ prog w) s.heap.objs.size [] := Heap.DictOf.new s.heap
 have hx1 : (s.heap.push { cls := .type "dict", data := .dict #[] }).get? a = some { cls := .type "list", dict := none, data := .seq its c, slots := sl } := gP _ hx
 refine ⟨hnew.typeIs, F.args_dict_init_2 _ _, ?_⟩
 unfold Builtin.«dict.__init__»
 refine wB ?_
 unfold Builtin.Dict.selfAndRest
 refine wB (wpAny_notOrdered_dict hnew.typeIs ?_)
 show wpAny _ _ (pure (s.heap.objs.size, [Value.ref a])) _ _ _
 refine wpAny_pure ?_
 show wpAny _ _ (Builtin.Dict.updateFrom "dict.__init__" s.heap.objs.size (.ref a) [] .none) _ _ _
 unfold Builtin.Dict.updateFrom
 refine wB (wpAny_typeOf (T := "list") ⟨_, hx1, rfl⟩ ?_)
 rw [if_pos (by decide)]
 refine wB (px hx1 hh fun h' tk kp => ?_)
 rw [if_pos (by rfl)]
 refine wB (wpAny_rule ?_)
 have hx2 := kp _ _ hx1
 refine wB (wpAny_pyIter_list (items := its) ⟨_, hx2, rfl, _, rfl⟩ ?_)
 refine wpAny_pure ⟨plainId_quiet cv _, ?_⟩
 have ha : a < s.heap.objs.size := Heap.lt_size hx
 obtain ⟨oD, esD, epD, eD, restD⟩ := hnew
 have hD2 : s.heap.objs.size < h'.objs.size := Heap.lt_size (kp _ _ eD)
 refine qX (l := a) (it := h'.objs.size) (D := s.heap.objs.size) (items := its) (ps := ps) (Nat.ne_of_lt ha) (Nat.ne_of_lt (Nat.lt_trans ha hD2)) (Ne.symm (Nat.ne_of_lt hD2)) ps.length 0 _ _ [] _ hh (by simp) (Nat.zero_le _) ⟨_, Heap.get?_push_size _ rfl, rfl, rfl⟩ ⟨_, Heap.get?_push_of_some _ hx2, rfl, _, rfl⟩ ⟨hl, fun j p hj => ?_⟩ ⟨oD, esD, epD, Heap.get?_push_of_some _ (kp _ _ eD), restD⟩ (by simpa using hz) fun h3 tk3 hD3 kp3 => ⟨rfl, ?_⟩
 · obtain ⟨t, key, o, n, h1, h2, h3, h4, h5⟩ := hp j p hj
   have ht := Heap.lt_size h3
   exact ⟨t, key, o, n, h1, Nat.ne_of_lt (Nat.lt_trans ht hD2), Nat.ne_of_lt ht, h2, gP _ (kp _ _ (gP _ h3)), h4, h5⟩
 · refine hQ h3 tk3 (by simpa using hD3) fun b ob e => kp3 b ob (Nat.ne_of_lt (Nat.lt_trans (Heap.lt_size e) hD2)) (Nat.ne_of_lt (Heap.lt_size e)) (Heap.get?_push_of_some _ (kp _ _ (Heap.get?_push_of_some _ e)))
end
def cF (kvs : List (Key × V)) : List (Key × V) -> List (Key × V)
 | [] => kvs
 | p :: ps => cF (cp kvs p.1 p.2) ps
def KV.all : ∀ {ps : List (Key × V)} {qs : List (Key × Value)} {kvs : List (Key × V)} {vs : List (Key × Value)}, KV ps qs -> KV kvs vs -> KV (cF kvs ps) (eZ vs qs)
 | [], [], _, _, _, r => r
 | [], _ :: _, _, _, h, _ => by cases h
 | _ :: _, [], _, _, h, _ => by cases h
 | p :: ps, q :: qs, kvs, vs, h, r => by
  cases h with
  | cons hp ht =>
   obtain ⟨e, rp⟩ := hp
   have := KV.all ht (r.put p.1 rp)
   show KV (cF (cp kvs p.1 p.2) ps) (eZ (stored vs q.1 q.2) qs)
   rw [<- e]
   exact this
def jc : ∀ (ps kvs : List (Key × V)), (cF kvs ps).length <= kvs.length + ps.length
 | [], kvs => by simp [cF]
 | p :: ps, kvs => by
  have h1 := jc ps (cp kvs p.1 p.2)
  have h2 := dn kvs p.1 p.2
  simp only [cF, List.length_cons]
  omega
section
variable {X : Cx}
noncomputable def xR (K : PySem.W.Frag) : List V -> Hp -> VK -> Prop := fun xs H Q => ∃ (a : Addr) (vs : List V) (ps : List (Key × V)), xs = [.ref a] /\ SqL K H a vs /\ vs.length = ps.length ∧
 (∀ (j : Nat) (p : Key × V), ps[j]? = some p -> ∃ t, vs[j]? = some (.ref t) /\ SqT K H t [kV p.1, p.2]) /\ ∀ p, H p = none -> Q (.ref p) (upd H p (.dK (cF [] ps)))
def mZ (hc : X.calm = true) : cX X (.type "dict") (xR X.K) := by
 intro pins s σ H xs us Q I r h
 obtain ⟨a, vs, ps, rfl, hq, hl, hp, q⟩ := h
 obtain ⟨u, rfl, rx⟩ := la r
 cases rx
 obtain ⟨its, rv, ⟨⟨cls, dd, data, sl⟩, n, ho, h1, h2, h3⟩, hz⟩ := I.list hq
 simp only at h1 h2 h3
 subst h1 h2 h3
 -- the values of the pairs
 have ex : ∀ (j : Nat) (p : Key × V), ps[j]? = some p -> ∃ t key u n o, its[j]? = some (.ref t) /\ RelV (kV p.1) key /\ RelV p.2 u /\ s.heap.get? t = some o /\ o.cls = .type "tuple" /\ o.data = .seq #[key, u] n := fun j p hj => by
  obtain ⟨t, ht, hT⟩ := hp j p hj
  obtain ⟨u0, hu0, ru0⟩ := rv.get ht
  obtain rfl : u0 = Value.ref t := ru0
  obtain ⟨ws, rws, ⟨o, eo, ec, n, ed⟩, _⟩ := I.tuple hT
  obtain ⟨x, y, rfl, rx, ry⟩ := pR rws
  exact ⟨t, x, y, n, o, hu0, rx, ry, eo, ec, ed⟩
 have exq : ∃ qs : List (Key × Value), KV ps qs /\ ∀ (j : Nat) (p : Key × Value), qs[j]? = some p -> ∃ t key o n, its[j]? = some (.ref t) /\ (aQ X.prog X.w).is p.1 key = true /\ s.heap.get? t = some o /\ o.cls = .type "tuple" /\ o.data = .seq #[key, p.2] n := by
  have key : ∀ (ps : List (Key × V)) (its : List Value), (∀ (j : Nat) (p : Key × V), ps[j]? = some p -> ∃ t key u n o, its[j]? = some (.ref t) /\ RelV (kV p.1) key /\ RelV p.2 u /\ s.heap.get? t = some o /\ o.cls = .type "tuple" /\ o.data = .seq #[key, u] n) →
      ∃ qs : List (Key × Value), KV ps qs /\ ∀ (j : Nat) (p : Key × Value), qs[j]? = some p -> ∃ t key o n, its[j]? = some (.ref t) /\ (aQ X.prog X.w).is p.1 key = true /\ s.heap.get? t = some o /\ o.cls = .type "tuple" /\ o.data = .seq #[key, p.2] n := fun ps => by
   induction ps with
   | nil => exact fun its _ => ⟨[], .nil, fun j p h => by simp at h⟩
   | cons p ps ih =>
    intro its h
    obtain ⟨t, k, u, n, o, e1, e2, e3, e4, e5, e6⟩ := h 0 p rfl
    cases its with
    | nil => simp at e1
    | cons v its =>
     obtain ⟨qs, r1, r2⟩ := ih its fun j p hj => h (j + 1) p (by simpa using hj)
     refine ⟨(p.1, u) :: qs, .cons ⟨rfl, e3⟩ r1, fun j q hj => ?_⟩
     cases j with
     | zero =>
      simp at hj
      subst hj
      exact ⟨t, k, o, n, by simpa using e1, jy e2, e4, e5, e6⟩
     | succ j => simpa using r2 j q (by simpa using hj)
  exact key ps its ex
 obtain ⟨qs, rq, hq2⟩ := exq
 have hlen : its.length = qs.length := by rw [<- rv.length, hl]; exact rq.length
 have hzz : qs.length <= sizeLine := by rw [<- hlen, <- rv.length]; exact hz
 refine jp ho (I.ok.hd hc) (by simpa using hlen) hzz (fun j p hj => by
  obtain ⟨t, key, o, n, e1, e2⟩ := hq2 j p hj
  exact ⟨t, key, o, n, by simpa using e1, e2⟩) fun h' tk hD kp => ⟨.ref s.heap.objs.size, _, I.laid (a := s.heap.objs.size) (o := .dK (cF [] ps)) (t' := tk) kp (Nat.le_refl _) ?_, rfl, q _ (I.hok.fresh (Nat.le_refl _))⟩
 refine mx ?_ (beq_eq_false_iff_ne.mpr (Ne.symm (Nat.ne_of_lt I.big))) (KV.all rq .nil) hD
 have := jc ps []
 have := rq.length
 simp at *
 omega
end
def kB {kvs : List (Key × V)} {k : Key} (h : k ∉ kvs.map (·.1)) : dE kvs k = none := by
 cases q : dE kvs k with
 | none => rfl
 | some v => exact absurd (sD q) h
def gd : ∀ {ps kvs : List (Key × V)}, ((kvs ++ ps).map (·.1)).Nodup -> cF kvs ps = kvs ++ ps
 | [], kvs, _ => by simp [cF]
 | p :: ps, kvs, h => by
  have hk : p.1 ∉ kvs.map (·.1) := fun z => by
   rw [List.map_append] at h
   exact (List.nodup_append.mp h).2.2 p.1 z p.1 (by simp) rfl
  simp only [cF]
  rw [qb _ (kB hk), gd (by simpa using h)]
  simp
def lK (ch : CH) : CV -> Option (Key × CV)
 | .dat (.tup [k, d]) => (dU k).map fun k => (k, .dat d)
 | .ref j => match ch[j]? with
  | some (.tup [.dat k, c]) => (dU k).map fun k => (k, c)
  | _ => none
 | _ => none
def dZ (ch : CH) : List CV -> Option (List (Key × CV))
 | [] => some []
 | c :: l => (lK ch c).bind fun p => (dZ ch l).map (p :: ·)
section
variable {K : PySem.W.Frag} {F H : Hp} {ρ : Nat -> Addr} {ch : CH}
def qY (g : Gh K F H ρ ch) {c : CV} {v : V} {p : Key × CV} (h : lK ch c = some p) (r : RelC K F ρ ch.length c v) : ∃ t u, v = .ref t /\ SqT K H t [kV p.1, u] /\ RelC K F ρ ch.length p.2 u := by
 unfold lK at h
 split at h
 · rename_i k d
   obtain ⟨kk, hk, rfl⟩ := mS h
   have r : Rep K F (.tup [k, d]) v := r
   simp only [Rep, Reps] at r
   obtain ⟨t, vs, rfl, h1, x, ws, rfl, rx, y, ws', rfl, ry, rfl⟩ := r
   have := dh hk rx
   subst this
   exact ⟨t, y, rfl, g.fh.tup h1, ry⟩
 · rename_i j
   split at h <;> first | (cases h; done) | skip
   rename_i k c' hj
   obtain ⟨kk, hk, rfl⟩ := mS h
   obtain ⟨vs, h1, x, ws, e, rx, y, ws', e', ry, e''⟩ := g.ok j _ hj
   subst e'
   subst e
   have e'' : ws' = [] := e''
   subst e''
   have := dh hk rx
   subst this
   exact ⟨_, y, r.2, SqT.of h1, ry⟩
 · cases h
def jS (g : Gh K F H ρ ch) : ∀ {l : List CV} {vs : List V} {ps : List (Key × CV)}, dZ ch l = some ps -> RelCs K F ρ ch.length l vs -> ∃ qs : List (Key × V), vs.length = qs.length /\ qs.map (·.1) = ps.map (·.1) /\ RelCs K F ρ ch.length (ps.map (·.2)) (qs.map (·.2)) /\ ∀ (j : Nat) (q : Key × V), qs[j]? = some q -> ∃ t, vs[j]? = some (.ref t) /\ SqT K H t [kV q.1, q.2]
 | [], vs, ps, h, r => by
  cases h
  have r : vs = [] := r
  subst r
  exact ⟨[], rfl, rfl, rfl, fun j q hq => by simp at hq⟩
 | c :: l, vs, ps, h, r => by
  simp only [dZ] at h
  obtain ⟨p, hp, h⟩ := bS h
  obtain ⟨ps', hps, rfl⟩ := mS h
  obtain ⟨v, ws, rfl, r1, r2⟩ := r
  obtain ⟨t, u, rfl, h1, h2⟩ := qY g hp r1
  obtain ⟨qs, q1, q2, q3, q4⟩ := jS g hps r2
  refine ⟨(p.1, u) :: qs, by simp [q1], by simp [q2], ⟨u, _, rfl, h2, q3⟩, fun j q hq => ?_⟩
  cases j with
  | zero =>
   simp at hq
   subst hq
   exact ⟨t, rfl, h1⟩
  | succ j => simpa using q4 j q (by simpa using hq)
end
section
variable {X : Cx} {e a b o : Expr} {es : List Expr} {f fa fb fc fe : Fg} {fs : Fgs} {pos apos cpos p : Pos} {sc : Scope} {x : Str} {K : PySem.W.Frag}
noncomputable def ia (fa : Fg) : Fg := fun δ ch => (fa δ ch).bind fun p => match p.1 with
 | .ref i => match p.2[i]? with
  | some (.lst l) => (dZ p.2 l).bind fun ps => if (ps.map (·.1)).Nodup then some (.ref p.2.length, p.2 ++ [.dK ps]) else none
  | _ => none
 | _ => none
def om (h : aT sc "dict" = true) (hc : X.calm = true) (hm : X.mg "dict" = none) (hv : bootBuiltins "dict" = some (.type "dict")) (ha : GE X a fa) (e1 : ck X sc := by rfl)
  (he : starEach [a] X.env = (false, eval a X.env) :: starEach [] X.env := by rfl) (hpl : (backTo pos (starEach [] X.env)).any (·.1) = false := by rfl) : GE X (.Call (.Name "dict" p) [a] [] pos) (ia fa) :=
 PE.mono (fX h (mZ hc) hm hv (dm ha fV he) e1 he hpl) fun σ H Q ⟨δ, ch, F, ρ, c, ch', en, hf, k⟩ => by
  unfold ia at hf
  obtain ⟨⟨c1, ch1⟩, hp, hf1⟩ := bS hf
  clear hf
  dsimp only at hf1
  split at hf1 <;> first | (cases hf1; done) | skip
  rename_i i
  split at hf1 <;> first | (cases hf1; done) | skip
  rename_i l hl
  obtain ⟨ps, hps, hf2⟩ := bS hf1
  split at hf2 <;> first | (cases hf2; done) | skip
  rename_i nd
  cases hf2
  refine ⟨δ, ch, F, ρ, _, ch1, en, hp, fun v F1 H1 ρ1 a1 r1 => ?_⟩
  obtain ⟨vs, h1, h2⟩ := a1.gh.ok i _ hl
  obtain ⟨qs, q1, q2, q3, q4⟩ := jS a1.gh hps h2
  refine ⟨_, vs, qs, by rw [r1.2], SqL.of h1, q1, q4, fun q hq => ?_⟩
  have e : cF [] qs = qs := by rw [gd (by simpa [q2] using nd)]; simp
  rw [e]
  refine k (.ref q) F1 _ _ (a1.trans en.gh (kn (o := .dK ps) a1.gh hq ⟨qs, az, q2, q3⟩)) ⟨by simp, ?_⟩
  dsimp only
  rw [if_pos rfl]
noncomputable def lL (fa fb : Fg) : Fg := fun δ ch => (fa δ ch).bind fun p => (fb δ p.2).bind fun q => match p.1, q.1 with
 | .ref i, .dat (.int k) => match q.2[i]? with
  | some (.lst l) => if 0 <= k /\ k <= 1000000 /\ l.length * k.toNat <= sizeLine then some (.ref q.2.length, q.2 ++ [.lst (List.replicate k.toNat l).flatten]) else none
  | _ => none
 | _, _ => none
def jT {F : Hp} {ρ : Nat -> Addr} {n : Nat} {l : List CV} {vs : List V} (r : RelCs K F ρ n l vs) : ∀ k : Nat, RelCs K F ρ n (List.replicate k l).flatten (List.replicate k vs).flatten
 | 0 => rfl
 | k + 1 => by
  rw [List.replicate_succ, List.replicate_succ, List.flatten_cons, List.flatten_cons]
  exact r.append (jT r k)
def qZ (ha : GE X a fa) (hb : GE X b fb) : GE X (.BinOp a .Mult b pos) (lL fa fb) := PE.mono (pN vO ha hb) fun σ H Q ⟨δ, ch, F, ρ, c, ch', en, hf, kk⟩ => by
 unfold lL at hf
 obtain ⟨⟨c1, ch1⟩, hp, hf1⟩ := bS hf
 clear hf
 obtain ⟨⟨c2, ch2⟩, hq, hf2⟩ := bS hf1
 clear hf1
 dsimp only at hq hf2
 split at hf2 <;> first | (cases hf2; done) | skip
 rename_i i k
 split at hf2 <;> first | (cases hf2; done) | skip
 rename_i l hl
 split at hf2 <;> first | (cases hf2; done) | skip
 rename_i hz
 cases hf2
 refine ⟨δ, ch, F, ρ, _, ch1, en, hp, fun v F1 H1 ρ1 a1 r1 => ⟨δ, ch1, F1, ρ1, _, ch2, en.adv a1, hq, fun w F2 H2 ρ2 a2 r2 => ?_⟩⟩
 obtain ⟨vs, h1, h2⟩ := a2.gh.ok i _ hl
 have r2 : Rep X.K F2 (.int k) w := r2
 simp only [Rep] at r2
 refine ⟨_, k, vs, (r1.mono a2.old a2.ext a2.len).2, r2, h1, by omega, by omega, by rw [h2.length]; exact hz.2.2, fun q hq2 => ?_⟩
 refine kk (.ref q) F2 _ _ ((a1.trans en.gh a2).trans en.gh (kn (o := .lst (List.replicate k.toNat l).flatten) a2.gh hq2 ⟨_, az, jT h2 _⟩)) ⟨by simp, ?_⟩
 dsimp only
 rw [if_pos rfl]
noncomputable def m5 (c f : Str) (op : Int -> Int -> Int) (fa fe : Fg) : Fs := fun δ ch => (fa δ ch).bind fun p => match p.1 with
 | .ref i => match p.2[i]? with
  | some (.ins c' ns l) => if c' = c /\ ns.length < 1000 then match mU ns l f with
   | some (.dat (.int n)) => (fe δ p.2).bind fun q => match q.1, q.2[i]? with
    | .dat (.int m), some (.ins c2 ns2 l2) => if c2 = c /\ ns2.length < 1000 then some (.nx δ (q.2.set i (.ins c2 (bO ns2 l2 f (.dat (.int (op n m)))).1 (bO ns2 l2 f (.dat (.int (op n m)))).2))) else none
    | _, _ => none
   | _ => none
   else none
  | _ => none
 | _ => none
end
section
variable {X : Cx} {e a b o value : Expr} {es : List Expr} {f fa fb fc fe fk : Fg} {fs : Fgs} {pos apos cpos tpos p : Pos} {sc : Scope} {x : Str} {K : PySem.W.Frag}
def wL {cn fn : Str} {rd : V -> V -> Hp -> VK -> Prop} {op : Int -> Int -> Int} (hrd : ∀ n m H Q, Q (.int (op n m)) H -> rd (.int n) (.int m) H Q) (hf : gb X.K cn fn) : ∀ (D : Ends) (σ : St) (H : Hp), tGS X.K (m5 cn fn op fa fe) D σ H -> nr X.K (tG X.K fa) (tG X.K fe) rd fn D σ H := fun D σ H ⟨δ, ch, F, ρ, og, en, hg, kk⟩ => by
 obtain ⟨C, hc, hC, hN⟩ := hf
 unfold m5 at hg
 obtain ⟨⟨c1, ch1⟩, hp, hg1⟩ := bS hg
 clear hg
 dsimp only at hg1
 split at hg1 <;> first | (cases hg1; done) | skip
 rename_i i
 split at hg1 <;> first | (cases hg1; done) | skip
 rename_i c' ns l ho
 split at hg1 <;> first | (cases hg1; done) | skip
 rename_i hz
 obtain ⟨rfl, hz⟩ := hz
 split at hg1 <;> first | (cases hg1; done) | skip
 rename_i n hn
 obtain ⟨⟨c2, ch2⟩, hq, hg2⟩ := bS hg1
 clear hg1
 dsimp only at hg2
 split at hg2 <;> first | (cases hg2; done) | skip
 rename_i m c2' ns2 l2 ho2
 split at hg2 <;> first | (cases hg2; done) | skip
 rename_i hz2
 obtain ⟨rfl, hz2⟩ := hz2
 cases hg2
 refine ⟨δ, ch, F, ρ, _, ch1, en, hp, fun v F1 H1 ρ1 a1 r1 => ?_⟩
 obtain ⟨C', dx, gs, q0, q1, q2, q3⟩ := a1.gh.ok i _ ho
 have := ClsAt.inj hc q0
 subst this
 obtain ⟨u, hu, ru⟩ := km q2 q3 hn
 have ru : Rep X.K F1 (.int n) u := ru
 simp only [Rep] at ru
 subst ru
 refine ⟨_, C, dx, gs, _, r1.2, q1, hC, hN, hu, δ, ch1, F1, ρ1, _, ch2, en.adv a1, hq, fun y F2 H2 ρ2 a2 r2 => ?_⟩
 have r2 : Rep X.K F2 (.int m) y := r2
 simp only [Rep] at r2
 subst r2
 refine hrd n m H2 _ ?_
 obtain ⟨C2, dx2, gs2, z0, z1, z2, z3⟩ := a2.gh.ok i _ ho2
 have := ClsAt.inj hc z0
 subst this
 have hi2 : i < ch2.length := (gX ho2).1
 have hi1 : i < ch1.length := r1.1
 have r3 : RelC X.K F2 ρ2 ch2.length (.dat (.int (op n m))) (.int (op n m)) := dR (K := X.K) (F := F2)
 obtain ⟨w1, w2⟩ := g0 (f := fn) r3 z2 z3
 rw [a2.ext i hi1] at z1
 refine ⟨dx2, gs2, z1, ?_, ?_⟩
 · have := congrArg List.length z2
   rw [List.length_map] at this
   omega
 · have a3 := Adv.upd (o := .ins c2' (bO ns2 l2 fn (.dat (.int (op n m)))).1 (bO ns2 l2 fn (.dat (.int (op n m)))).2) (u := .ins C dx2 (cY fn (.int (op n m)) gs2)) (w := .ins C dx2 gs2) a2.gh hi2 (by rw [a2.ext i hi1]; exact z1) (fun _ _ z => nomatch z) ⟨C, dx2, _, hc, az, w1, w2⟩
   rw [a2.ext i hi1] at a3
   have aa := (a1.trans en.gh a2).trans en.gh a3
   exact kk σ F2 _ ρ2 aa (en.adv aa)
def oo {cn fn : Str} (h : GE X o fa) (hf : gb X.K cn fn) (he : GE X value fe) : GS1 X (.AugAssign (.Attribute o fn tpos) .Add value pos) (m5 cn fn (fun i j => i + j) fa fe) :=
 PS.mono (oV h he vG) (wL (fun n m H Q q => ⟨n, m, rfl, rfl, q⟩) hf)
noncomputable def kE (fo fk fx : Fg) : Fg := fun δ ch => (fo δ ch).bind fun p => match p.1 with
 | .ref i => match p.2[i]? with
  | some (.dK _) => (fk δ p.2).bind fun q => (fx δ q.2).bind fun r => match q.1, r.2[i]? with
   | .dat d, some (.dK l) => (dU d).map fun k => ((lkC l k).getD r.1, r.2)
   | _, _ => none
  | _ => none
 | _ => none
def kF {m : Nat} (hr : Room m X.A) (ho : GE X o fa) (ha : GE X a fb) (hb : GE X b fc)
  (base : attributeBase o "get" X.env (eval o X.env) = eval o X.env := by rfl)
  (few : ((backTo cpos (starEach [a, b] X.env)).all (fun x => !x.1) && (backToKw cpos (keywordEach [] X.env)).all (fun x => x.1.isSome)
   && decide (([a, b] : List Expr).length + ([] : List Keyword).length + (if ([] : List Keyword).isEmpty then 0 else 1) < 30)) = true := by rfl)
  (line : (apos.endLine == cpos.line) = true := by rfl) (trees : backTo cpos (starEach [a, b] X.env) = [(false, eval a X.env), (false, eval b X.env)] := by rfl) :
  GE X (.Call (.Attribute o "get" apos) [a, b] [] cpos) (kE fa fb fc) := PE.mono (qe (nB hr) ho ha hb ⟨base, few, line, trees⟩) fun σ H Q ⟨δ, ch, F, ρ, c, ch', en, hg, kk⟩ => by
 unfold kE at hg
 obtain ⟨⟨c1, ch1⟩, hp, hg1⟩ := bS hg
 clear hg
 dsimp only at hg1
 split at hg1 <;> first | (cases hg1; done) | skip
 rename_i i
 split at hg1 <;> first | (cases hg1; done) | skip
 rename_i l0 h0
 obtain ⟨⟨c2, ch2⟩, hq, hg2⟩ := bS hg1
 clear hg1
 obtain ⟨⟨c3, ch3⟩, hw, hg3⟩ := bS hg2
 clear hg2
 dsimp only at hq hw hg3
 split at hg3 <;> first | (cases hg3; done) | skip
 rename_i d l hl
 obtain ⟨j, hj, hg4⟩ := mS hg3
 cases hg4
 refine ⟨δ, ch, F, ρ, _, ch1, en, hp, fun v F1 H1 ρ1 a1 r1 => ?_⟩
 obtain ⟨hi, rfl⟩ := r1
 obtain ⟨kv0, z1, _⟩ := a1.gh.ok i _ h0
 refine ⟨_, rfl, .inl ⟨kv0, .inl z1⟩, δ, ch1, F1, ρ1, _, ch2, en.adv a1, hq, fun y F2 H2 ρ2 a2 r2 => ⟨δ, ch2, F2, ρ2, _, _, (en.adv a1).adv a2, hw, fun z F3 H3 ρ3 a3 r3 => ?_⟩⟩
 obtain ⟨kvs, q1, q2, q3⟩ := a3.gh.ok i _ hl
 have hi2 : i < ch2.length := Nat.lt_of_lt_of_le hi a2.len
 rw [a3.ext i hi2, a2.ext i hi] at q1
 have lk := iy (k := j) q2 q3
 have aa := (a1.trans en.gh a2).trans en.gh a3
 refine ⟨dE kvs j, by rw [dh hj r2]; exact DGet.k q1, ?_⟩
 cases hlk : lkC l j with
 | none =>
  rw [hlk] at lk
  have lk : dE kvs j = none := lk
  rw [hlk] at kk
  rw [lk]
  exact kk z F3 H3 ρ3 aa r3
 | some c' =>
  rw [hlk] at lk
  obtain ⟨u, hu, ru⟩ := lk
  rw [hlk] at kk
  rw [hu]
  exact kk u F3 H3 ρ3 aa ru
end
def gC (src : List (Option Nat)) (δ : Sl) : Sl := src.map fun o => o.bind fun j => (δ[j]?).join
noncomputable def fj (ts : List Nat) (bb : Dt -> De -> Option De) (ft : De -> Option Bool) (fe : Fg) (δ : Sl) : List Dt -> CH -> Option (List CV × CH)
 | [], ch => some ([], ch)
 | d :: r, ch => (bb d (lo δ ch)).bind fun δ1 => (ft (lo (mgS ts δ δ1) ch)).bind fun b => if b then (fe (mgS ts δ δ1) ch).bind fun p => (fj ts bb ft fe δ r p.2).map fun q => (p.1 :: q.1, q.2) else fj ts bb ft fe δ r ch
noncomputable def jd (src : List (Option Nat)) (fi : De -> Option (List Dt)) (ts : List Nat) (bb : Dt -> De -> Option De) (ft : De -> Option Bool) (fe : Fg) : Fg := fun δ ch =>
 (fi (lo δ ch)).bind fun ds => (fj ts bb ft fe (gC src δ) ds ch).bind fun p => if p.1.length <= sizeLine then some (.ref p.2.length, p.2 ++ [.lst p.1]) else none
section
variable {K : PySem.W.Frag} {F H F' H' F1 H1 : Hp} {ρ ρ' ρ1 : Nat -> Addr} {ch ch' ch1 : CH} {src : List (Option Nat)} {δ : Sl} {σ : St}
def wM {k : Nat} {c : CV} (h : (gC src δ)[k]? = some (some c)) : ∃ j, src[k]? = some (some j) /\ δ[j]? = some (some c) := by
 unfold gC at h
 rw [List.getElem?_map] at h
 cases e : src[k]? with
 | none => rw [e] at h; cases h
 | some o =>
  rw [e] at h
  cases o with
  | none => cases h
  | some j =>
   simp only [Option.map_some, Option.bind_some, Option.some.injEq] at h
   refine ⟨j, rfl, ?_⟩
   cases q : δ[j]? with
   | none => rw [q] at h; cases h
   | some u => rw [q] at h; simp only [Option.join_some] at h; rw [h]
def Ge.comp (en : Ge K δ ch σ F H ρ) : Ge K (gC src δ) ch (stC src σ) F H ρ := ⟨en.gh, by simp [gC, stC], fun k c h => by
 obtain ⟨j, h1, h2⟩ := wM h
 obtain ⟨v, h3, h4⟩ := en.has j c h2
 exact ⟨v, nU h1 h3, h4⟩⟩
structure Bd (K : PySem.W.Frag) (F1 H1 : Hp) (ρ1 : Nat -> Addr) (ch1 : CH) (D : Addr) (F H : Hp) (ρ : Nat -> Addr) (ch : CH) (done : List CV) (ys : List V) : Prop where
 adv : Adv K F1 H1 ρ1 ch1 F H ρ ch
 hD : H D = some (.lst ys)
 fD : F D = none
 nD : ∀ i, i < ch.length -> ρ i ≠ D
 rel : RelCs K F ρ ch.length done ys
variable {D : Addr} {done : List CV} {ys : List V}
def Bd.step (g1 : Gh K F1 H1 ρ1 ch1) (b : Bd K F1 H1 ρ1 ch1 D F H ρ ch done ys) (a : Adv K F H ρ ch F' H' ρ' ch') : Bd K F1 H1 ρ1 ch1 D F' H' ρ' ch' done ys where
 adv := b.adv.trans g1 a
 hD := a.prot D _ b.hD fun i hi => b.nD i hi
 fD := by
  cases q : F' D with
  | none => rfl
  | some o =>
   rcases a.nw D o q with z | z
   · rw [b.fD] at z; cases z
   · rw [b.hD] at z; cases z
 nD := fun i hi e => by
  by_cases h : i < ch.length
  · rw [a.ext i h] at e
    exact b.nD i h e
  · have := a.fr i (Nat.not_lt.mp h) hi
    rw [e, b.hD] at this
    cases this
 rel := b.rel.mono a.old a.ext a.len
def Bd.more (hD1 : H1 D = none) (b : Bd K F1 H1 ρ1 ch1 D F H ρ ch done ys) {c : CV} {v : V} (r : RelC K F ρ ch.length c v) : Bd K F1 H1 ρ1 ch1 D F (upd H D (.lst (ys ++ [v]))) ρ ch (done ++ [c]) (ys ++ [v]) where
 adv := ⟨⟨fun x o e => by
     have : x ≠ D := fun z => by rw [z, b.fD] at e; cases e
     rw [ay this]
     exact b.adv.gh.fh x o e, b.adv.gh.inj, b.adv.gh.out, fun i o h => (b.adv.gh.ok i o h).mono (Same.refl _) (fun _ _ => rfl) (nL _) fun u hu => by
     rw [ay (b.nD i (gX h).1)]
     exact hu⟩, b.adv.len, b.adv.ext, b.adv.fr, fun x o h1 h2 => by
     have : x ≠ D := fun z => by rw [z, hD1] at h1; cases h1
     rw [ay this]
     exact b.adv.prot x o h1 h2, b.adv.old, b.adv.nw, fun x o u h => by
     have : x ≠ D := fun z => by rw [z, hD1] at h; cases h
     rw [ay this]
     exact b.adv.fz x o u h⟩
 hD := az
 fD := b.fD
 nD := b.nD
 rel := b.rel.append (RelCs.one r)
def Bd.fin (hD1 : H1 D = none) (b : Bd K F1 H1 ρ1 ch1 D F H ρ ch done ys) : Adv K F1 H1 ρ1 ch1 F H (fun i => if i = ch.length then D else ρ i) (ch ++ [.lst done]) := by
 have lt : ∀ {i : Nat}, i < ch.length -> (if i = ch.length then D else ρ i) = ρ i := fun {i} hi => if_neg (Nat.ne_of_lt hi)
 have g := b.adv.gh
 refine ⟨⟨g.fh, fun i j hi hj e => ?_, fun i hi => ?_, fun i x hx => ?_⟩, by have := b.adv.len; simp; omega, fun i hi => ?_, fun i h1 h2 => ?_, b.adv.prot, b.adv.old, b.adv.nw, b.adv.fz⟩
 · simp only [List.length_append, List.length_cons, List.length_nil] at hi hj
   by_cases h1 : i = ch.length <;> by_cases h2 : j = ch.length
   · rw [h1, h2]
   · rw [if_pos h1, if_neg h2] at e
     exact absurd e.symm (b.nD j (by omega))
   · rw [if_neg h1, if_pos h2] at e
     exact absurd e (b.nD i (by omega))
   · rw [if_neg h1, if_neg h2] at e
     exact g.inj i j (by omega) (by omega) e
 · simp only [List.length_append, List.length_cons, List.length_nil] at hi
   by_cases h1 : i = ch.length
   · rw [if_pos h1]; exact b.fD
   · rw [if_neg h1]; exact g.out i (by omega)
 · simp only [List.length_append, List.length_cons, List.length_nil]
   by_cases h1 : i < ch.length
   · rw [gL h1] at hx
     rw [lt h1]
     exact (g.ok i x hx).mono (Same.refl _) (fun j hj => lt hj) (Nat.le_succ _) fun u hu => hu
   · rw [gR (Nat.not_lt.mp h1)] at hx
     have h2 : i = ch.length := by
      have := (gX hx).1
      simp at this
      omega
     subst h2
     simp at hx
     subst hx
     rw [if_pos rfl]
     exact ⟨ys, b.hD, b.rel.mono (Same.refl _) (fun j hj => lt hj) (Nat.le_succ _)⟩
 · rw [lt (Nat.lt_of_lt_of_le hi b.adv.len)]
   exact b.adv.ext i hi
 · simp only [List.length_append, List.length_cons, List.length_nil] at h2
   by_cases h3 : i = ch.length
   · rw [if_pos h3]; exact hD1
   · rw [if_neg h3]; exact b.adv.fr i h1 (by omega)
end
section
variable {X : Cx} {elt tg iter : Expr} {ifs : List Expr} {scope : Scope} {pos : Pos} {M : List Str} {src : List (Option Nat)} {fi : De -> Option (List Dt)} {ft : De -> Option Bool} {fe : Fg}
def ra {ts : List Nat} {bb : Dt -> De -> Option De} (hts : (ts.all fun k => decide (src[k]? = some none)) = true) : ∀ (σ : St) (H : Hp) (Q : VK), tG X.K (jd src fi ts bb ft fe) σ H Q -> jE src (tIF X.K fi) (gD X.K ts bb) (tTr X.K ft) (tG X.K fe) σ H Q := fun σ H Q ⟨δ, ch, F, ρ, c, ch', en, hf, k⟩ => by
 unfold jd at hf
 obtain ⟨ds, hd, hf1⟩ := bS hf
 obtain ⟨⟨all, ch2⟩, ha, hf2⟩ := bS hf1
 clear hf hf1
 split at hf2 <;> first | (cases hf2; done) | skip
 rename_i hz
 cases hf2
 have hz : all.length <= sizeLine := hz
 rw [ln]
 refine ⟨_, _, F, ds, rfl, en.en, hd, fun J ok H1 F1 st1 wd ho D hD => ?_⟩
 have a1 := Adv.of en.gh st1
 have en1 := en.adv a1
 have k1 := k.adv en.gh a1
 have wk : ∀ {σ2 : St}, σ2.length = (stC src σ).length -> (∀ j, j ∉ ts -> σ2[j]? = (stC src σ)[j]?) -> Wk (stC src σ) σ2 := fun {σ2} h1 h2 => by
  refine ⟨h1.symm, fun j v hj => ?_⟩
  by_cases hm : j ∈ ts
  · have := List.all_eq_true.mp hts j hm
    have hn : src[j]? = some none := of_decide_eq_true this
    obtain ⟨i, e, _⟩ := mF hj
    rw [hn] at e
    cases e
  · rw [h2 j hm]
    exact hj
 refine jK (n := ds.length) (fun i H => ∃ F ρ' c' ys done rest', Bd X.K F1 H1 ρ ch D F H ρ' c' done ys /\ fj ts bb ft fe (gC src δ) (ds.drop i) c' = some (rest', ch2) /\ done ++ rest' = all) ?_ ?_ ?_ ?_
 · refine ⟨F1, ρ, ch, [], [], all, ⟨Adv.of en1.gh (Step.made en1.gh.fh hD), az, en1.gh.fh.free hD, fun i hi e => ?_, rfl⟩, by simpa using ha, rfl⟩
   obtain ⟨u, hu⟩ := en1.gh.at hi
   rw [e, hD] at hu
   cases hu
 · rintro i H' ⟨F', ρ', c', ys, done, rest', b, _⟩
   obtain ⟨p1, p2, _⟩ := wd i H' F' (ho H' (b.adv.old.trans b.adv.gh.fh)) b.adv.gh.fh b.adv.old
   exact ⟨p1, p2⟩
 · rintro i x H0' H' hi ⟨F0', ρ0, c0, ys, done, rest', b0, hgo, hall⟩ hy0
   obtain ⟨_, _, p3⟩ := wd i H0' F0' (ho H0' (b0.adv.old.trans b0.adv.gh.fh)) b0.adv.gh.fh b0.adv.old
   obtain ⟨d, F', hd', stw, rd⟩ := p3 x H' hi hy0
   have b1 := b0.step en1.gh (Adv.of b0.adv.gh stw)
   have en2 := (en1.adv b1.adv).comp (src := src)
   rw [gr hd'] at hgo
   unfold fj at hgo
   obtain ⟨δ1, h1, hgo1⟩ := bS hgo
   obtain ⟨bo, h2, hgo2⟩ := bS hgo1
   clear hgo hgo1
   refine ⟨_, _, F', d, δ1, rfl, en2.en, rd, h1, fun σ2 l2 k2 e2 => ⟨wk l2 k2, ?_⟩⟩
   have en3 := en2.mg rfl l2 k2 e2
   refine ⟨_, _, F', bo, rfl, en3.en, h2, fun H3 F3 st3 => ?_⟩
   have b3 := b1.step en1.gh (Adv.of b1.adv.gh st3)
   have en4 := en3.adv (Adv.of b1.adv.gh st3)
   dsimp only
   split at hgo2
   · rename_i q
     rw [if_pos q]
     obtain ⟨⟨y, c4⟩, hy, hgo3⟩ := bS hgo2
     obtain ⟨⟨zs, c5⟩, hzs, hgo4⟩ := mS hgo3
     cases hgo4
     refine ⟨_, _, F3, ρ0, y, c4, en4, hy, fun v F4 H4 ρ4 a4 rv => ?_⟩
     have b4 := b3.step en1.gh a4
     refine ⟨ys, b4.hD, ?_, F4, ρ4, c4, ys ++ [v], done ++ [y], zs, b4.more hD rv, hzs, by rw [<- hall]; simp⟩
     have e1 := b4.rel.length
     have e2 : all.length = done.length + (zs.length + 1) := by rw [<- hall]; simp
     omega
   · rename_i q
     rw [if_neg q]
     exact ⟨F3, ρ0, c0, ys, done, rest', b3, hgo2, hall⟩
 · rintro H' ⟨F', ρ', c', ys, done, rest', b, hgo, hall⟩
   rw [List.drop_length] at hgo
   cases hgo
   rw [List.append_nil] at hall
   subst hall
   refine k1 (.ref D) F' H' _ (b.fin hD) ⟨by simp, ?_⟩
   dsimp only
   rw [if_pos rfl]
def tN {ts : List Nat} {bb : Dt -> De -> Option De} (S : CmpScope X.N X.env.scope scope M src) (hc : X.calm = true) (hi : DIF X tg iter fi) (hg : M.Nodup -> ∀ C s H ex, DG (cxC X M scope C s H ex) tg ts bb)
  (ht : ∀ C s H ex, DTs (cxC X M scope C s H ex) ifs ft) (he : ∀ C s H ex, GE (cxC X M scope C s H ex) elt fe) (hts : (ts.all fun k => decide (src[k]? = some none)) = true) (hs : ∀ x, foldedSetIterable iter X.env x = pure x := by intro _; rfl) :
  GE X (.ListComp elt [⟨tg, iter, ifs, 0⟩] scope pos) (jd src fi ts bb ft fe) := PE.mono (lm (g := gD X.K ts bb) (tt := tTr X.K ft) (te := tG X.K fe) S hc hi (fun nd C s H ex => hg nd C s H ex) (fun C s H ex => ht C s H ex) (fun C s H ex => he C s H ex) hs) (ra hts)
end
def fR : Key -> Dt
 | .inl i => .int i
 | .inr x => .str x
def tP {K : PySem.W.Frag} {F : Hp} (k : Key) : Rep K F (fR k) (kV k) := by
 cases k with
 | inl i => exact dR
 | inr x => exact iw
def unW (i : Nat) (ch : CH) : Option CH := match ch[i]? with
 | some (.wk l) => some (ch.set i (.dK l))
 | _ => none
def uU (i : Nat) : Og -> Option Og
 | .nx δ ch => (unW i ch).map (.nx δ ·)
 | .rt c ch => (unW i ch).map (.rt c ·)
 | .bk δ ch => (unW i ch).map (.bk δ ·)
 | .ct δ ch => (unW i ch).map (.ct δ ·)
noncomputable def fm (fd : Fg) (ts : List Nat) (bb : Dt -> De -> Option De) (g : Fs) : Fs := fun δ ch => (fd δ ch).bind fun p => match p.1 with
 | .ref i => match p.2[i]? with
  | some (.dK l) => (dW ts bb g (l.map fun q => fR q.1) δ (p.2.set i (.wk l))).bind (uU i)
  | _ => none
 | _ => none
section
variable {K : PySem.W.Frag} {F H F' H' F1 H1 : Hp} {ρ ρ' ρ1 : Nat -> Addr} {ch ch' ch1 : CH} {i : Nat} {l : List (Key × CV)} {kvs : List (Key × V)} {ob : Obj}
def rc (g1 : Gh K F1 H1 ρ1 ch1) (hi : ch1[i]? = some (.dK l)) (h1 : H1 (ρ1 i) = some (.dK kvs)) (a : Adv K F1 (upd H1 (ρ1 i) (.frz ob (.dK kvs))) ρ1 (ch1.set i (.wk l)) F' H' ρ' ch') {c : CH} (hc : unW i ch' = some c) :
  H' (ρ1 i) = some (.frz ob (.dK kvs)) /\ Adv K F1 H1 ρ1 ch1 F' (upd H' (ρ1 i) (.dK kvs)) ρ' c := by
 have hil : i < ch1.length := (gX hi).1
 have hz : H' (ρ1 i) = some (.frz ob (.dK kvs)) := a.fz _ _ _ az
 refine ⟨hz, ?_⟩
 have hr : ρ' i = ρ1 i := a.ext i (by simpa using hil)
 unfold unW at hc
 split at hc <;> first | (cases hc; done) | skip
 rename_i l' hl'
 cases hc
 have hil' : i < ch'.length := (gX hl').1
 obtain ⟨o2, kv2, e1, e2, e3⟩ := a.gh.ok i _ hl'
 rw [hr, hz] at e1
 cases e1
 have g := a.gh
 have ne : ∀ {j : Nat}, j < ch'.length -> j ≠ i -> ρ' j ≠ ρ1 i := fun {j} hj hne e => hne (g.inj j i hj hil' (e.trans hr.symm))
 refine ⟨⟨fun b x e => ?_, fun j k hj hk => g.inj j k (by simpa using hj) (by simpa using hk), fun j hj => g.out j (by simpa using hj), fun j x hx => ?_⟩, by have := a.len; simp at this ⊢; omega, fun j hj => a.ext j (by simpa using hj), fun j h2 h3 => ?_, fun b x h2 h3 => ?_, a.old, fun b x h => ?_, fun b x y h => ?_⟩
 · have : b ≠ ρ1 i := fun q => by rw [q, <- hr, g.out i hil'] at e; cases e
   rw [ay this]
   exact g.fh b x e
 · rw [List.length_set]
   rw [List.getElem?_set] at hx
   by_cases hj : i = j
   · rw [if_pos hj] at hx
     subst hj
     first
      | (split at hx <;> first | (cases hx; rw [hr]; exact ⟨kvs, az, e2, e3⟩) | cases hx)
      | (cases hx; rw [hr]; exact ⟨kvs, az, e2, e3⟩)
   · rw [if_neg hj] at hx
     have hjl : j < ch'.length := (gX hx).1
     refine (g.ok j x hx).mono (Same.refl _) (fun _ _ => rfl) (nL _) fun y hy => ?_
     rw [ay (ne hjl (Ne.symm hj))]
     exact hy
 · have := a.fr j (by simpa using h2) (by simpa using h3)
   have hn : ρ' j ≠ ρ1 i := fun z => by rw [z, az] at this; cases this
   rw [ay hn] at this
   exact this
 · have hb : b ≠ ρ1 i := fun z => h3 i hil z.symm
   rw [ay hb]
   exact a.prot b x (by rw [ay hb]; exact h2) fun j hj => h3 j (by simpa using hj)
 · rcases a.nw b x h with z | z
   · exact .inl z
   · right
     have hb : b ≠ ρ1 i := fun q => by rw [q, az] at z; cases z
     rw [ay hb] at z
     exact z
 · have hb : b ≠ ρ1 i := fun z => by rw [z, h1] at h; cases h
   rw [ay hb]
   exact a.fz b x y (by rw [ay hb]; exact h)
end
def kG {i : Nat} {ch c : CH} (h : unW i ch = some c) : c.length = ch.length := by
 unfold unW at h
 split at h <;> cases h
 simp
section
variable {X : Cx} {tg d : Expr} {body : List Stmt} {fd : Fg} {g : Fs} {pos : Pos}
def oq {ts : List Nat} {bb : Dt -> De -> Option De} (hp : PassesOwn (model X.prog X.w) X.A X.env X.xe) (hc : X.calm = true) (hd : GE X d fd) (hg : DG X tg ts bb) (hb : GS X body g)
  (hs : ∀ x, foldedSetIterable d X.env x = pure x := by intro _; rfl) : GS1 X (.For tg d body [] pos) (fm fd ts bb g) := PS.mono (tF (mj hp hc (tE hd) hg hb hs)) fun D σ H ⟨δ, ch, F, ρ, og, en, hgg, k⟩ => by
 unfold fm at hgg
 obtain ⟨⟨c1, ch1⟩, hpp, hg1⟩ := bS hgg
 clear hgg
 dsimp only at hg1
 split at hg1 <;> first | (cases hg1; done) | skip
 rename_i i
 split at hg1 <;> first | (cases hg1; done) | skip
 rename_i l hl
 obtain ⟨o, ho, hth⟩ := bS hg1
 clear hg1
 rw [j9]
 refine ⟨δ, ch, F, ρ, _, ch1, en, hpp, fun v F1 H1 ρ1 a1 r1 => ?_⟩
 obtain ⟨kvs, h1, h2, h3⟩ := a1.gh.ok i _ hl
 have hi : i < ch1.length := (gX hl).1
 refine ⟨_, kvs, r1.2, h1, fun ob hn => ?_⟩
 have en1 := en.adv a1
 have k1 := k.adv en.gh a1
 have a2 := Adv.upd (o := .wk l) (u := .frz ob (.dK kvs)) a1.gh hi h1 (fun _ _ z => nomatch z) ⟨ob, kvs, az, h2, h3⟩
 have en2 := en1.adv a2
 -- behind the loop
 have back : ∀ {F' H' : Hp} {ρ' : Nat -> Addr} {ch' c : CH}, Adv X.K F1 (upd H1 (ρ1 i) (.frz ob (.dK kvs))) ρ1 (ch1.set i (.wk l)) F' H' ρ' ch' -> unW i ch' = some c -> H' (ρ1 i) = some (.frz ob (.dK kvs)) /\ Adv X.K F1 H1 ρ1 ch1 F' (upd H' (ρ1 i) (.dK kvs)) ρ' c := fun a hc => rc a1.gh hl h1 a hc
 have hlen : kvs.length = l.length := by
  have := congrArg List.length h2
  simpa using this
 have lens : (l.map fun q => fR q.1).length = kvs.length := by simp [hlen]
 refine iS (n := kvs.length) (fun j σ' H' => ∃ δ' ch' F' ρ', Adv X.K F1 (upd H1 (ρ1 i) (.frz ob (.dK kvs))) ρ1 (ch1.set i (.wk l)) F' H' ρ' ch' /\ Ge X.K δ' ch' σ' F' H' ρ' /\ dW ts bb g ((l.map fun q => fR q.1).drop j) δ' ch' = some o) ⟨δ, _, F1, ρ1, Adv.refl en2.gh, en2, by simpa using ho⟩ (fun j σ' H' ⟨δ', ch', F', ρ', a', en', _⟩ => ⟨fun hj => ⟨a'.fz _ _ _ az, hj⟩, fun hj => ⟨a'.fz _ _ _ az, hj⟩⟩) ?_ ?_
 · rintro j x σ' H' H'' hj ⟨δ', ch', F', ρ', a', en', hgo⟩ ⟨rfl, p, hp', rfl⟩
   have hk : (l.map fun q => fR q.1)[j]? = some (fR p.1) := by
    have e1 : (kvs.map (·.1))[j]? = some p.1 := by rw [List.getElem?_map, hp']; rfl
    rw [h2, List.getElem?_map] at e1
    obtain ⟨q, hq, eq⟩ := mS e1
    rw [List.getElem?_map, hq, <- eq]
    rfl
   rw [gr hk] at hgo
   unfold dW at hgo
   obtain ⟨δ1, z1, hgo1⟩ := bS hgo
   obtain ⟨o1, z2, hgo2⟩ := bS hgo1
   clear hgo hgo1
   refine ⟨_, _, F', fR p.1, δ1, rfl, en'.en, tP p.1, z1, fun σ1 l1 q1 e1 => ⟨_, ch', F', ρ', o1, en'.mg rfl l1 q1 e1, z2, ?_⟩⟩
   cases o1 with
   | nx δ2 c2 => exact fun σ2 F3 H3 ρ3 a4 en4 => ⟨δ2, c2, F3, ρ3, a'.trans en2.gh a4, en4, hgo2⟩
   | ct δ2 c2 => exact fun σ2 F3 H3 ρ3 a4 en4 => ⟨δ2, c2, F3, ρ3, a'.trans en2.gh a4, en4, hgo2⟩
   | bk δ2 c2 =>
    cases hgo2
    obtain ⟨c, hcc, rfl⟩ := mS hth
    intro σ2 F3 H3 ρ3 a4 en4
    obtain ⟨w1, w2⟩ := back (a'.trans en2.gh a4) hcc
    refine ⟨_, ob, kvs, hn, w1, k1 σ2 F3 _ ρ3 w2 ⟨w2.gh, en4.len, fun m x hx => ?_⟩⟩
    obtain ⟨v, v1, v2⟩ := en4.has m x hx
    refine ⟨v, v1, v2.mono (Same.refl _) (fun _ _ => rfl) ?_⟩
    have := (kG hcc)
    omega
   | rt c c2 =>
    cases hgo2
    obtain ⟨c', hcc, rfl⟩ := mS hth
    intro v F3 H3 ρ3 a4 r
    obtain ⟨w1, w2⟩ := back (a'.trans en2.gh a4) hcc
    refine ⟨_, ob, kvs, hn, w1, k1 v F3 _ ρ3 w2 (r.mono (Same.refl _) (fun _ _ => rfl) ?_)⟩
    have := (kG hcc)
    omega
 · rintro σ' H' ⟨δ', ch', F', ρ', a', en', hgo⟩
   rw [<- lens, List.drop_length] at hgo
   cases hgo
   obtain ⟨c, hcc, rfl⟩ := mS hth
   obtain ⟨w1, w2⟩ := back a' hcc
   refine ⟨_, ob, kvs, hn, w1, k1 σ' F' _ ρ' w2 ⟨w2.gh, en'.len, fun m x hx => ?_⟩⟩
   obtain ⟨v, v1, v2⟩ := en'.has m x hx
   refine ⟨v, v1, v2.mono (Same.refl _) (fun _ _ => rfl) ?_⟩
   have := (kG hcc)
   omega
end
noncomputable def ge : List (Fg × Fg) -> Sl -> CH -> Option (List (Key × CV) × CH)
 | [], _, ch => some ([], ch)
 | (fk, fv) :: r, δ, ch => (fk δ ch).bind fun p => match p.1 with
  | .dat d => (dU d).bind fun k => (fv δ p.2).bind fun q => (ge r δ q.2).map fun z => ((k, q.1) :: z.1, z.2)
  | _ => none
noncomputable def lM (fps : List (Fg × Fg)) : Fg := fun δ ch => (ge fps δ (ch ++ [.dK []])).bind fun p => match p.2[ch.length]? with
 | some (.dK []) => if p.1.length <= 15 /\ (p.1.map (·.1)).Nodup then some (.ref ch.length, p.2.set ch.length (.dK p.1)) else none
 | _ => none
section
variable {X : Cx} {pos : Pos} {σ : St} {δ : Sl}
def jU {K : PySem.W.Frag} : ∀ {fps : List (Fg × Fg)} {ch ch' : CH} {F H : Hp} {ρ : Nat -> Addr} {ps : List (Key × CV)} {Q : List (V × V) -> Hp -> Prop}, Ge K δ ch σ F H ρ -> ge fps δ ch = some (ps, ch') →
  (∀ (qs : List (Key × V)) F' H' ρ', Adv K F H ρ ch F' H' ρ' ch' -> qs.map (·.1) = ps.map (·.1) -> RelCs K F' ρ' ch'.length (ps.map (·.2)) (qs.map (·.2)) -> Q (qs.map fun kv => (kV kv.1, kv.2)) H') -> j6 (fps.map fun p => (tG K p.1, tG K p.2)) σ H Q
 | [], ch, ch', F, H, ρ, ps, Q, en, h, k => by
  cases h
  exact k [] F H ρ (Adv.refl en.gh) rfl rfl
 | (fk, fv) :: r, ch, ch', F, H, ρ, ps, Q, en, h, k => by
  simp only [ge] at h
  obtain ⟨⟨c1, ch1⟩, hp, h1⟩ := bS h
  dsimp only at h1
  split at h1 <;> first | (cases h1; done) | skip
  rename_i d
  obtain ⟨kk, hk, h2⟩ := bS h1
  obtain ⟨⟨c2, ch2⟩, hq, h3⟩ := bS h2
  obtain ⟨⟨z, ch3⟩, hz, h4⟩ := mS h3
  cases h4
  refine ⟨δ, ch, F, ρ, _, ch1, en, hp, fun v F1 H1 ρ1 a1 r1 => ⟨δ, ch1, F1, ρ1, c2, ch2, en.adv a1, hq, fun w F2 H2 ρ2 a2 r2 => ?_⟩⟩
  have en2 := (en.adv a1).adv a2
  have a12 := a1.trans en.gh a2
  refine jU en2 hz fun qs F3 H3 ρ3 a3 e1 r3 => ?_
  have hv := dh hk r1
  subst hv
  exact k ((kk, w) :: qs) F3 H3 ρ3 (a12.trans en.gh a3) (by simp [e1]) ⟨w, _, rfl, r2.mono a3.old a3.ext a3.len, r3⟩
def m7 {qs : List (Key × V)} (h : (qs.map (·.1)).Nodup) : eg [] qs = qs := by
 have : ∀ (ps kvs : List (Key × V)), eg kvs ps = cF kvs ps := fun ps => by
  induction ps with
  | nil => intro kvs; rfl
  | cons p ps ih => intro kvs; exact ih _
 rw [this, gd (by simpa using h)]
 simp
def tQ {keys : List (Option Expr)} {values : List Expr} {fps : List (Fg × Fg)} (h : PPs X pos keys values (fps.map fun p => (tG X.K p.1, tG X.K p.2))) (hall : keys.all (·.isSome) = true) (hl : keys.length = values.length) (h0 : keys ≠ []) (h15 : keys.length <= 15) :
  GE X (.Dict keys values pos) (lM fps) := PE.mono (sB h hall hl h0 h15) fun σ H Q ⟨δ, ch, F, ρ, c, ch', en, hf, k⟩ => by
 unfold lM at hf
 obtain ⟨⟨ps, ch2⟩, hp, hf1⟩ := bS hf
 clear hf
 dsimp only at hf1
 split at hf1 <;> first | (cases hf1; done) | skip
 rename_i hn
 split at hf1 <;> first | (cases hf1; done) | skip
 rename_i hz
 cases hf1
 intro p hpn
 have a1 := kn (o := .dK []) (u := .dK []) en.gh hpn ⟨[], az, rfl, rfl⟩
 have en1 := en.adv a1
 refine jU en1 hp fun qs F' H' ρ' a2 e1 r2 => ?_
 have hr : ρ' ch.length = p := by rw [a2.ext ch.length (by simp)]; simp
 obtain ⟨kvs, q1, q2, q3⟩ := a2.gh.ok _ _ hn
 have q2 : kvs = [] := by simpa using q2
 subst q2
 rw [hr] at q1
 have e3 : eg [] qs = qs := m7 (by rw [e1]; exact hz.2)
 have hlen : qs.length = ps.length := by simpa using congrArg List.length e1
 refine ⟨q1, qs, rfl, by rw [hlen]; exact hz.1, ?_⟩
 rw [e3]
 have hi : ch.length < ch2.length := (gX hn).1
 have a3 := Adv.upd (o := .dK ps) (u := .dK qs) (w := .dK []) a2.gh hi (by rw [hr]; exact q1) (fun _ _ z => nomatch z) ⟨qs, az, e1, r2⟩
 rw [hr] at a3
 refine k (.ref p) F' _ ρ' ((a1.trans en.gh a2).trans en.gh a3) ⟨by simpa using hi, by rw [hr]⟩
end
section
variable {X : Cx} {o : Expr} {fa : Fg} {pos apos cpos : Pos}
def jV (fa : Fg) : Fs := fun δ ch => (fa δ ch).bind fun p => match p.1 with
 | .ref i => match p.2[i]? with
  | some (.lst _) => some (.nx δ (p.2.set i (.lst [])))
  | _ => none
 | _ => none
def rf (hx : GE X o fa) (hbase : attributeBase o "clear" X.env (eval o X.env) = eval o X.env := by rfl) (hline : (apos.endLine == cpos.line) = true := by rfl)
  (hsw : swapsWith (.Call (.Attribute o "clear" apos) [] [] cpos) none pos.line X.env = pure false := by rfl) :
  GS1 X (.Expr (.Call (.Attribute o "clear" apos) [] [] cpos) pos) (jV fa) :=
 PS.mono (iq (vM PySem.F.plainAttrs_list PySem.F.slot_list_clear PySem.F.type_list_clear qa hx hbase hline) hsw) fun D σ H ⟨δ, ch, F, ρ, og, en, hg, k⟩ => by
  unfold jV at hg
  obtain ⟨⟨c1, ch1⟩, hp, hg1⟩ := bS hg
  clear hg
  dsimp only at hg1
  split at hg1 <;> first | (cases hg1; done) | skip
  rename_i i
  split at hg1 <;> first | (cases hg1; done) | skip
  rename_i l h0
  cases hg1
  refine ⟨δ, ch, F, ρ, _, ch1, en, hp, fun v F1 H1 ρ1 a1 r1 => ?_⟩
  obtain ⟨vs, q1, q2⟩ := a1.gh.ok i _ h0
  obtain ⟨hi, rfl⟩ := r1
  refine ⟨.inl ⟨rfl, vs, .inl (.inl q1)⟩, _, vs, rfl, rfl, q1, ?_⟩
  have a3 := Adv.upd (o := .lst []) (u := .lst []) a1.gh hi q1 (fun _ _ z => nomatch z) ⟨[], az, rfl⟩
  have a := a1.trans en.gh a3
  exact k σ F1 _ ρ1 a (en.adv a)
end
def tR : List Dt -> Option T
 | [.int i, .int j] => some (.leaf (.int (if j < i then j else i)))
 | _ => none
def rMin : List V -> Hp -> VK -> Prop := fun xs H Q => ∃ i j, xs = [.int i, .int j] /\ Q (.int (if j < i then j else i)) H
def pz {X : Cx} (hc : X.calm = true) : cX X (.builtin "min") rMin := oS hc
def xS {K : PySem.W.Frag} : CRD K rMin tR := by
 intro F H ds vs Q t fh r hg k
 unfold tR at hg
 split at hg <;> first | (cases hg; done) | skip
 cases hg
 obtain ⟨v, ws, rfl, r1, w, ws', rfl, r2, r3⟩ := r
 cases r1
 cases r2
 have r3 : ws' = [] := r3
 subst r3
 exact ⟨_, _, rfl, k.int fh⟩
section
variable {X : Cx} {elt tg iter : Expr} {ifs : List Expr} {scope : Scope} {pos : Pos} {M : List Str} {src : List (Option Nat)} {fi : De -> Option (List Dt)} {ft : De -> Option Bool} {fe : De -> Option Dt} {fg : Fg} {i : Nat}
def lN {sc : Scope} {N : List Str} {y : Str} {py spos : Pos} {ts : List Nat} {bb : Dt -> De -> Option De} (h : aD sc N i y = true) (hl : bA sc y = true) (nd : N.Nodup) (S : CmpScope X.N X.env.scope scope M src) (hc : X.calm = true) (hi : DIB X tg iter fi) (hg : M.Nodup -> ∀ C s H ex, DG (cxC X M scope C s H ex) tg ts bb)
  (ht : ∀ C s H ex, DTs (cxC X M scope C s H ex) ifs ft) (he : ∀ C s H ex, DL (cxC X M scope C s H ex) elt fe) (hts : (ts.all fun k => decide (src[k]? = some none)) = true) (hs : ∀ x, foldedSetIterable iter X.env x = pure x := by intro _; rfl)
  (e1 : ck X sc := by rfl) (e2 : X.N = N := by rfl) (hf : X.fn y = true ∨ X.env.scope.names.lookup y = some .local := by exact .inl rfl) (hsw : swapsWith (.ListComp elt [⟨tg, iter, ifs, 0⟩] scope pos) (some (.Name y py)) spos.line X.env = pure true := by rfl) :
  GS1 X (.Assign [.Name y py] (.ListComp elt [⟨tg, iter, ifs, 0⟩] scope pos) spos) (bd i (eD (toD (cj src fi bb ft fe)))) := by
 have e1 : X.env.scope = sc := e1
 subst e1 e2
 refine PS.mono (tu (g := gD X.K ts bb) (tt := tTr X.K ft) (te := tL X.K fe) nd (iP h) (my hl) hf S hc hi (fun nd C s H ex => hg nd C s H ex) (fun C s H ex => ht C s H ex) (fun C s H ex => he C s H ex) hs hsw) fun D σ H ⟨δ, ch, F, ρ, o, en, hf', k⟩ => ?_
 unfold bd eD at hf'
 obtain ⟨p, hp, hf1⟩ := mS hf'
 cases hf1
 obtain ⟨d, hd, hp1⟩ := mS hp
 cases hp1
 refine nV S hts σ H _ (wG ⟨_, _, F, .leaf d, rfl, en.en, by unfold toT; rw [hd]; rfl, fun v H' F' Z st o hs => ?_⟩)
 have r : RelC X.K F' ρ ch.length (.dat d) v := o
 exact k _ F' H' ρ (Adv.of en.gh st) ((en.adv (Adv.of en.gh st)).put r i)
end
def tT {X : Cx} {pos : Pos} : PPs X pos [] [] (([] : List (Fg × Fg)).map fun p => (tG X.K p.1, tG X.K p.2)) := sA
def fq {X : Cx} {pos : Pos} {k v : Expr} {ks : List (Option Expr)} {vs : List Expr} {fk fv : Fg} {fps : List (Fg × Fg)} (hk : GE X k fk) (hv : GE X v fv) (hr : PPs X pos ks vs (fps.map fun p => (tG X.K p.1, tG X.K p.2))) :
  PPs X pos (some k :: ks) (v :: vs) (((fk, fv) :: fps).map fun p => (tG X.K p.1, tG X.K p.2)) := qd hk hv hr
def bM : Option Og -> Option (CV × CH)
 | some (.rt c ch') => some (c, ch')
 | some (.nx _ ch') => some (.dat .non, ch')
 | _ => none
def bC {m : Nat} {g : Fs} {cs : List CV} {ch : CH} : cO m g cs ch = bM (g (cs.map some ++ List.replicate (m - cs.length) none) ch) := rfl
def kH {c : CV} {ch : CH} : bM (some (.rt c ch)) = some (c, ch) := rfl
def gz {δ : Sl} {ch : CH} : bM (some (.nx δ ch)) = some (.dat .non, ch) := rfl
def d8 (o : Option Og) (g : Fs) : Option Og := o.bind fun o => match o with
 | .nx δ' ch' => g δ' ch'
 | o => some o
def av {g1 g2 : Fs} {δ : Sl} {ch : CH} : aq g1 g2 δ ch = d8 (g1 δ ch) g2 := rfl
def am {g : Fs} {δ : Sl} {ch : CH} : d8 (some (.nx δ ch)) g = g δ ch := rfl
def rg {g : Fs} {c : CV} {ch : CH} : d8 (some (.rt c ch)) g = some (.rt c ch) := rfl
def jW {α : Type} (b : Option (Bool × CH)) (f g : Sl -> CH -> Option α) (δ : Sl) : Option α := b.bind fun p => if p.1 then f δ p.2 else g δ p.2
def dB {c : Ft} {g1 g2 : Fs} {δ : Sl} {ch : CH} : cg c g1 g2 δ ch = jW (c δ ch) g1 g2 δ := rfl
def ou {c : Ft} {g1 g2 : Fg} {δ : Sl} {ch : CH} : eIf c g1 g2 δ ch = jW (c δ ch) g1 g2 δ := rfl
def kI {α : Type} {f g : Sl -> CH -> Option α} {δ : Sl} {ch : CH} : jW (some (true, ch)) f g δ = f δ ch := rfl
def cV {α : Type} {f g : Sl -> CH -> Option α} {δ : Sl} {ch : CH} : jW (some (false, ch)) f g δ = g δ ch := rfl
def tU {α : Type} {f g : Sl -> CH -> Option α} {δ : Sl} {ch : CH} {b : Bool} (h : b = true) : jW (some (b, ch)) f g δ = f δ ch := by subst h; rfl
def tV {α : Type} {f g : Sl -> CH -> Option α} {δ : Sl} {ch : CH} {b : Bool} (h : b = false) : jW (some (b, ch)) f g δ = g δ ch := by subst h; rfl
def rh {f : Fg} {δ : Sl} {ch : CH} {b : Bool} {ch' : CH} (h : f δ ch = some (.dat (.bl b), ch')) : i8 f δ ch = some (b, ch') := by unfold i8; rw [h]; rfl
def rj {δ : Sl} {ch : CH} {i : Nat} {d : Dt} (h : δ[i]? = some (some (.dat d))) : (lo δ ch)[i]? = some (some (.leaf d)) := by
 have key : ∀ (δ : Sl) (u : List Nat) (i : Nat), δ[i]? = some (some (.dat d)) -> (loA ch u δ)[i]? = some (some (.leaf d)) := fun δ => by
  induction δ with
  | nil => intro u i h; simp at h
  | cons x r ih =>
   intro u i h
   cases i with
   | zero =>
    simp only [List.getElem?_cons_zero, Option.some.injEq] at h
    subst h
    rfl
   | succ i =>
    have h' : r[i]? = some (some (.dat d)) := by simpa using h
    cases x with
    | none => simpa [loA] using ih u i h'
    | some c => cases c with
     | dat e => simpa [loA] using ih u i h'
     | ref j => simpa [loA] using ih (j :: u) i h'
 exact key δ [] i h
def bz {δ : Sl} {ch : CH} {i : Nat} {d : Dt} (h : δ[i]? = some (some (.dat d))) : vL i (lo δ ch) = some d := by unfold vL; rw [rj h]
def cC {δ : Sl} {ch : CH} {i : Nat} {d : Dt} (h : δ[i]? = some (some (.dat d))) : vB i (lo δ ch) = some d := by unfold vB; rw [rj h]; rfl
def lO {α : Type} {l : List α} {i : Nat} {a : α} (h : l[i]? = some a) : l.set i a = l := by
 apply List.ext_getElem?
 intro j
 rw [List.getElem?_set]
 split
 · rename_i e
   subst e
   have := (gX h).1
   rw [if_pos this]
   exact h.symm
 · rfl
def bI {α : Type} (f : α -> Dt) : ∀ l : List α, dats (l.map fun x => .dat (f x)) = some (l.map f)
 | [] => rfl
 | x :: l => by simp [dats, bI f l]
def dj {ch : CH} {o : CO} : (ch ++ [o])[ch.length]? = some o := by simp
def bm {ch g : CH} {i : Nat} {o : CO} (h : ch[i]? = some o) : (ch ++ g)[i]? = some o := by
 rw [gL (gX h).1]
 exact h
section
variable {c f m : Str} {fa fb fe fk fo fx : Fg} {fs : Fgs} {g : Fd} {δ : Sl} {ch ch1 ch2 ch3 : CH} {i : Nat} {ns : List Str} {l cs : List CV} {x v w : CV} {d : Dt} {o o' : CO}
def cD (h1 : fa δ ch = some (.ref i, ch1)) (h2 : ch1[i]? = some (.ins c ns l)) (h3 : mU ns l f = some x) : eF c f fa δ ch = some (x, ch1) := by
 unfold eF
 rw [h1]
 simp only [Option.bind_some, h2, if_true, h3, Option.map_some]
def du (h1 : fo δ ch = some (.ref i, ch1)) (h2 : ch1[i]? = some (.ins c ns l)) (h3 : m ∉ ns) (h4 : fs δ ch1 = some (cs, ch2)) : eM c m g fo fs δ ch = g (.ref i :: cs) ch2 := by
 unfold eM
 rw [h1]
 simp only [Option.bind_some, h2, h3, not_false_eq_true, and_self, if_true, h4]
def lP (h4 : fs δ ch = some (cs, ch2)) : eC g fs δ ch = g cs ch2 := by
 unfold eC
 rw [h4, Option.bind_some]
def aH (h1 : fa δ ch = some (x, ch1)) (h2 : fs δ ch1 = some (cs, ch2)) : ah fa fs δ ch = some (x :: cs, ch2) := by
 unfold ah
 rw [h1, Option.bind_some]
 dsimp only
 rw [h2, Option.map_some]
def cw (he : fe δ ch = some (v, ch1)) (ha : fa δ ch1 = some (.ref i, ch2)) (hk : fk δ ch2 = some (.dat d, ch3)) (ho : ch3[i]? = some o) (hp : lG o d v = some o') : cS fa fk fe δ ch = some (.nx δ (ch3.set i o')) := by
 unfold cS
 rw [he, Option.bind_some]
 dsimp only
 rw [ha, Option.bind_some]
 dsimp only
 rw [hk, Option.bind_some]
 simp only [ho, Option.bind_some, hp, Option.map_some]
def lQ (he : fe δ ch = some (v, ch1)) (ha : fa δ ch1 = some (.ref i, ch2)) (ho : ch2[i]? = some (.ins c ns l)) (hn : ns.length < 1000) : cu c f fa fe δ ch = some (.nx δ (ch2.set i (.ins c (bO ns l f v).1 (bO ns l f v).2))) := by
 unfold cu
 rw [he, Option.bind_some]
 dsimp only
 rw [ha, Option.bind_some]
 simp only [ho, hn, and_self, if_true]
def ow {op : Int -> Int -> Int} {n k : Int} (ha : fa δ ch = some (.ref i, ch)) (ho : ch[i]? = some (.ins c ns l)) (hn : ns.length < 1000) (hf : mU ns l f = some (.dat (.int n))) (he : fe δ ch = some (.dat (.int k), ch)) :
  m5 c f op fa fe δ ch = some (.nx δ (ch.set i (.ins c (bO ns l f (.dat (.int (op n k)))).1 (bO ns l f (.dat (.int (op n k)))).2))) := by
 unfold m5
 rw [ha]
 simp only [Option.bind_some, ho, hn, and_self, if_true, hf, he]
def bX (h1 : fa δ ch = some (.ref i, ch1)) (h2 : fb δ ch1 = some (.dat d, ch2)) (ho : ch2[i]? = some o) (hx : ixO o d = some x) : eIx fa fb δ ch = some (x, ch2) := by
 unfold eIx
 rw [h1, Option.bind_some]
 dsimp only
 rw [h2, Option.bind_some]
 simp only [ho, Option.bind_some, hx, Option.map_some]
def tW {y e : Dt} (h1 : fa δ ch = some (.dat y, ch1)) (h2 : fb δ ch1 = some (.dat d, ch2)) (hx : gIx y d = some (.leaf e)) : eIx fa fb δ ch = some (.dat e, ch2) := by
 unfold eIx
 rw [h1, Option.bind_some]
 dsimp only
 rw [h2, Option.bind_some]
 simp only [hx, Option.bind_some]
 rfl
def kJ {q : List (Key × CV)} {k : Key} (h1 : fo δ ch = some (.ref i, ch)) (h2 : ch[i]? = some (.dK q)) (h3 : fk δ ch = some (.dat d, ch)) (h4 : fx δ ch = some (x, ch)) (hk : dU d = some k) : kE fo fk fx δ ch = some ((lkC q k).getD x, ch) := by
 unfold kE
 rw [h1]
 simp only [Option.bind_some, h2, h3, h4, hk, Option.map_some]
def ib {g : Dt -> Dt -> Option T} {y z : Dt} {t : T} (h1 : fa δ ch = some (x, ch1)) (h2 : fb δ ch1 = some (v, ch2)) (hx : vw ch2 x = some y) (hv : vw ch2 v = some z) (hg : g y z = some t) : e2 g fa fb δ ch = al ch2 t := by
 unfold e2
 rw [h1, Option.bind_some]
 dsimp only
 rw [h2, Option.bind_some]
 simp only [hx, hv, Option.bind_some, hg]
def jX {g : List Dt -> Option T} {ds : List Dt} {t : T} (h1 : fs δ ch = some (cs, ch1)) (h2 : vws ch1 cs = some ds) (h3 : g ds = some t) : eB g fs δ ch = al ch1 t := by
 unfold eB
 rw [h1, Option.bind_some]
 dsimp only
 rw [h2, Option.bind_some, h3, Option.bind_some]
def m8 {g : List Dt -> Option T} {ds : List Dt} {e : Dt} (h1 : fs δ ch = some (cs, ch1)) (h2 : vws ch1 cs = some ds) (h3 : g ds = some (.leaf e)) (h4 : n8 (.leaf e) = some (.leaf e) := by rfl) : eCV g fs δ ch = some (.dat e, ch1) := by
 unfold eCV
 rw [h1, Option.bind_some]
 dsimp only
 rw [h2, Option.bind_some, h3, Option.bind_some, h4]
 rfl
def aJ {fd : De -> Option Dt} (h : fd (lo δ ch) = some d) : eD fd δ ch = some (.dat d, ch) := by
 unfold eD
 rw [h]
 rfl
def ic {ft : De -> Option Bool} {b : Bool} (h : ft (lo δ ch) = some b) : tD ft δ ch = some (b, ch) := by
 unfold tD
 rw [h]
 rfl
def aP (h : δ[i]? = some (some v)) : eV i δ ch = some (v, ch) := by
 unfold eV
 rw [h]
def aM (h : fa δ ch = some (v, ch1)) : bd i fa δ ch = some (.nx (δ.set i (some v)) ch1) := by
 unfold bd
 rw [h]
 rfl
def aX (h : fa δ ch = some (v, ch1)) : bt fa δ ch = some (.rt v ch1) := by
 unfold bt
 rw [h]
 rfl
def g6 (h : fa δ ch = some (v, ch1)) : gc fa δ ch = some (.nx δ ch1) := by
 unfold gc
 rw [h]
 rfl
def gA {b : Bool} (h : fa δ ch = some (.dat (.bl b), ch1)) : eX fa δ ch = some (b, ch1) := by
 unfold eX
 rw [h]
 rfl
def lR {i : Nat} (hl : i < δ.length) : mgS [i] δ ((lo δ ch).set i (some (.leaf d))) = δ.set i (some (.dat d)) := by
 have h2 : (lo δ ch).length = δ.length := fL ch [] δ
 apply List.ext_getElem?
 intro j
 unfold mgS
 rw [List.getElem?_mapIdx]
 by_cases e : i = j
 · subst e
   rw [List.getElem?_set_self hl, gQ hl, List.getElem?_set_self (by rw [h2]; exact hl)]
   simp
 · rw [gN e, gN e]
   have e' : ¬ j = i := fun z => e z.symm
   cases h : δ[j]? with
   | none => rfl
   | some x => simp [e']
def ox {i : Nat} {g : Fs} {r : List Dt} {δ2 : Sl} (hl : i < δ.length) (h : g (δ.set i (some (.dat d))) ch = some (.nx δ2 ch2)) : dW [i] (ax i) g (d :: r) δ ch = dW [i] (ax i) g r δ2 ch2 := by
 show ((ax i d (lo δ ch)).bind fun δ1 => (g (mgS [i] δ δ1) ch).bind fun o => _) = _
 unfold ax
 rw [Option.bind_some, lR hl, h]
 rfl
def dv {i : Nat} {g : Fs} {I : Sl -> CH -> Prop} (hI : ∀ δ ch, I δ ch -> i < δ.length) : ∀ {ds : List Dt} {δ : Sl} {ch : CH}, (∀ d ∈ ds, ∀ δ ch, I δ ch -> ∃ δ2 ch2, g (δ.set i (some (.dat d))) ch = some (.nx δ2 ch2) /\ I δ2 ch2) -> I δ ch -> ∃ δ2 ch2, dW [i] (ax i) g ds δ ch = some (.nx δ2 ch2) /\ I δ2 ch2
 | [], δ, ch, _, h => ⟨δ, ch, rfl, h⟩
 | d :: ds, δ, ch, hb, h => by
  obtain ⟨δ1, ch1, e, h1⟩ := hb d (by simp) δ ch h
  rw [ox (hI _ _ h) e]
  exact dv hI (fun z hz => hb z (by simp [hz])) h1
def oy {i : Nat} {j : Nat} {q : List (Key × CV)} {g : Fs} {δ2 : Sl} (h : fa δ ch = some (.ref j, ch)) (hj : ch[j]? = some (.dK q)) (hf : dW [i] (ax i) g (q.map fun z => fR z.1) δ (ch.set j (.wk q)) = some (.nx δ2 ch2)) (hw : ch2[j]? = some (.wk q)) :
  fm fa [i] (ax i) g δ ch = some (.nx δ2 (ch2.set j (.dK q))) := by
 unfold fm
 rw [h]
 simp only [Option.bind_some, hj, hf, uU, unW, hw, Option.map_some]
end
end L2
seal L2.PE L2.PS L2.PSs L2.PT L2.PW L2.PA L2.PI L2.PG L2.PTs L2.PO L2.PGs L2.cX L2.OpR L2.IxR L2.SlR L2.MtR L2.UnR L2.DO L2.DL L2.DB L2.DT L2.DW L2.DS L2.DS1 L2.R2D L2.CRD L2.MRD L2.DG L2.DGs L2.DIF L2.DIB L2.DTs L2.DP L2.GE L2.GT L2.GW L2.GA L2.GS L2.GS1
namespace P23
open PySem L2
def top (i : Nat) : Stmt := PySem.Challenge.pw_dimhouse_k23_cells_and_shelves.main.body.getD i (.Pass ⟨0, 0, 0, 0⟩)
def gB (i j : Nat) : Stmt := match top i with
 | .ClassDef _ _ _ body _ _ _ _ _ _ _ => body.getD j (.Pass ⟨0, 0, 0, 0⟩)
 | _ => .Pass ⟨0, 0, 0, 0⟩
noncomputable section
def rl : Dt := (.int 1099511627776)
def z48 : De -> Option Dt := (toD (d2 au (vB 2) (toD (d2 bE (toD (d2 bV (toD (d2 gU (vB 1) (kD (.int 37)))) (toD (d2 il (toD (d2 il (kD (.int 11)) (vB 0))) (toD (d2 bE (vB 1) (kD (.int 2)))))))) (kD (.int 26))))))
noncomputable def q48 : De -> Option Dt := (toD (d2 bV (toD (d2 bV (toD (vSl (vB 4) nX (cK (vB 3)))) (toD (d2 au (vB 2) (toD (d2 bE (toD (d2 bV (toD (d2 gU (vB 1) (kD (.int 42)))) (toD (d2 il (kD (.int 5)) (vB 0))))) (kD (.int 26)))))))) (toD (vSl (vB 4) (cK (vB 3)) nX))))
noncomputable def q38 : List Dt -> Option T := gt 6 ((b8 (gT 2 (toT (kD (.str "abcdefghijklmnopqrstuvwxyz"))))
  (b8 (gT 3 (toT (toD (d2 bE (vB 0) (kD (.int 6))))))
  (b8 (gT 4 (toT (toD (d2 bE (toD (d2 gU (vB 0) (kD (.int 6)))) (toD (d2 bV (vB 3) (kD (.int 1))))))))
  (b8 (gT 5 (toT (toD (nY fZ (kD (.str "")) (af (toD (cj [none, some 0, some 2] (ij jo (af (vL 3) aF)) (ax 0) bv z48)) aF)))))
  (cf (cj [none, some 0, some 2, some 4, some 5] (ij jo (af (vL 1) aF)) (ax 0) bv q48)))))))
def q54 : De -> Option Out := (b8 (gT 3 (toT (toD (d2 bE (toD (d2 bV (toD (d2 bV (toD (d2 il (vB 3) (vB 3))) (toD (d2 il (kD (.int 16807)) (vB 3))))) (vB 4))) (kD (.int 2147483629))))))
  (y61 2 (vL 3)))
noncomputable def q19 : List Dt -> Option T := gt 5 ((b8 (gT 2 (dl aF))
  (b8 (gT 3 (toT (toD (d2 bV (toD (d2 bE (vB 0) (kD (.int 2147483629)))) (kD (.int 69621))))))
  (b8 (sM (ij jo (af (toD (d2 bV (vB 1) (kD (.int 1)))) aF)) (ax 4) q54)
  (cf (vSl (vB 2) (cK (kD (.int 1))) nX))))))
noncomputable def q47 : List Dt -> Option T := gt 2 ((b8 (sIf (tB2 (gEq false) (toD (d2 au (vB 1) (kD (.int 0)))) (kD (.str "go"))) (cf (cI (af (toD (d2 au (vB 1) (kD (.int 1)))) aF))) dS)
  (b8 (sIf (tB2 (gEq false) (toD (d2 au (vB 1) (kD (.int 0)))) (kD (.str "if"))) (cf (cI (af (toD (d2 au (vB 1) (kD (.int 2)))) (af (toD (d2 bV (vB 0) (kD (.int 1)))) aF)))) dS)
  (b8 (sIf (tB2 (gEq false) (toD (d2 au (vB 1) (kD (.int 0)))) (kD (.str "end"))) (cf (cI aF)) dS)
  (cf (cI (af (toD (d2 bV (vB 0) (kD (.int 1)))) aF)))))))
def z75 : De -> Option Dt := (toD (aN q47 (af (vL 0) (af (vL 1) aF))))
def fu : List Dt -> Option T := gt 1 ((cf (cj [none, none] (ij qF (af (toD (d2 au (vB 0) (kD (.int 2)))) aF)) (fO 2 (aY (ax 0) (aY (ax 1) fN))) bv z75)))
def q35 : De -> Option Dt := (toD (cI (af (toD (d2 au (vB 0) (kD (.int 0)))) (af (toD (d2 au (vB 0) (kD (.int 1)))) aF))))
def z10 : Fg := (eT (ah (eD (toD (d2 au (vB 0) (kD (.int 0))))) (ah (lL (eN (dl (af (kD (.int 0)) aF))) (eD (toD (d2 au (vB 0) (kD (.int 1)))))) aB)))
noncomputable def y17 : Fd := cO 3 ((aq (cu "Plain" "rows" (eV 0) (eN (d2 au (vB 1) (kD (.int 2)))))
  (aq (cu "Plain" "onward" (eV 0) (eN (aN fu (af (vL 1) aF))))
  (aq (cu "Plain" "incoming" (eV 0) (eB df (ah (eV 2) aB)))
  (aq (cu "Plain" "outgoing" (eV 0) (eN (dl aF)))
  (aq (cu "Plain" "boxes" (eV 0) (eN dg))
  (aq (cu "Plain" "cells" (eV 0) (ia (eN (cj [none] (fIt (toD (d2 au (vB 1) (kD (.int 0))))) (ax 0) bv q35))))
  (aq (cu "Plain" "shelves" (eV 0) (ia (jd [none] (fIt (toD (d2 au (vB 1) (kD (.int 1))))) [0] (ax 0) bv z10)))
  (aq (cu "Plain" "place" (eV 0) (eN (toT (kD (.int 0)))))
  (aq (cu "Plain" "hears" (eV 0) (eN (toT (kD (.int 0)))))
  (aq (cu "Plain" "done" (eV 0) (eN (toT (kD (.int 0)))))
  (cu "Plain" "result" (eV 0) (eN (toT (kD .non)))))))))))))))
def z31 : Fs := (cS (eIx (eV 3) (eD (kD (.str "cells")))) (eD (vL 4)) (eD (vL 5)))
def z32 : Fs := (cS (eIx (eV 3) (eD (kD (.str "shelves")))) (eD (vL 4)) (lL (eN (dl (af (kD (.int 0)) aF))) (eD (vL 7))))
noncomputable def q29 : Fd := cO 8 ((aq (bd 3 (lM [((eD (kD (.str "boxes"))), (eN dg)), ((eD (kD (.str "cells"))), (eN dg)), ((eD (kD (.str "shelves"))), (eN dg)), ((eD (kD (.str "letters"))), (eN (aN df (af (vB 2) aF)))), ((eD (kD (.str "heard"))), (eD (kD (.int 0))))]))
  (aq (di (fIt (vL 0)) [4, 5, 6] (fO 3 (aY (ax 4) (aY (ax 5) (aY (ax 6) fN)))) z31)
  (aq (di (fIt (vL 1)) [4, 7, 6] (fO 3 (aY (ax 4) (aY (ax 7) (aY (ax 6) fN)))) z32)
  (bt (eV 3))))))
def q14 : List Dt -> Option T := gt 2 ((b8 (sIf (tB2 (iU fun i j => decide (i < j)) (vB 1) (toD (aN dA (af (vB 0) aF)))) (cf (d2 au (vB 0) (vB 1))) dS)
  (cf (toT (kD (.int 0))))))
noncomputable def q16 : List Dt -> Option T := gt 1 ((b8 (sIf (tB2 (gEq false) (toD (d2 bE (vB 0) (kD (.int 3)))) (kD (.int 0))) (cf (d2 bE (toD (d2 gU (vB 0) (kD (.int 3)))) (kD (.int 4)))) dS)
  (b8 (sIf (tB2 (gEq false) (toD (d2 bE (vB 0) (kD (.int 3)))) (kD (.int 1))) (cf (d2 jL (toD (d2 jL (toD (d2 pi (kD (.int 2)) (kD (.int 40)))) (kD (.int 1)))) (toD (d2 bE (toD (d2 gU (vB 0) (kD (.int 3)))) (kD (.int 4)))))) dS)
  (cf (d2 bE (toD (d2 il (toD (d2 gU (vB 0) (kD (.int 3)))) (kD (.int 1664525)))) (toD (d2 pi (kD (.int 2)) (kD (.int 40)))))))))
noncomputable def z28 : List Dt -> Option T := gt 2 ((b8 (sIf (tB2 (gEq false) (toD (d2 bE (vB 0) (kD (.int 3)))) (kD (.int 0))) (cf (aN q16 (af (toD (d2 gU (vB 0) (kD (.int 3)))) aF))) dS)
  (cf (d2 au (vB 1) (toD (d2 bE (toD (d2 gU (vB 0) (kD (.int 3)))) (toD (aN dA (af (vB 1) aF)))))))))
noncomputable def y48 : List Dt -> Option T := gt 8 ((b8 (gT 4 (toT (toD (aN q19 (af (vL 0) (af (kD (.int 6)) aF))))))
  (b8 (gT 5 (toT (toD (d2 au (vB 1) (toD (d2 bE (toD (d2 au (vB 4) (kD (.int 1)))) (toD (aN dA (af (vB 1) aF)))))))))
  (b8 (gT 6 (toT (toD (d2 au (toD (d2 au (vB 3) (toD (d2 bE (toD (d2 au (vB 4) (kD (.int 2)))) (toD (aN dA (af (vB 3) aF))))))) (kD (.int 0))))))
  (b8 (gT 7 (toT (toD (d2 bE (toD (d2 au (vB 4) (kD (.int 0)))) (kD (.int 9))))))
  (b8 (sIf (tB2 (iU fun i j => decide (i < j)) (vB 7) (kD (.int 2))) (cf (cI (af (kD (.str "load")) (af (vL 5) (af (toD (d2 au (toD (d2 au (vB 2) (toD (d2 bE (toD (d2 au (vB 4) (kD (.int 2)))) (toD (aN dA (af (vB 2) aF))))))) (kD (.int 0)))) aF))))) dS)
  (b8 (sIf (tB2 (iU fun i j => decide (i < j)) (vB 7) (kD (.int 4))) (cf (cI (af (kD (.str "store")) (af (toD (d2 au (toD (d2 au (vB 2) (toD (d2 bE (toD (d2 au (vB 4) (kD (.int 2)))) (toD (aN dA (af (vB 2) aF))))))) (kD (.int 0)))) (af (toD (aN z28 (af (toD (d2 au (vB 4) (kD (.int 3)))) (af (vL 1) aF)))) aF))))) dS)
  (b8 (sIf (tB2 (iU fun i j => decide (i < j)) (vB 7) (kD (.int 6))) (cf (cI (af (kD (.str "take")) (af (vL 5) (af (vL 6) (af (toD (aN z28 (af (toD (d2 au (vB 4) (kD (.int 3)))) (af (vL 1) aF)))) aF)))))) dS)
  (b8 (sIf (tB2 (iU fun i j => decide (i < j)) (vB 7) (kD (.int 8))) (cf (cI (af (kD (.str "lay")) (af (vL 6) (af (toD (aN z28 (af (toD (d2 au (vB 4) (kD (.int 3)))) (af (vL 1) aF)))) (af (toD (aN z28 (af (toD (d2 au (vB 4) (kD (.int 4)))) (af (vL 1) aF)))) aF)))))) dS)
  (cf (d2 au (toD (dl (af (toD (cI (af (kD (.str "hear")) (af (vL 5) aF)))) (af (toD (cI (af (kD (.str "copy")) (af (vL 5) (af (toD (aN z28 (af (toD (d2 au (vB 4) (kD (.int 3)))) (af (vL 1) aF)))) aF))))) aF)))) (toD (d2 bE (toD (d2 au (vB 4) (kD (.int 5)))) (kD (.int 2)))))))))))))))
def y31 : Fd := cO 1 ((bt (e2 (gIs true) (eF "Plain" "result" (eV 0)) (eD (kD .non)))))
def y24 : Fd := cO 2 ((bt (kE (eF "Plain" "boxes" (eV 0)) (eD (vL 1)) (eD (kD (.int 0))))))
def z5 : Fd := cO 2 ((bt (eIf (tD (gn (toD (cQ "str" (vB 1))))) (eM "Plain" "box" y24 (eV 0) (ah (eD (vL 1)) aB)) (eD (vL 1)))))
noncomputable def z26 : Fd := cO 2 ((aq (bd 1 (eF "Plain" "hears" (eV 0)))
  (aq (m5 "Plain" "hears" (fun i j => i + j) (eV 0) (eD (kD (.int 1))))
  (bt (eIf (i8 (e2 (iU fun i j => decide (i < j)) (eD (vL 1)) (eB dA (ah (eF "Plain" "incoming" (eV 0)) aB)))) (eIx (eF "Plain" "incoming" (eV 0)) (eD (vL 1))) (eD (kD (.int 0))))))))
noncomputable def z70 : List Dt -> Option T := gt 3 ((b8 (sIf (tB2 (gEq false) (vB 0) (kD (.str "+"))) (cf (d2 bV (vB 1) (vB 2))) dS)
  (b8 (sIf (tB2 (gEq false) (vB 0) (kD (.str "-"))) (cf (d2 jL (vB 1) (vB 2))) dS)
  (b8 (sIf (tB2 (gEq false) (vB 0) (kD (.str "*"))) (cf (d2 il (vB 1) (vB 2))) dS)
  (b8 (sIf (tB2 (gEq false) (vB 0) (kD (.str "<"))) (cf (vIf (tB2 (iU fun i j => decide (i < j)) (vB 1) (vB 2)) (toT (kD (.int 1))) (toT (kD (.int 0))))) dS)
  (b8 (sIf (tB2 (gEq false) (vB 0) (kD (.str "="))) (cf (vIf (tB2 (gEq false) (vB 1) (vB 2)) (toT (kD (.int 1))) (toT (kD (.int 0))))) dS)
  (b8 (sIf (tB2 (gEq false) (vB 0) (kD (.str "&"))) (cf (d2 (qw Builtin.bitAnd) (vB 1) (vB 2))) dS)
  (b8 (sIf (tB2 (gEq false) (vB 0) (kD (.str "|"))) (cf (d2 (qw Builtin.bitOr) (vB 1) (vB 2))) dS)
  (cf (d2 (qw Builtin.bitXor) (vB 1) (vB 2)))))))))))
def wN : List Dt -> Option T := gt 3 ((cf (d2 bE (toD (aN z70 (af (vL 0) (af (vL 1) (af (vL 2) aF))))) (kD rl))))
noncomputable def q36 : Fd := cO 3 ((aq (cg (tD (tB2 (gEq false) (toD (d2 au (vB 1) (kD (.int 0)))) (kD (.str "copy")))) (bt (eM "Plain" "worth" z5 (eV 0) (ah (eD (toD (d2 au (vB 1) (kD (.int 2))))) aB))) ce)
  (aq (cg (tD (tB2 (gEq false) (toD (d2 au (vB 1) (kD (.int 0)))) (kD (.str "op")))) (bt (eCV wN (ah (eD (toD (d2 au (vB 1) (kD (.int 2))))) (ah (eM "Plain" "worth" z5 (eV 0) (ah (eD (toD (d2 au (vB 1) (kD (.int 3))))) aB)) (ah (eM "Plain" "worth" z5 (eV 0) (ah (eD (toD (d2 au (vB 1) (kD (.int 4))))) aB)) aB))))) ce)
  (aq (cg (tD (tB2 (gEq false) (toD (d2 au (vB 1) (kD (.int 0)))) (kD (.str "load")))) (bt (eIx (eF "Plain" "cells" (eV 0)) (eD (toD (d2 au (vB 1) (kD (.int 2))))))) ce)
  (aq (cg (tD (tB2 (gEq false) (toD (d2 au (vB 1) (kD (.int 0)))) (kD (.str "take")))) (aq (bd 2 (eIx (eF "Plain" "shelves" (eV 0)) (eD (toD (d2 au (vB 1) (kD (.int 2)))))))
  (bt (eIx (eV 2) (e2 bE (eM "Plain" "worth" z5 (eV 0) (ah (eD (toD (d2 au (vB 1) (kD (.int 3))))) aB)) (eD (toD (aN dA (af (vB 2) aF)))))))) ce)
  (bt (eM "Plain" "next_letter" z26 (eV 0) aB)))))))
noncomputable def z20 : Fd := cO 3 ((cg (tD (tB2 (gEq false) (toD (d2 au (vB 1) (kD (.int 0)))) (kD (.str "store")))) (cS (eF "Plain" "cells" (eV 0)) (eD (toD (d2 au (vB 1) (kD (.int 1))))) (eM "Plain" "worth" z5 (eV 0) (ah (eD (toD (d2 au (vB 1) (kD (.int 2))))) aB))) (cg (tD (tB2 (gEq false) (toD (d2 au (vB 1) (kD (.int 0)))) (kD (.str "lay")))) (aq (bd 2 (eIx (eF "Plain" "shelves" (eV 0)) (eD (toD (d2 au (vB 1) (kD (.int 1)))))))
  (cS (eV 2) (e2 bE (eM "Plain" "worth" z5 (eV 0) (ah (eD (toD (d2 au (vB 1) (kD (.int 2))))) aB)) (eD (toD (aN dA (af (vB 2) aF))))) (eM "Plain" "worth" z5 (eV 0) (ah (eD (toD (d2 au (vB 1) (kD (.int 3))))) aB)))) (cg (tD (tB2 (gEq false) (toD (d2 au (vB 1) (kD (.int 0)))) (kD (.str "say")))) (lF (eF "Plain" "outgoing" (eV 0)) (eM "Plain" "worth" z5 (eV 0) (ah (eD (toD (d2 au (vB 1) (kD (.int 1))))) aB))) (cg (tD (qr (tB2 (gEq true) (toD (d2 au (vB 1) (kD (.int 0)))) (kD (.str "if"))) (tB2 (gEq true) (toD (d2 au (vB 1) (kD (.int 0)))) (kD (.str "go"))))) (cS (eF "Plain" "boxes" (eV 0)) (eD (toD (d2 au (vB 1) (kD (.int 1))))) (eM "Plain" "set_by" q36 (eV 0) (ah (eD (vL 1)) aB))) ce)))))
noncomputable def q22 : Fd := cO 3 ((aq (bd 2 (eIx (eF "Plain" "onward" (eV 0)) (eF "Plain" "place" (eV 0))))
  (aq (cg (lJ (tD (tB2 (gEq false) (toD (d2 au (vB 1) (kD (.int 0)))) (kD (.str "if")))) (i8 (e2 (gEq false) (eM "Plain" "worth" z5 (eV 0) (ah (eD (toD (d2 au (vB 1) (kD (.int 1))))) aB)) (eD (kD (.int 0)))))) (bt (eD (toD (d2 au (vB 2) (kD (.int 1)))))) ce)
  (bt (eD (toD (d2 au (vB 2) (kD (.int 0)))))))))
noncomputable def z42 : Fd := cO 2 ((aq (cg (eX (eM "Plain" "ended" y31 (eV 0) aB)) kr ce)
  (aq (bd 1 (eIx (eF "Plain" "rows" (eV 0)) (eF "Plain" "place" (eV 0))))
  (aq (m5 "Plain" "done" (fun i j => i + j) (eV 0) (eD (kD (.int 1))))
  (cg (tD (tB2 (gEq false) (toD (d2 au (vB 1) (kD (.int 0)))) (kD (.str "end")))) (cu "Plain" "result" (eV 0) (eM "Plain" "worth" z5 (eV 0) (ah (eD (toD (d2 au (vB 1) (kD (.int 1))))) aB))) (aq (gc (eM "Plain" "do_row" z20 (eV 0) (ah (eD (vL 1)) aB)))
  (cu "Plain" "place" (eV 0) (eM "Plain" "place_behind" q22 (eV 0) (ah (eD (vL 1)) aB)))))))))
def y20 : Fd := cO 2 ((aq (cg (tD (gn (toD (cQ "str" (vB 0))))) (bt (kE (eIx (eV 1) (eD (kD (.str "boxes")))) (eD (vL 0)) (eD (kD (.int 0))))) ce)
  (bt (eD (vL 0)))))
noncomputable def q50 : Fd := cO 4 ((aq (cg (tD (tB2 (gEq false) (toD (d2 au (vB 0) (kD (.int 0)))) (kD (.str "store")))) (aq (cS (eIx (eV 1) (eD (kD (.str "cells")))) (eD (toD (d2 au (vB 0) (kD (.int 1))))) (eC y20 (ah (eD (toD (d2 au (vB 0) (kD (.int 2))))) (ah (eV 1) aB))))
  kr) ce)
  (aq (cg (tD (tB2 (gEq false) (toD (d2 au (vB 0) (kD (.int 0)))) (kD (.str "lay")))) (aq (bd 2 (eIx (eIx (eV 1) (eD (kD (.str "shelves")))) (eD (toD (d2 au (vB 0) (kD (.int 1)))))))
  (aq (cS (eV 2) (e2 bE (eC y20 (ah (eD (toD (d2 au (vB 0) (kD (.int 2))))) (ah (eV 1) aB))) (eD (toD (aN dA (af (vB 2) aF))))) (eC y20 (ah (eD (toD (d2 au (vB 0) (kD (.int 3))))) (ah (eV 1) aB))))
  kr)) ce)
  (aq (bd 3 (eC y20 (ah (eD (toD (d2 au (vB 0) (toD (im (kD (.int 1))))))) (ah (eV 1) aB))))
  (aq (cg (tD (tB2 (gEq false) (toD (d2 au (vB 0) (kD (.int 0)))) (kD (.str "load")))) (bd 3 (eIx (eIx (eV 1) (eD (kD (.str "cells")))) (eD (toD (d2 au (vB 0) (kD (.int 2))))))) ce)
  (aq (cg (tD (tB2 (gEq false) (toD (d2 au (vB 0) (kD (.int 0)))) (kD (.str "take")))) (aq (bd 2 (eIx (eIx (eV 1) (eD (kD (.str "shelves")))) (eD (toD (d2 au (vB 0) (kD (.int 2)))))))
  (bd 3 (eIx (eV 2) (e2 bE (eC y20 (ah (eD (toD (d2 au (vB 0) (kD (.int 3))))) (ah (eV 1) aB))) (eD (toD (aN dA (af (vB 2) aF)))))))) ce)
  (aq (cg (tD (tB2 (gEq false) (toD (d2 au (vB 0) (kD (.int 0)))) (kD (.str "hear")))) (aq (bd 3 (eIx (e2 bV (eIx (eV 1) (eD (kD (.str "letters")))) (eD (toD (dl (af (kD (.int 0)) aF))))) (eB tR (ah (eIx (eV 1) (eD (kD (.str "heard")))) (ah (eB dA (ah (eIx (eV 1) (eD (kD (.str "letters")))) aB)) aB)))))
  (cS (eV 1) (eD (kD (.str "heard"))) (e2 bV (eIx (eV 1) (eD (kD (.str "heard")))) (eD (kD (.int 1)))))) ce)
  (cS (eIx (eV 1) (eD (kD (.str "boxes")))) (eD (toD (d2 au (vB 0) (kD (.int 1))))) (eD (vL 3))))))))))
def y39 : Fd := cO 2 ((bt (eB df (ah (eIx (eF "Plain" "shelves" (eV 0)) (eD (vL 1))) aB))))
def z24 : List Dt -> Option T := gt 2 ((cf (ph (toD (cQ "int" (vB 0))) (ph (toD (v9 (toD (cQ "bool" (vB 0))))) (d2 (gEq false) (vB 0) (vB 1))))))
def y35 : Fd := cO 1 ((bt (eB df (ah (eF "Plain" "outgoing" (eV 0)) aB))))
def q32 : Fd := cO 1 ((bt (eF "Plain" "hears" (eV 0))))
def z30 : Fd := cO 2 ((bt (eIx (eF "Plain" "cells" (eV 0)) (eD (vL 1)))))
def q37 : Fs := (cg (eU (eX (eCV z24 (ah (eM "Plain" "cell" z30 (eV 0) (ah (eD (vL 3)) aB)) (ah (eIx (eIx (eV 1) (eD (kD (.str "cells")))) (eD (vL 3))) aB))))) (bt (eD (kD (.bl false)))) ce)
noncomputable def y36 : Fs := (aq (bd 4 (eM "Plain" "shelf" y39 (eV 0) (ah (eD (vL 3)) aB)))
  (aq (cg (qV (tD (pf (gn (toD (cQ "list" (vB 4)))))) (i8 (e2 (gEq true) (eV 4) (eIx (eIx (eV 1) (eD (kD (.str "shelves")))) (eD (vL 3)))))) (bt (eD (kD (.bl false)))) ce)
  (lF (eV 4) (eD (kD (.int 5))))))
def z36 : Fs := (cg (eU (eX (eCV z24 (ah (eM "Plain" "box" y24 (eV 0) (ah (eD (vL 3)) aB)) (ah (kE (eIx (eV 1) (eD (kD (.str "boxes")))) (eD (vL 3)) (eD (kD (.int 0)))) aB))))) (bt (eD (kD (.bl false)))) ce)
noncomputable def q17 : Fd := cO 5 ((aq (fm (eIx (eV 1) (eD (kD (.str "cells")))) [3] (ax 3) q37)
  (aq (fm (eIx (eV 1) (eD (kD (.str "shelves")))) [3] (ax 3) y36)
  (aq (di (fIt (vL 2)) [3] (ax 3) z36)
  (bt (kz (e2 (gEq false) (eM "Plain" "sent" y35 (eV 0) aB) (eD (toD (dl aF)))) (eCV z24 (ah (eM "Plain" "heard" q32 (eV 0) aB) (ah (eIx (eV 1) (eD (kD (.str "heard")))) aB)))))))))
def q26 : Fd := cO 1 ((bt (eF "Plain" "place" (eV 0))))
noncomputable def y60 : De -> Option Dt := (toD (cI (af (toD (d2 au (vB 1) (vB 0))) (af (toD (aN q16 (af (toD (d2 au (vB 2) (vB 0))) aF))) (af (toD (d2 (gEq false) (toD (d2 bE (toD (d2 gU (toD (d2 au (vB 2) (vB 0))) (kD (.int 5)))) (kD (.int 3)))) (kD (.int 0)))) aF)))))
noncomputable def z61 : De -> Option Dt := (toD (cI (af (toD (d2 au (vB 1) (toD (d2 bV (kD (.int 8)) (vB 0))))) (af (toD (d2 bV (kD (.int 1)) (toD (d2 bE (toD (d2 au (vB 2) (toD (d2 bV (kD (.int 8)) (vB 0))))) (kD (.int 8)))))) (af (toD (d2 (gEq false) (toD (d2 bE (toD (d2 gU (toD (d2 au (vB 2) (toD (d2 bV (kD (.int 8)) (vB 0))))) (kD (.int 8)))) (kD (.int 3)))) (kD (.int 0)))) aF)))))
def y113 : De -> Option Dt := (toD (aN q16 (af (vL 0) aF)))
def wO : De -> Option Dt := (toD (aN y48 (af (vL 0) (af (vL 3) (af (vL 1) (af (vL 2) aF))))))
def q61 : Fs := (aq (cg (eU (eX (eC q17 (ah (eV 10) (ah (eV 12) (ah (eD (vL 5)) aB)))))) (bt (eD (kD (.bl false)))) ce)
  (aq (gc (eM "Plain" "step" z42 (eV 10) aB))
  (gc (eC q50 (ah (eD (vL 13)) (ah (eV 12) aB))))))
noncomputable def oz : Fd := cO 15 ((aq (bd 1 (eD (toD (aN q38 (af (toD (aN q14 (af (vL 0) (af (kD (.int 0)) aF)))) (af (kD (.int 20)) aF))))))
  (aq (bd 2 (eD (toD (aN q19 (af (toD (aN q14 (af (vL 0) (af (kD (.int 1)) aF)))) (af (kD (.int 16)) aF))))))
  (aq (bd 3 (eD (toD (cj [none, some 1, some 2] (ij jo (af (toD (d2 bV (kD (.int 1)) (toD (d2 bE (toD (d2 au (vB 2) (kD (.int 12)))) (kD (.int 8)))))) aF)) (ax 0) bv y60))))
  (aq (bd 4 (eD (toD (cj [none, some 1, some 2] (ij jo (af (toD (d2 bV (kD (.int 1)) (toD (d2 bE (toD (d2 au (vB 2) (kD (.int 13)))) (kD (.int 4)))))) aF)) (ax 0) bv z61))))
  (aq (bd 5 (eD (toD (vSl (vB 1) (cK (kD (.int 12))) (cK (kD (.int 16)))))))
  (aq (cg (tD (tB2 (gEq false) (toD (d2 bE (toD (d2 au (vB 2) (kD (.int 14)))) (kD (.int 2)))) (kD (.int 0)))) (bd 5 (eD (toD (d2 bV (toD (vSl (vB 1) (cK (kD (.int 12))) (cK (kD (.int 14))))) (toD (dl (af (toD (d2 au (toD (d2 au (vB 3) (toD (im (kD (.int 1)))))) (kD (.int 0)))) (af (toD (d2 au (toD (d2 au (vB 4) (toD (im (kD (.int 1)))))) (kD (.int 0)))) aF)))))))) ce)
  (aq (bd 6 (eD (toD (cj [none] (fIt (toD (aN q19 (af (toD (aN q14 (af (vL 0) (af (kD (.int 2)) aF)))) (af (toD (d2 bE (toD (d2 au (vB 2) (kD (.int 15)))) (kD (.int 13)))) aF))))) (ax 0) bv y113))))
  (aq (bd 7 (eD (toD (cj [none, some 3, some 4, some 5] (fIt (toD (vSl (vB 0) (cK (kD (.int 4))) (cK (kD (.int 44)))))) (ax 0) bv wO))))
  (aq (bd 8 (eD (toD (cI (af (toD (aN de (af (vB 3) aF))) (af (toD (aN de (af (vB 4) aF))) (af (toD (d2 i7 (toD (aN de (af (vB 7) aF))) (toD (cI (af (toD (cI (af (kD (.str "end")) (af (kD (.int 3)) aF)))) aF))))) aF)))))))
  (aq (bd 9 (eN (aN df (af (vB 6) aF))))
  (aq (bd 10 (eMk "Plain" y17 (ah (eD (vL 8)) (ah (eV 9) aB))))
  (aq (jV (eV 9))
  (aq (bd 11 (eMk "Plain" y17 (ah (eD (vL 8)) (ah (eD (vL 6)) aB))))
  (aq (bd 12 (eC q29 (ah (eD (vL 3)) (ah (eD (vL 4)) (ah (eD (vL 6)) aB)))))
  (aq (di (fIt (vL 7)) [13] (ax 13) q61)
  (aq (bd 14 (eC q29 (ah (eD (vL 3)) (ah (eD (vL 4)) (ah (eD (vL 6)) aB)))))
  (bt (kz (eC q17 (ah (eV 10) (ah (eV 12) (ah (eD (vL 5)) aB)))) (kz (eC q17 (ah (eV 11) (ah (eV 14) (ah (eD (vL 5)) aB)))) (e2 (gEq false) (eM "Plain" "stands" q26 (eV 11) aB) (eD (kD (.int 0))))))))))))))))))))))))
end
structure Txt (P : Program) (w : World) (K : PySem.W.Frag) (mg : Str -> Option Value) : Prop where
 n_bool : mg "bool" = none
 n_dict : mg "dict" = none
 n_enumerate : mg "enumerate" = none
 n_int : mg "int" = none
 n_isinstance : mg "isinstance" = none
 n_len : mg "len" = none
 n_list : mg "list" = none
 n_min : mg "min" = none
 n_range : mg "range" = none
 n_str : mg "str" = none
 n_tuple : mg "tuple" = none
 g_WIDE : qB K mg "WIDE" rl
 k_str : iY K "str"
 k_bool : iY K "bool"
 k_int : iY K "int"
 k_list : iY K "list"
 f_Plain_boxes : gb K "Plain" "boxes"
 f_Plain_cells : gb K "Plain" "cells"
 f_Plain_done : gb K "Plain" "done"
 f_Plain_hears : gb K "Plain" "hears"
 f_Plain_incoming : gb K "Plain" "incoming"
 f_Plain_onward : gb K "Plain" "onward"
 f_Plain_outgoing : gb K "Plain" "outgoing"
 f_Plain_place : gb K "Plain" "place"
 f_Plain_result : gb K "Plain" "result"
 f_Plain_rows : gb K "Plain" "rows"
 f_Plain_shelves : gb K "Plain" "shelves"
section
variable {P : Program} {w : World} {K : PySem.W.Frag} {mg : Str -> Option Value} {base : Heap}
abbrev y2 : Stmt := top 12
def y42 : FnScope ["_law_cell", "_law_many", "_law_letters", "_law_size", "_law_at", "_law_common"] ["_law_cell", "_law_many"] (ab y2) := ⟨rfl, rfl, rfl, by decide +kernel, rfl, by decide +kernel, by decide +kernel⟩
def z69 : aD (ab y2) ["_law_cell", "_law_many", "_law_letters", "_law_size", "_law_at", "_law_common"] 0 "_law_cell" = true := by decide +kernel
def q96 : aD (ab y2) ["_law_cell", "_law_many", "_law_letters", "_law_size", "_law_at", "_law_common"] 1 "_law_many" = true := by decide +kernel
def q97 : aD (ab y2) ["_law_cell", "_law_many", "_law_letters", "_law_size", "_law_at", "_law_common"] 2 "_law_letters" = true := by decide +kernel
def q94 : bA (ab y2) "_law_letters" = true := by decide +kernel
def z54 : aD (ab y2) ["_law_cell", "_law_many", "_law_letters", "_law_size", "_law_at", "_law_common"] 3 "_law_size" = true := by decide +kernel
def y96 : bA (ab y2) "_law_size" = true := by decide +kernel
def q95 : aD (ab y2) ["_law_cell", "_law_many", "_law_letters", "_law_size", "_law_at", "_law_common"] 4 "_law_at" = true := by decide +kernel
def y99 : bA (ab y2) "_law_at" = true := by decide +kernel
def z101 : aD (ab y2) ["_law_cell", "_law_many", "_law_letters", "_law_size", "_law_at", "_law_common"] 5 "_law_common" = true := by decide +kernel
def y92 : bA (ab y2) "_law_common" = true := by decide +kernel
def q55 : aT (ab y2) "range" = true := by decide +kernel
def z107 (T : Txt P w K mg) (D : DefF K mg "_law_names" y2 ["_law_cell", "_law_many"]) : OkF P w K mg base "_law_names" 1 ["_law_cell", "_law_many"] (spD K 2 q38) :=
 eO D y42 rfl fun f cdv A outer s H E hr => (aR (dc q97 q94 y42.nd (DL.toO aA))
     (aR (dc z54 y96 y42.nd (DL.toO (DO.toL (ar aW bw (ac (pvD 0 z69)) (DL.toB ae)))))
     (aR (dc q95 y99 y42.nd (DL.toO (DO.toL (ar aW bw (DO.toB (ar cG fQ (ac (pvD 0 z69)) (DL.toB ae))) (DO.toB (ar bh b5 (ac (pvD 3 z54)) (DL.toB ae)))))))
     (aR (dc z101 y92 y42.nd (DL.toO (DO.toL (sY (DL.toB aA) (br (DO.toB (fI (M := ["_law_k", "_law_cell", "_law_letters"]) (src := [none, some 0, some 2]) (ts := [0]) (CmpScope.of (N := ["_law_cell", "_law_many", "_law_letters", "_law_size", "_law_at", "_law_common"]) (outer := ab y2) (by decide +kernel)) rfl (DIF.toB (dH q55 T.n_range (ai (aw (pvD 3 z54)) aI))) (fun nd _ _ _ _ => (bi (ca (N := ["_law_k", "_law_cell", "_law_letters"]) (i := 0) (by decide +kernel) (by decide +kernel) nd (scC (outer := ab y2) (by exact rfl))))) (fun _ _ _ _ => cT) (fun _ _ _ _ => (DO.toL (ak hr (ac (pvD (N := ["_law_k", "_law_cell", "_law_letters"]) 2 (by decide +kernel) (scC (outer := ab y2) rfl))) (DO.toB (ar aW bw (DO.toB (ar bh b5 (DO.toB (ar cG fQ (ac (pvD (N := ["_law_k", "_law_cell", "_law_letters"]) 1 (by decide +kernel) (scC (outer := ab y2) rfl))) (DL.toB ae))) (DO.toB (ar fT iV (DO.toB (ar fT iV (DL.toB ae) (ac (pvD (N := ["_law_k", "_law_cell", "_law_letters"]) 0 (by decide +kernel) (scC (outer := ab y2) rfl))))) (DO.toB (ar aW bw (ac (pvD (N := ["_law_k", "_law_cell", "_law_letters"]) 1 (by decide +kernel) (scC (outer := ab y2) rfl))) (DL.toB ae))))))) (DL.toB ae)))))) (by decide +kernel))) bF)))))
     (bc (bg (fI (M := ["_law_k", "_law_cell", "_law_letters", "_law_at", "_law_common"]) (src := [none, some 0, some 2, some 4, some 5]) (ts := [0]) (CmpScope.of (N := ["_law_cell", "_law_many", "_law_letters", "_law_size", "_law_at", "_law_common"]) (outer := ab y2) (by decide +kernel)) rfl (DIF.toB (dH q55 T.n_range (ai (aw (pvD 1 q96)) aI))) (fun nd _ _ _ _ => (bi (ca (N := ["_law_k", "_law_cell", "_law_letters", "_law_at", "_law_common"]) (i := 0) (by decide +kernel) (by decide +kernel) nd (scC (outer := ab y2) (by exact rfl))))) (fun _ _ _ _ => cT) (fun _ _ _ _ => (DO.toL (ar bh b5 (DO.toB (ar bh b5 (DO.toB (dL (ac (pvD (N := ["_law_k", "_law_cell", "_law_letters", "_law_at", "_law_common"]) 4 (by decide +kernel) (scC (outer := ab y2) rfl))) kg (cU (ac (pvD (N := ["_law_k", "_law_cell", "_law_letters", "_law_at", "_law_common"]) 3 (by decide +kernel) (scC (outer := ab y2) rfl)))))) (DO.toB (ak hr (ac (pvD (N := ["_law_k", "_law_cell", "_law_letters", "_law_at", "_law_common"]) 2 (by decide +kernel) (scC (outer := ab y2) rfl))) (DO.toB (ar aW bw (DO.toB (ar bh b5 (DO.toB (ar cG fQ (ac (pvD (N := ["_law_k", "_law_cell", "_law_letters", "_law_at", "_law_common"]) 1 (by decide +kernel) (scC (outer := ab y2) rfl))) (DL.toB ae))) (DO.toB (ar fT iV (DL.toB ae) (ac (pvD (N := ["_law_k", "_law_cell", "_law_letters", "_law_at", "_law_common"]) 0 (by decide +kernel) (scC (outer := ab y2) rfl))))))) (DL.toB ae))))))) (DO.toB (dL (ac (pvD (N := ["_law_k", "_law_cell", "_law_letters", "_law_at", "_law_common"]) 4 (by decide +kernel) (scC (outer := ab y2) rfl))) (cU (ac (pvD (N := ["_law_k", "_law_cell", "_law_letters", "_law_at", "_law_common"]) 3 (by decide +kernel) (scC (outer := ab y2) rfl)))) kg))))) (by decide +kernel))))))))
abbrev y13 : Stmt := top 11
def z40 : FnScope ["_law_cell", "_law_many", "_law_found", "_law_number", "_law_k"] ["_law_cell", "_law_many"] (ab y13) := ⟨rfl, rfl, rfl, by decide +kernel, rfl, by decide +kernel, by decide +kernel⟩
def z90 : aD (ab y13) ["_law_cell", "_law_many", "_law_found", "_law_number", "_law_k"] 0 "_law_cell" = true := by decide +kernel
def y87 : aD (ab y13) ["_law_cell", "_law_many", "_law_found", "_law_number", "_law_k"] 1 "_law_many" = true := by decide +kernel
def y51 : aD (ab y13) ["_law_cell", "_law_many", "_law_found", "_law_number", "_law_k"] 2 "_law_found" = true := by decide +kernel
def y89 : bA (ab y13) "_law_found" = true := by decide +kernel
def y27 : aD (ab y13) ["_law_cell", "_law_many", "_law_found", "_law_number", "_law_k"] 3 "_law_number" = true := by decide +kernel
def z65 : bA (ab y13) "_law_number" = true := by decide +kernel
def q63 : aD (ab y13) ["_law_cell", "_law_many", "_law_found", "_law_number", "_law_k"] 4 "_law_k" = true := by decide +kernel
def q88 : bA (ab y13) "_law_k" = true := by decide +kernel
def y74 : aT (ab y13) "range" = true := by decide +kernel
def q102 (T : Txt P w K mg) (D : DefF K mg "_law_stream" y13 ["_law_cell", "_law_many"]) : OkF P w K mg base "_law_stream" 1 ["_law_cell", "_law_many"] (spD K 2 q19) :=
 eO D z40 rfl fun f cdv A outer s H E hr => (aR (dc y51 y89 z40.nd (eJ aI))
     (aR (dc y27 z65 z40.nd (DL.toO (DO.toL (ar bh b5 (DO.toB (ar aW bw (ac (pvD 0 z90)) (DL.toB ae))) (DL.toB ae)))))
     (aR (wc PassesOwn.never rfl (dH y74 T.n_range (ai (DO.toL (ar bh b5 (ac (pvD 1 y87)) (DL.toB ae))) aI)) (bi (bT q63 q88 z40.nd)) (aR (dc y27 z65 z40.nd (DL.toO (DO.toL (ar aW bw (DO.toB (ar bh b5 (DO.toB (ar bh b5 (DO.toB (ar fT iV (ac (pvD 3 y27)) (ac (pvD 3 y27)))) (DO.toB (ar fT iV (DL.toB ae) (ac (pvD 3 y27)))))) (ac (pvD 4 q63)))) (DL.toB ae)))))
     (bc (pj (pvD 2 y51) (aw (pvD 3 y27))))))
     (bc (bg (dL (ac (pvD 2 y51)) (cU (DL.toB ae)) kg))))))
abbrev q41 : Stmt := top 3
def q115 : FnScope ["number", "row"] ["number", "row"] (ab q41) := ⟨rfl, rfl, rfl, by decide +kernel, rfl, by decide +kernel, by decide +kernel⟩
def y80 : aD (ab q41) ["number", "row"] 0 "number" = true := by decide +kernel
def q46 : aD (ab q41) ["number", "row"] 1 "row" = true := by decide +kernel
def y114 (T : Txt P w K mg) (D : DefF K mg "ways_of" q41 ["number", "row"]) : OkF P w K mg base "ways_of" 1 ["number", "row"] (spD K 2 q47) :=
 eO D q115 rfl fun f cdv A outer s H E hr => (aR (cB (aS (aU hr) bW (DO.toB (ak hr (ac (pvD 1 q46)) (DL.toB ae))) (DL.toB aA) (aL _)) (bc (bg (b7 (ai (DO.toL (ak hr (ac (pvD 1 q46)) (DL.toB ae))) aI)))) bP)
     (aR (cB (aS (aU hr) bW (DO.toB (ak hr (ac (pvD 1 q46)) (DL.toB ae))) (DL.toB aA) (aL _)) (bc (bg (b7 (ai (DO.toL (ak hr (ac (pvD 1 q46)) (DL.toB ae))) (ai (DO.toL (ar bh b5 (ac (pvD 0 y80)) (DL.toB ae))) aI))))) bP)
     (aR (cB (aS (aU hr) bW (DO.toB (ak hr (ac (pvD 1 q46)) (DL.toB ae))) (DL.toB aA) (aL _)) (bc (bg (b7 aI))) bP)
     (bc (bg (b7 (ai (DO.toL (ar bh b5 (ac (pvD 0 y80)) (DL.toB ae))) aI)))))))
abbrev cx : Stmt := top 4
def z121 : FnScope ["program"] ["program"] (ab cx) := ⟨rfl, rfl, rfl, by decide +kernel, rfl, by decide +kernel, by decide +kernel⟩
def q117 : aD (ab cx) ["program"] 0 "program" = true := by decide +kernel
def y84 : aT (ab cx) "enumerate" = true := by decide +kernel
def q122 (T : Txt P w K mg) (D : DefF K mg "ways" cx ["program"]) (y79 : OkF P w K mg base "ways_of" 1 ["number", "row"] (spD K 2 (q47))) : OkF P w K mg base "ways" 2 ["program"] (spD K 1 fu) :=
 eO D z121 rfl fun f cdv A outer s H E hr => (bc (bg (fI (M := ["number", "row"]) (src := [none, none]) (ts := [0, 1]) (CmpScope.of (N := ["program"]) (outer := ab cx) (by decide +kernel)) rfl (DIF.toB (ki y84 T.n_enumerate (ai (DO.toL (ak hr (ac (pvD 0 q117)) (DL.toB ae))) aI))) (fun nd _ _ _ _ => (mD rfl (cJ (bi (ca (N := ["number", "row"]) (i := 0) (by decide +kernel) (by decide +kernel) nd (scC (outer := ab cx) (by exact rfl)))) (cJ (bi (ca (N := ["number", "row"]) (i := 1) (by decide +kernel) (by decide +kernel) nd (scC (outer := ab cx) (by exact rfl)))) ke)))) (fun _ _ _ _ => cT) (fun _ _ _ _ => (DO.toL (bf (by decide +kernel) y79 (hr.mono (by decide)) (ai (aw (pvD (N := ["number", "row"]) 0 (by decide +kernel) (scC (outer := ab cx) rfl))) (ai (aw (pvD (N := ["number", "row"]) 1 (by decide +kernel) (scC (outer := ab cx) rfl))) aI)) (e1 := (scC (outer := ab cx) rfl))))) (by decide +kernel))))
abbrev y3 : Stmt := gB 8 0
def q81 : FnScope ["self", "program", "letters"] ["self", "program", "letters"] (ab y3) := ⟨rfl, rfl, rfl, by decide +kernel, rfl, by decide +kernel, by decide +kernel⟩
def y10 : aD (ab y3) ["self", "program", "letters"] 0 "self" = true := by decide +kernel
def q31 : aD (ab y3) ["self", "program", "letters"] 1 "program" = true := by decide +kernel
def q74 : aD (ab y3) ["self", "program", "letters"] 2 "letters" = true := by decide +kernel
def y66 : aT (ab y3) "ways" = true := by decide +kernel
def q67 : aT (ab y3) "list" = true := by decide +kernel
def q49 : aT (ab y3) "dict" = true := by decide +kernel
def z80 (T : Txt P w K mg) (D : DefI K mg "Plain" "Plain.__init__" y3 ["self", "program", "letters"]) (h_ways : OkF P w K mg base "ways" 2 ["program"] (spD K 1 (fu))) : OkI P w K mg base "Plain" 3 ["self", "program", "letters"] (spG K 3 (y17)) :=
 tM D q81 rfl fun f cdv A outer s H E hr => (ap (bY (aj (pvD 0 y10)) T.f_Plain_rows (b9 (ak hr (ac (pvD 1 q31)) (DL.toB ae))))
     (ap (bY (aj (pvD 0 y10)) T.f_Plain_onward (b9 (bf y66 h_ways (hr.mono (by decide)) (ai (aw (pvD 1 q31)) aI))))
     (ap (bY (aj (pvD 0 y10)) T.f_Plain_incoming (jb q67 cm iX T.n_list fH (ao (aj (pvD 2 q74)) aO)))
     (ap (bY (aj (pvD 0 y10)) T.f_Plain_outgoing (b9 (eJ aI)))
     (ap (bY (aj (pvD 0 y10)) T.f_Plain_boxes (b9 ix))
     (ap (bY (aj (pvD 0 y10)) T.f_Plain_cells (om q49 rfl T.n_dict nF (b9 (fI (M := ["head"]) (src := [none]) (ts := [0]) (CmpScope.of (N := ["self", "program", "letters"]) (outer := ab y3) (by decide +kernel)) rfl (kf (DO.toB (ak hr (ac (pvD 1 q31)) (DL.toB ae)))) (fun nd _ _ _ _ => (bi (ca (N := ["head"]) (i := 0) (by decide +kernel) (by decide +kernel) nd (scC (outer := ab y3) (by exact rfl))))) (fun _ _ _ _ => cT) (fun _ _ _ _ => (DO.toL (b7 (ai (DO.toL (ak hr (ac (pvD (N := ["head"]) 0 (by decide +kernel) (scC (outer := ab y3) rfl))) (DL.toB ae))) (ai (DO.toL (ak hr (ac (pvD (N := ["head"]) 0 (by decide +kernel) (scC (outer := ab y3) rfl))) (DL.toB ae))) aI))))) (by decide +kernel)))))
     (ap (bY (aj (pvD 0 y10)) T.f_Plain_shelves (om q49 rfl T.n_dict nF (tN (M := ["head"]) (src := [none]) (ts := [0]) (CmpScope.of (N := ["self", "program", "letters"]) (outer := ab y3) (by decide +kernel)) rfl (iT (DO.toL (ak hr (ac (pvD 1 q31)) (DL.toB ae)))) (fun nd _ _ _ _ => (bi (ca (N := ["head"]) (i := 0) (by decide +kernel) (by decide +kernel) nd (scC (outer := ab y3) (by exact rfl))))) (fun _ _ _ _ => cT) (fun _ _ _ _ => (wI (ao (ag (DO.toL (ak hr (ac (pvD (N := ["head"]) 0 (by decide +kernel) (scC (outer := ab y3) rfl))) (DL.toB ae)))) (ao (qZ (b9 (eJ (ai ae aI))) (ag (DO.toL (ak hr (ac (pvD (N := ["head"]) 0 (by decide +kernel) (scC (outer := ab y3) rfl))) (DL.toB ae))))) aO)))) (by decide +kernel))))
     (ap (bY (aj (pvD 0 y10)) T.f_Plain_place (b9 (DL.toO ae)))
     (ap (bY (aj (pvD 0 y10)) T.f_Plain_hears (b9 (DL.toO ae)))
     (ap (bY (aj (pvD 0 y10)) T.f_Plain_done (b9 (DL.toO ae)))
     (aG (bY (aj (pvD 0 y10)) T.f_Plain_result (b9 (DL.toO qq))))))))))))))
abbrev y8 : Stmt := top 18
def y26 : FnScope ["_law_cells", "_law_shelves", "_law_letters", "_law_now", "_law_name", "_law_start", "_law_twin", "_law_size"] ["_law_cells", "_law_shelves", "_law_letters"] (ab y8) := ⟨rfl, rfl, rfl, by decide +kernel, rfl, by decide +kernel, by decide +kernel⟩
def z93 : aD (ab y8) ["_law_cells", "_law_shelves", "_law_letters", "_law_now", "_law_name", "_law_start", "_law_twin", "_law_size"] 0 "_law_cells" = true := by decide +kernel
def y98 : aD (ab y8) ["_law_cells", "_law_shelves", "_law_letters", "_law_now", "_law_name", "_law_start", "_law_twin", "_law_size"] 1 "_law_shelves" = true := by decide +kernel
def y101 : aD (ab y8) ["_law_cells", "_law_shelves", "_law_letters", "_law_now", "_law_name", "_law_start", "_law_twin", "_law_size"] 2 "_law_letters" = true := by decide +kernel
def q44 : aD (ab y8) ["_law_cells", "_law_shelves", "_law_letters", "_law_now", "_law_name", "_law_start", "_law_twin", "_law_size"] 3 "_law_now" = true := by decide +kernel
def z97 : bA (ab y8) "_law_now" = true := by decide +kernel
def z44 : aD (ab y8) ["_law_cells", "_law_shelves", "_law_letters", "_law_now", "_law_name", "_law_start", "_law_twin", "_law_size"] 4 "_law_name" = true := by decide +kernel
def z68 : bA (ab y8) "_law_name" = true := by decide +kernel
def y69 : aD (ab y8) ["_law_cells", "_law_shelves", "_law_letters", "_law_now", "_law_name", "_law_start", "_law_twin", "_law_size"] 5 "_law_start" = true := by decide +kernel
def y100 : bA (ab y8) "_law_start" = true := by decide +kernel
def y67 : aD (ab y8) ["_law_cells", "_law_shelves", "_law_letters", "_law_now", "_law_name", "_law_start", "_law_twin", "_law_size"] 6 "_law_twin" = true := by decide +kernel
def y68 : bA (ab y8) "_law_twin" = true := by decide +kernel
def q68 : aD (ab y8) ["_law_cells", "_law_shelves", "_law_letters", "_law_now", "_law_name", "_law_start", "_law_twin", "_law_size"] 7 "_law_size" = true := by decide +kernel
def z94 : bA (ab y8) "_law_size" = true := by decide +kernel
def q78 : aT (ab y8) "list" = true := by decide +kernel
def q107 (T : Txt P w K mg) (D : DefF K mg "_law_begun" y8 ["_law_cells", "_law_shelves", "_law_letters"]) : OkF P w K mg base "_law_begun" 1 ["_law_cells", "_law_shelves", "_law_letters"] (spG K 3 (q29)) :=
 iz D y26 rfl fun f cdv A outer s H E hr => (ap (bq q44 z97 y26.nd (tQ (fps := [((eD (kD (.str "boxes"))), (eN dg)), ((eD (kD (.str "cells"))), (eN dg)), ((eD (kD (.str "shelves"))), (eN dg)), ((eD (kD (.str "letters"))), (eN (aN df (af (vB 2) aF)))), ((eD (kD (.str "heard"))), (eD (kD (.int 0))))]) (fq (ag aA) (b9 ix) (fq (ag aA) (b9 ix) (fq (ag aA) (b9 ix) (fq (ag aA) (b9 (eL q78 cm iX T.n_list fH (br (ac (pvD 2 y101)) bF))) (fq (ag aA) (ag ae) tT))))) rfl rfl (by simp) (by decide)))
     (ap (kx PassesOwn.never rfl (iT (aw (pvD 0 z93))) (mD rfl (cJ (bi (bT z44 z68 y26.nd)) (cJ (bi (bT y69 y100 y26.nd)) (cJ (bi (bT y67 y68 y26.nd)) ke)))) (aG (dX hr (bj hr (aj (pvD 3 q44)) (ag aA)) (ag (aw (pvD 4 z44))) (ag (aw (pvD 5 y69))))))
     (ap (kx PassesOwn.never rfl (iT (aw (pvD 1 y98))) (mD rfl (cJ (bi (bT z44 z68 y26.nd)) (cJ (bi (bT q68 z94 y26.nd)) (cJ (bi (bT y67 y68 y26.nd)) ke)))) (aG (dX hr (bj hr (aj (pvD 3 q44)) (ag aA)) (ag (aw (pvD 4 z44))) (qZ (b9 (eJ (ai ae aI))) (ag (aw (pvD 7 q68)))))))
     (aG (bp (aj (pvD 3 q44)))))))
abbrev z19 : Stmt := top 10
def y94 : FnScope ["_law_script", "_law_k"] ["_law_script", "_law_k"] (ab z19) := ⟨rfl, rfl, rfl, by decide +kernel, rfl, by decide +kernel, by decide +kernel⟩
def z59 : aD (ab z19) ["_law_script", "_law_k"] 0 "_law_script" = true := by decide +kernel
def y59 : aD (ab z19) ["_law_script", "_law_k"] 1 "_law_k" = true := by decide +kernel
def y76 : aT (ab z19) "len" = true := by decide +kernel
def z99 (T : Txt P w K mg) (D : DefF K mg "_law_cell_at" z19 ["_law_script", "_law_k"]) : OkF P w K mg base "_law_cell_at" 1 ["_law_script", "_law_k"] (spD K 2 q14) :=
 eO D y94 rfl fun f cdv A outer s H E hr => (aR (cB (aS iF iW (ac (pvD 1 y59)) (DO.toB (cc y76 bN d7 T.n_len cN (br (ac (pvD 0 z59)) bF))) (aL _)) (bc (bg (ak hr (ac (pvD 0 z59)) (ac (pvD 1 y59))))) bP)
     (bc (bg (DL.toO ae))))
abbrev z25 : Stmt := top 13
def z85 : FnScope ["_law_number"] ["_law_number"] (ab z25) := ⟨rfl, rfl, rfl, by decide +kernel, rfl, by decide +kernel, by decide +kernel⟩
def z29 : aD (ab z25) ["_law_number"] 0 "_law_number" = true := by decide +kernel
def q92 (T : Txt P w K mg) (D : DefF K mg "_law_value_by" z25 ["_law_number"]) : OkF P w K mg base "_law_value_by" 1 ["_law_number"] (spD K 1 q16) :=
 eO D z85 rfl fun f cdv A outer s H E hr => (aR (cB (aS (aU hr) bW (DO.toB (ar aW bw (ac (pvD 0 z29)) (DL.toB ae))) (DL.toB ae) (aL _)) (bc (bg (ar aW bw (DO.toB (ar cG fQ (ac (pvD 0 z29)) (DL.toB ae))) (DL.toB ae)))) bP)
     (aR (cB (aS (aU hr) bW (DO.toB (ar aW bw (ac (pvD 0 z29)) (DL.toB ae))) (DL.toB ae) (aL _)) (bc (bg (ar ml qx (DO.toB (ar ml qx (DO.toB (ar pP uG (DL.toB ae) (DL.toB ae))) (DL.toB ae))) (DO.toB (ar aW bw (DO.toB (ar cG fQ (ac (pvD 0 z29)) (DL.toB ae))) (DL.toB ae)))))) bP)
     (bc (bg (ar aW bw (DO.toB (ar fT iV (DO.toB (ar cG fQ (ac (pvD 0 z29)) (DL.toB ae))) (DL.toB ae))) (DO.toB (ar pP uG (DL.toB ae) (DL.toB ae))))))))
abbrev q24 : Stmt := top 14
def q111 : FnScope ["_law_number", "_law_names_here"] ["_law_number", "_law_names_here"] (ab q24) := ⟨rfl, rfl, rfl, by decide +kernel, rfl, by decide +kernel, by decide +kernel⟩
def y55 : aD (ab q24) ["_law_number", "_law_names_here"] 0 "_law_number" = true := by decide +kernel
def y72 : aD (ab q24) ["_law_number", "_law_names_here"] 1 "_law_names_here" = true := by decide +kernel
def y57 : aT (ab q24) "_law_value_by" = true := by decide +kernel
def q91 : aT (ab q24) "len" = true := by decide +kernel
def y112 (T : Txt P w K mg) (D : DefF K mg "_law_atom" q24 ["_law_number", "_law_names_here"]) (q25 : OkF P w K mg base "_law_value_by" 1 ["_law_number"] (spD K 1 (q16))) : OkF P w K mg base "_law_atom" 2 ["_law_number", "_law_names_here"] (spD K 2 z28) :=
 eO D q111 rfl fun f cdv A outer s H E hr => (aR (cB (aS (aU hr) bW (DO.toB (ar aW bw (ac (pvD 0 y55)) (DL.toB ae))) (DL.toB ae) (aL _)) (bc (bg (bf y57 q25 (hr.mono (by decide)) (ai (DO.toL (ar cG fQ (ac (pvD 0 y55)) (DL.toB ae))) aI)))) bP)
     (bc (bg (ak hr (ac (pvD 1 y72)) (DO.toB (ar aW bw (DO.toB (ar cG fQ (ac (pvD 0 y55)) (DL.toB ae))) (DO.toB (cc q91 bN d7 T.n_len cN (br (ac (pvD 1 y72)) bF)))))))))
abbrev y12 : Stmt := top 15
def z50 : FnScope ["_law_cell", "_law_boxes", "_law_cells", "_law_shelves", "_law_xs", "_law_x", "_law_shelf", "_law_kind"] ["_law_cell", "_law_boxes", "_law_cells", "_law_shelves"] (ab y12) := ⟨rfl, rfl, rfl, by decide +kernel, rfl, by decide +kernel, by decide +kernel⟩
def z106 : aD (ab y12) ["_law_cell", "_law_boxes", "_law_cells", "_law_shelves", "_law_xs", "_law_x", "_law_shelf", "_law_kind"] 0 "_law_cell" = true := by decide +kernel
def q30 : aD (ab y12) ["_law_cell", "_law_boxes", "_law_cells", "_law_shelves", "_law_xs", "_law_x", "_law_shelf", "_law_kind"] 1 "_law_boxes" = true := by decide +kernel
def y50 : aD (ab y12) ["_law_cell", "_law_boxes", "_law_cells", "_law_shelves", "_law_xs", "_law_x", "_law_shelf", "_law_kind"] 2 "_law_cells" = true := by decide +kernel
def q76 : aD (ab y12) ["_law_cell", "_law_boxes", "_law_cells", "_law_shelves", "_law_xs", "_law_x", "_law_shelf", "_law_kind"] 3 "_law_shelves" = true := by decide +kernel
def z15 : aD (ab y12) ["_law_cell", "_law_boxes", "_law_cells", "_law_shelves", "_law_xs", "_law_x", "_law_shelf", "_law_kind"] 4 "_law_xs" = true := by decide +kernel
def y110 : bA (ab y12) "_law_xs" = true := by decide +kernel
def q43 : aD (ab y12) ["_law_cell", "_law_boxes", "_law_cells", "_law_shelves", "_law_xs", "_law_x", "_law_shelf", "_law_kind"] 5 "_law_x" = true := by decide +kernel
def q110 : bA (ab y12) "_law_x" = true := by decide +kernel
def q58 : aD (ab y12) ["_law_cell", "_law_boxes", "_law_cells", "_law_shelves", "_law_xs", "_law_x", "_law_shelf", "_law_kind"] 6 "_law_shelf" = true := by decide +kernel
def y106 : bA (ab y12) "_law_shelf" = true := by decide +kernel
def z43 : aD (ab y12) ["_law_cell", "_law_boxes", "_law_cells", "_law_shelves", "_law_xs", "_law_x", "_law_shelf", "_law_kind"] 7 "_law_kind" = true := by decide +kernel
def z110 : bA (ab y12) "_law_kind" = true := by decide +kernel
def z67 : aT (ab y12) "_law_stream" = true := by decide +kernel
def y44 : aT (ab y12) "len" = true := by decide +kernel
def z23 : aT (ab y12) "_law_atom" = true := by decide +kernel
def q113 (T : Txt P w K mg) (D : DefF K mg "_law_row" y12 ["_law_cell", "_law_boxes", "_law_cells", "_law_shelves"]) (z37 : OkF P w K mg base "_law_atom" 2 ["_law_number", "_law_names_here"] (spD K 2 (z28))) (y29 : OkF P w K mg base "_law_stream" 1 ["_law_cell", "_law_many"] (spD K 2 (q19))) : OkF P w K mg base "_law_row" 3 ["_law_cell", "_law_boxes", "_law_cells", "_law_shelves"] (spD K 4 y48) :=
 eO D z50 rfl fun f cdv A outer s H E hr => (aR (dc z15 y110 z50.nd (DL.toO (DO.toL (bf z67 y29 (hr.mono (by decide)) (ai (aw (pvD 0 z106)) (ai ae aI))))))
     (aR (dc q43 q110 z50.nd (DL.toO (DO.toL (ak hr (ac (pvD 1 q30)) (DO.toB (ar aW bw (DO.toB (ak hr (ac (pvD 4 z15)) (DL.toB ae))) (DO.toB (cc y44 bN d7 T.n_len cN (br (ac (pvD 1 q30)) bF)))))))))
     (aR (dc q58 y106 z50.nd (DL.toO (DO.toL (ak hr (DO.toB (ak hr (ac (pvD 3 q76)) (DO.toB (ar aW bw (DO.toB (ak hr (ac (pvD 4 z15)) (DL.toB ae))) (DO.toB (cc y44 bN d7 T.n_len cN (br (ac (pvD 3 q76)) bF))))))) (DL.toB ae)))))
     (aR (dc z43 z110 z50.nd (DL.toO (DO.toL (ar aW bw (DO.toB (ak hr (ac (pvD 4 z15)) (DL.toB ae))) (DL.toB ae)))))
     (aR (cB (aS iF iW (ac (pvD 7 z43)) (DL.toB ae) (aL _)) (bc (bg (b7 (ai aA (ai (aw (pvD 5 q43)) (ai (DO.toL (ak hr (DO.toB (ak hr (ac (pvD 2 y50)) (DO.toB (ar aW bw (DO.toB (ak hr (ac (pvD 4 z15)) (DL.toB ae))) (DO.toB (cc y44 bN d7 T.n_len cN (br (ac (pvD 2 y50)) bF))))))) (DL.toB ae))) aI)))))) bP)
     (aR (cB (aS iF iW (ac (pvD 7 z43)) (DL.toB ae) (aL _)) (bc (bg (b7 (ai aA (ai (DO.toL (ak hr (DO.toB (ak hr (ac (pvD 2 y50)) (DO.toB (ar aW bw (DO.toB (ak hr (ac (pvD 4 z15)) (DL.toB ae))) (DO.toB (cc y44 bN d7 T.n_len cN (br (ac (pvD 2 y50)) bF))))))) (DL.toB ae))) (ai (DO.toL (bf z23 z37 (hr.mono (by decide)) (ai (DO.toL (ak hr (ac (pvD 4 z15)) (DL.toB ae))) (ai (aw (pvD 1 q30)) aI)))) aI)))))) bP)
     (aR (cB (aS iF iW (ac (pvD 7 z43)) (DL.toB ae) (aL _)) (bc (bg (b7 (ai aA (ai (aw (pvD 5 q43)) (ai (aw (pvD 6 q58)) (ai (DO.toL (bf z23 z37 (hr.mono (by decide)) (ai (DO.toL (ak hr (ac (pvD 4 z15)) (DL.toB ae))) (ai (aw (pvD 1 q30)) aI)))) aI))))))) bP)
     (aR (cB (aS iF iW (ac (pvD 7 z43)) (DL.toB ae) (aL _)) (bc (bg (b7 (ai aA (ai (aw (pvD 6 q58)) (ai (DO.toL (bf z23 z37 (hr.mono (by decide)) (ai (DO.toL (ak hr (ac (pvD 4 z15)) (DL.toB ae))) (ai (aw (pvD 1 q30)) aI)))) (ai (DO.toL (bf z23 z37 (hr.mono (by decide)) (ai (DO.toL (ak hr (ac (pvD 4 z15)) (DL.toB ae))) (ai (aw (pvD 1 q30)) aI)))) aI))))))) bP)
     (bc (bg (ak hr (DO.toB (eJ (ai (DO.toL (b7 (ai aA (ai (aw (pvD 5 q43)) aI)))) (ai (DO.toL (b7 (ai aA (ai (aw (pvD 5 q43)) (ai (DO.toL (bf z23 z37 (hr.mono (by decide)) (ai (DO.toL (ak hr (ac (pvD 4 z15)) (DL.toB ae))) (ai (aw (pvD 1 q30)) aI)))) aI))))) aI)))) (DO.toB (ar aW bw (DO.toB (ak hr (ac (pvD 4 z15)) (DL.toB ae))) (DL.toB ae))))))))))))))
abbrev y22 : Stmt := gB 8 8
def z96 : FnScope ["self"] ["self"] (ab y22) := ⟨rfl, rfl, rfl, by decide +kernel, rfl, by decide +kernel, by decide +kernel⟩
def z84 : aD (ab y22) ["self"] 0 "self" = true := by decide +kernel
def q100 (T : Txt P w K mg) (D : DefM K "Plain" "ended" "Plain.ended" y22 ["self"]) : OkM P w K mg base "Plain" "ended" 1 ["self"] (spG K 1 (y31)) :=
 bZ D z96 rfl fun f cdv A outer s H E hr => (aG (bp (mX rZ sU (bH (aj (pvD 0 z84)) T.f_Plain_result) (ag qq) (aL _))))
abbrev y25 : Stmt := gB 8 10
def q108 : FnScope ["self", "name"] ["self", "name"] (ab y25) := ⟨rfl, rfl, rfl, by decide +kernel, rfl, by decide +kernel, by decide +kernel⟩
def q101 : aD (ab y25) ["self", "name"] 0 "self" = true := by decide +kernel
def y97 : aD (ab y25) ["self", "name"] 1 "name" = true := by decide +kernel
def y107 (T : Txt P w K mg) (D : DefM K "Plain" "box" "Plain.box" y25 ["self", "name"]) : OkM P w K mg base "Plain" "box" 1 ["self", "name"] (spG K 2 (y24)) :=
 bZ D q108 rfl fun f cdv A outer s H E hr => (aG (bp (kF hr (bH (aj (pvD 0 q101)) T.f_Plain_boxes) (ag (aw (pvD 1 y97))) (ag ae))))
abbrev y15 : Stmt := gB 8 2
def z95 : FnScope ["self", "atom"] ["self", "atom"] (ab y15) := ⟨rfl, rfl, rfl, by decide +kernel, rfl, by decide +kernel, by decide +kernel⟩
def z82 : aD (ab y15) ["self", "atom"] 0 "self" = true := by decide +kernel
def z49 : aD (ab y15) ["self", "atom"] 1 "atom" = true := by decide +kernel
def q57 : aT (ab y15) "isinstance" = true := by decide +kernel
def q77 : aT (ab y15) "str" = true := by decide +kernel
def z98 (T : Txt P w K mg) (D : DefM K "Plain" "worth" "Plain.worth" y15 ["self", "atom"]) (q40 : OkM P w K mg base "Plain" "box" 1 ["self", "name"] (spG K 2 (y24))) : OkM P w K mg base "Plain" "worth" 2 ["self", "atom"] (spG K 2 (z5)) :=
 bZ D z95 rfl fun f cdv A outer s H E hr => (aG (bp (uT (bL (iR (DO.toB (dM q57 q77 T.n_isinstance T.n_str qh T.k_str (ac (pvD 1 z49)))) (fun _ => rfl))) (bB q40 (hr.mono (by decide)) (aj (pvD 0 z82)) (ao (ag (aw (pvD 1 z49))) aO) (dY (y1 aV))) (ag (aw (pvD 1 z49))))))
abbrev z11 : Stmt := gB 8 5
def q52 : FnScope ["self", "number"] ["self"] (ab z11) := ⟨rfl, rfl, rfl, by decide +kernel, rfl, by decide +kernel, by decide +kernel⟩
def q27 : aD (ab z11) ["self", "number"] 0 "self" = true := by decide +kernel
def z35 : aD (ab z11) ["self", "number"] 1 "number" = true := by decide +kernel
def z66 : bA (ab z11) "number" = true := by decide +kernel
def z60 : aT (ab z11) "len" = true := by decide +kernel
def z72 (T : Txt P w K mg) (D : DefM K "Plain" "next_letter" "Plain.next_letter" z11 ["self"]) : OkM P w K mg base "Plain" "next_letter" 1 ["self"] (spG K 1 (z26)) :=
 bZ D q52 rfl fun f cdv A outer s H E hr => (ap (bq z35 z66 q52.nd (bH (aj (pvD 0 q27)) T.f_Plain_hears))
     (ap (oo (aj (pvD 0 q27)) T.f_Plain_hears (ag ae))
     (aG (bp (uT (mT iF iW (ag (aw (pvD 1 z35))) (ja z60 bN d7 T.n_len cN (ao (bH (aj (pvD 0 q27)) T.f_Plain_incoming) aO)) (aL _)) (bj hr (bH (aj (pvD 0 q27)) T.f_Plain_incoming) (ag (aw (pvD 1 z35)))) (ag ae))))))
abbrev y28 : Stmt := top 5
def z112 : FnScope ["sign", "one", "other"] ["sign", "one", "other"] (ab y28) := ⟨rfl, rfl, rfl, by decide +kernel, rfl, by decide +kernel, by decide +kernel⟩
def z27 : aD (ab y28) ["sign", "one", "other"] 0 "sign" = true := by decide +kernel
def q23 : aD (ab y28) ["sign", "one", "other"] 1 "one" = true := by decide +kernel
def z22 : aD (ab y28) ["sign", "one", "other"] 2 "other" = true := by decide +kernel
def y111 (T : Txt P w K mg) (D : DefF K mg "number_of" y28 ["sign", "one", "other"]) : OkF P w K mg base "number_of" 1 ["sign", "one", "other"] (spD K 3 z70) :=
 eO D z112 rfl fun f cdv A outer s H E hr => (aR (cB (aS (aU hr) bW (ac (pvD 0 z27)) (DL.toB aA) (aL _)) (bc (bg (ar bh b5 (ac (pvD 1 q23)) (ac (pvD 2 z22))))) bP)
     (aR (cB (aS (aU hr) bW (ac (pvD 0 z27)) (DL.toB aA) (aL _)) (bc (bg (ar ml qx (ac (pvD 1 q23)) (ac (pvD 2 z22))))) bP)
     (aR (cB (aS (aU hr) bW (ac (pvD 0 z27)) (DL.toB aA) (aL _)) (bc (bg (ar fT iV (ac (pvD 1 q23)) (ac (pvD 2 z22))))) bP)
     (aR (cB (aS (aU hr) bW (ac (pvD 0 z27)) (DL.toB aA) (aL _)) (bc (bg (uF (aS iF iW (ac (pvD 1 q23)) (ac (pvD 2 z22)) (aL _)) (DL.toO ae) (DL.toO ae)))) bP)
     (aR (cB (aS (aU hr) bW (ac (pvD 0 z27)) (DL.toB aA) (aL _)) (bc (bg (uF (aS (aU hr) bW (ac (pvD 1 q23)) (ac (pvD 2 z22)) (aL _)) (DL.toO ae) (DL.toO ae)))) bP)
     (aR (cB (aS (aU hr) bW (ac (pvD 0 z27)) (DL.toB aA) (aL _)) (bc (bg (ar vt mG (ac (pvD 1 q23)) (ac (pvD 2 z22))))) bP)
     (aR (cB (aS (aU hr) bW (ac (pvD 0 z27)) (DL.toB aA) (aL _)) (bc (bg (ar xr mG (ac (pvD 1 q23)) (ac (pvD 2 z22))))) bP)
     (bc (bg (ar vv mG (ac (pvD 1 q23)) (ac (pvD 2 z22))))))))))))
abbrev z39 : Stmt := top 6
def z118 : FnScope ["sign", "one", "other"] ["sign", "one", "other"] (ab z39) := ⟨rfl, rfl, rfl, by decide +kernel, rfl, by decide +kernel, by decide +kernel⟩
def z114 : aD (ab z39) ["sign", "one", "other"] 0 "sign" = true := by decide +kernel
def y115 : aD (ab z39) ["sign", "one", "other"] 1 "one" = true := by decide +kernel
def z115 : aD (ab z39) ["sign", "one", "other"] 2 "other" = true := by decide +kernel
def y81 : aT (ab z39) "number_of" = true := by decide +kernel
def q109 : aT (ab z39) "WIDE" = true := by decide +kernel
def z120 (T : Txt P w K mg) (D : DefF K mg "value" z39 ["sign", "one", "other"]) (y71 : OkF P w K mg base "number_of" 1 ["sign", "one", "other"] (spD K 3 (z70))) : OkF P w K mg base "value" 2 ["sign", "one", "other"] (spD K 3 wN) :=
 eO D z118 rfl fun f cdv A outer s H E hr => (bc (bg (ar aW bw (DO.toB (bf y81 y71 (hr.mono (by decide)) (ai (aw (pvD 0 z114)) (ai (aw (pvD 1 y115)) (ai (aw (pvD 2 z115)) aI))))) (DL.toB (sW q109 T.g_WIDE)))))
abbrev z13 : Stmt := gB 8 4
def q65 : FnScope ["self", "row", "places"] ["self", "row"] (ab z13) := ⟨rfl, rfl, rfl, by decide +kernel, rfl, by decide +kernel, by decide +kernel⟩
def z18 : aD (ab z13) ["self", "row", "places"] 0 "self" = true := by decide +kernel
def q13 : aD (ab z13) ["self", "row", "places"] 1 "row" = true := by decide +kernel
def z45 : aD (ab z13) ["self", "row", "places"] 2 "places" = true := by decide +kernel
def q80 : bA (ab z13) "places" = true := by decide +kernel
def z71 : aT (ab z13) "value" = true := by decide +kernel
def y73 : aT (ab z13) "len" = true := by decide +kernel
def z92 (T : Txt P w K mg) (D : DefM K "Plain" "set_by" "Plain.set_by" z13 ["self", "row"]) (z41 : OkM P w K mg base "Plain" "next_letter" 1 ["self"] (spG K 1 (z26))) (z8 : OkM P w K mg base "Plain" "worth" 2 ["self", "atom"] (spG K 2 (z5))) (y103 : OkF P w K mg base "value" 2 ["sign", "one", "other"] (spD K 3 (wN))) : OkM P w K mg base "Plain" "set_by" 3 ["self", "row"] (spG K 2 (q36)) :=
 bZ D q65 rfl fun f cdv A outer s H E hr => (ap (b6 (bL (aS (aU hr) bW (DO.toB (ak hr (ac (pvD 1 q13)) (DL.toB ae))) (DL.toB aA) (aL _))) (aG (bp (bB z8 (hr.mono (by decide)) (aj (pvD 0 z18)) (ao (ag (DO.toL (ak hr (ac (pvD 1 q13)) (DL.toB ae)))) aO) (dY (y1 aV))))) bQ)
     (ap (b6 (bL (aS (aU hr) bW (DO.toB (ak hr (ac (pvD 1 q13)) (DL.toB ae))) (DL.toB aA) (aL _))) (aG (bp (gy z71 y103 (hr.mono (by decide)) (ao (ag (DO.toL (ak hr (ac (pvD 1 q13)) (DL.toB ae)))) (ao (bB z8 (hr.mono (by decide)) (aj (pvD 0 z18)) (ao (ag (DO.toL (ak hr (ac (pvD 1 q13)) (DL.toB ae)))) aO) (dY (y1 aV))) (ao (bB z8 (hr.mono (by decide)) (aj (pvD 0 z18)) (ao (ag (DO.toL (ak hr (ac (pvD 1 q13)) (DL.toB ae)))) aO) (dY (y1 aV))) aO))) (y1 (y1 (y1 aV)))))) bQ)
     (ap (b6 (bL (aS (aU hr) bW (DO.toB (ak hr (ac (pvD 1 q13)) (DL.toB ae))) (DL.toB aA) (aL _))) (aG (bp (bj hr (bH (aj (pvD 0 z18)) T.f_Plain_cells) (ag (DO.toL (ak hr (ac (pvD 1 q13)) (DL.toB ae))))))) bQ)
     (ap (b6 (bL (aS (aU hr) bW (DO.toB (ak hr (ac (pvD 1 q13)) (DL.toB ae))) (DL.toB aA) (aL _))) (ap (bq z45 q80 q65.nd (bj hr (bH (aj (pvD 0 z18)) T.f_Plain_shelves) (ag (DO.toL (ak hr (ac (pvD 1 q13)) (DL.toB ae))))))
     (aG (bp (bj hr (aj (pvD 2 z45)) (gZ aW bw (bB z8 (hr.mono (by decide)) (aj (pvD 0 z18)) (ao (ag (DO.toL (ak hr (ac (pvD 1 q13)) (DL.toB ae)))) aO) (dY (y1 aV))) (ag (DO.toL (cc y73 bN d7 T.n_len cN (br (ac (pvD 2 z45)) bF))))))))) bQ)
     (aG (bp (dO z41 (hr.mono (by decide)) (aj (pvD 0 z18)))))))))
abbrev z14 : Stmt := gB 8 3
def y64 : FnScope ["self", "row", "places"] ["self", "row"] (ab z14) := ⟨rfl, rfl, rfl, by decide +kernel, rfl, by decide +kernel, by decide +kernel⟩
def y14 : aD (ab z14) ["self", "row", "places"] 0 "self" = true := by decide +kernel
def y9 : aD (ab z14) ["self", "row", "places"] 1 "row" = true := by decide +kernel
def y45 : aD (ab z14) ["self", "row", "places"] 2 "places" = true := by decide +kernel
def z78 : bA (ab z14) "places" = true := by decide +kernel
def z73 : aT (ab z14) "len" = true := by decide +kernel
def q90 (T : Txt P w K mg) (D : DefM K "Plain" "do_row" "Plain.do_row" z14 ["self", "row"]) (z8 : OkM P w K mg base "Plain" "worth" 2 ["self", "atom"] (spG K 2 (z5))) (y53 : OkM P w K mg base "Plain" "set_by" 3 ["self", "row"] (spG K 2 (q36))) : OkM P w K mg base "Plain" "do_row" 4 ["self", "row"] (spG K 2 (z20)) :=
 bZ D y64 rfl fun f cdv A outer s H E hr => (aG (b6 (bL (aS (aU hr) bW (DO.toB (ak hr (ac (pvD 1 y9)) (DL.toB ae))) (DL.toB aA) (aL _))) (aG (dX hr (bH (aj (pvD 0 y14)) T.f_Plain_cells) (ag (DO.toL (ak hr (ac (pvD 1 y9)) (DL.toB ae)))) (bB z8 (hr.mono (by decide)) (aj (pvD 0 y14)) (ao (ag (DO.toL (ak hr (ac (pvD 1 y9)) (DL.toB ae)))) aO) (dY (y1 aV))))) (aG (b6 (bL (aS (aU hr) bW (DO.toB (ak hr (ac (pvD 1 y9)) (DL.toB ae))) (DL.toB aA) (aL _))) (ap (bq y45 z78 y64.nd (bj hr (bH (aj (pvD 0 y14)) T.f_Plain_shelves) (ag (DO.toL (ak hr (ac (pvD 1 y9)) (DL.toB ae))))))
     (aG (dX hr (aj (pvD 2 y45)) (gZ aW bw (bB z8 (hr.mono (by decide)) (aj (pvD 0 y14)) (ao (ag (DO.toL (ak hr (ac (pvD 1 y9)) (DL.toB ae)))) aO) (dY (y1 aV))) (ag (DO.toL (cc z73 bN d7 T.n_len cN (br (ac (pvD 2 y45)) bF))))) (bB z8 (hr.mono (by decide)) (aj (pvD 0 y14)) (ao (ag (DO.toL (ak hr (ac (pvD 1 y9)) (DL.toB ae)))) aO) (dY (y1 aV)))))) (aG (b6 (bL (aS (aU hr) bW (DO.toB (ak hr (ac (pvD 1 y9)) (DL.toB ae))) (DL.toB aA) (aL _))) (aG (jR (bH (aj (pvD 0 y14)) T.f_Plain_outgoing) (bB z8 (hr.mono (by decide)) (aj (pvD 0 y14)) (ao (ag (DO.toL (ak hr (ac (pvD 1 y9)) (DL.toB ae)))) aO) (dY (y1 aV))))) (aG (b6 (bL (DW.t (v8 (aS (mH hr) we (DO.toB (ak hr (ac (pvD 1 y9)) (DL.toB ae))) (DL.toB aA) (aL _)) (sL (aS (mH hr) we (DO.toB (ak hr (ac (pvD 1 y9)) (DL.toB ae))) (DL.toB aA) (aL _)))))) (aG (dX hr (bH (aj (pvD 0 y14)) T.f_Plain_boxes) (ag (DO.toL (ak hr (ac (pvD 1 y9)) (DL.toB ae)))) (bB y53 (hr.mono (by decide)) (aj (pvD 0 y14)) (ao (ag (aw (pvD 1 y9))) aO) (dY (y1 aV))))) bQ))))))))
abbrev z9 : Stmt := gB 8 6
def y49 : FnScope ["self", "row", "onward"] ["self", "row"] (ab z9) := ⟨rfl, rfl, rfl, by decide +kernel, rfl, by decide +kernel, by decide +kernel⟩
def q33 : aD (ab z9) ["self", "row", "onward"] 0 "self" = true := by decide +kernel
def q45 : aD (ab z9) ["self", "row", "onward"] 1 "row" = true := by decide +kernel
def z34 : aD (ab z9) ["self", "row", "onward"] 2 "onward" = true := by decide +kernel
def z64 : bA (ab z9) "onward" = true := by decide +kernel
def y70 (T : Txt P w K mg) (D : DefM K "Plain" "place_behind" "Plain.place_behind" z9 ["self", "row"]) (z8 : OkM P w K mg base "Plain" "worth" 2 ["self", "atom"] (spG K 2 (z5))) : OkM P w K mg base "Plain" "place_behind" 3 ["self", "row"] (spG K 2 (q22)) :=
 bZ D y49 rfl fun f cdv A outer s H E hr => (ap (bq z34 z64 y49.nd (bj hr (bH (aj (pvD 0 q33)) T.f_Plain_onward) (bH (aj (pvD 0 q33)) T.f_Plain_place)))
     (ap (b6 (GW.t (wK (bL (aS (aU hr) bW (DO.toB (ak hr (ac (pvD 1 q45)) (DL.toB ae))) (DL.toB aA) (aL _))) (tJ (mT (aU hr) bW (bB z8 (hr.mono (by decide)) (aj (pvD 0 q33)) (ao (ag (DO.toL (ak hr (ac (pvD 1 q45)) (DL.toB ae)))) aO) (dY (y1 aV))) (ag ae) (aL _))))) (aG (bp (ag (DO.toL (ak hr (ac (pvD 2 z34)) (DL.toB ae)))))) bQ)
     (aG (bp (ag (DO.toL (ak hr (ac (pvD 2 z34)) (DL.toB ae))))))))
abbrev y18 : Stmt := gB 8 1
def q73 : FnScope ["self", "row"] ["self"] (ab y18) := ⟨rfl, rfl, rfl, by decide +kernel, rfl, by decide +kernel, by decide +kernel⟩
def z16 : aD (ab y18) ["self", "row"] 0 "self" = true := by decide +kernel
def z33 : aD (ab y18) ["self", "row"] 1 "row" = true := by decide +kernel
def q85 : bA (ab y18) "row" = true := by decide +kernel
def z104 (T : Txt P w K mg) (D : DefM K "Plain" "step" "Plain.step" y18 ["self"]) (q56 : OkM P w K mg base "Plain" "ended" 1 ["self"] (spG K 1 (y31))) (z8 : OkM P w K mg base "Plain" "worth" 2 ["self", "atom"] (spG K 2 (z5))) (z52 : OkM P w K mg base "Plain" "do_row" 4 ["self", "row"] (spG K 2 (z20))) (q39 : OkM P w K mg base "Plain" "place_behind" 3 ["self", "row"] (spG K 2 (q22))) : OkM P w K mg base "Plain" "step" 5 ["self"] (spG K 1 (z42)) :=
 bZ D q73 rfl fun f cdv A outer s H E hr => (ap (b6 (gx (dO q56 (hr.mono (by decide)) (aj (pvD 0 z16))) (fun _ => rfl)) (aG ku) bQ)
     (ap (bq z33 q85 q73.nd (bj hr (bH (aj (pvD 0 z16)) T.f_Plain_rows) (bH (aj (pvD 0 z16)) T.f_Plain_place)))
     (ap (oo (aj (pvD 0 z16)) T.f_Plain_done (ag ae))
     (aG (b6 (bL (aS (aU hr) bW (DO.toB (ak hr (ac (pvD 1 z33)) (DL.toB ae))) (DL.toB aA) (aL _))) (aG (bY (aj (pvD 0 z16)) T.f_Plain_result (bB z8 (hr.mono (by decide)) (aj (pvD 0 z16)) (ao (ag (DO.toL (ak hr (ac (pvD 1 z33)) (DL.toB ae)))) aO) (dY (y1 aV))))) (ap (ko (bB z52 (hr.mono (by decide)) (aj (pvD 0 z16)) (ao (ag (aw (pvD 1 z33))) aO) (dY (y1 aV))))
     (aG (bY (aj (pvD 0 z16)) T.f_Plain_place (bB q39 (hr.mono (by decide)) (aj (pvD 0 z16)) (ao (ag (aw (pvD 1 z33))) aO) (dY (y1 aV)))))))))))
abbrev q21 : Stmt := top 16
def z109 : FnScope ["_law_atom_here", "_law_now"] ["_law_atom_here", "_law_now"] (ab q21) := ⟨rfl, rfl, rfl, by decide +kernel, rfl, by decide +kernel, by decide +kernel⟩
def y54 : aD (ab q21) ["_law_atom_here", "_law_now"] 0 "_law_atom_here" = true := by decide +kernel
def q99 : aD (ab q21) ["_law_atom_here", "_law_now"] 1 "_law_now" = true := by decide +kernel
def y63 : aT (ab q21) "isinstance" = true := by decide +kernel
def q84 : aT (ab q21) "str" = true := by decide +kernel
def y108 (T : Txt P w K mg) (D : DefF K mg "_law_worth" q21 ["_law_atom_here", "_law_now"]) : OkF P w K mg base "_law_worth" 1 ["_law_atom_here", "_law_now"] (spG K 2 (y20)) :=
 iz D z109 rfl fun f cdv A outer s H E hr => (ap (b6 (bL (iR (DO.toB (dM y63 q84 T.n_isinstance T.n_str qh T.k_str (ac (pvD 0 y54)))) (fun _ => rfl))) (aG (bp (kF hr (bj hr (aj (pvD 1 q99)) (ag aA)) (ag (aw (pvD 0 y54))) (ag ae)))) bQ)
     (aG (bp (ag (aw (pvD 0 y54))))))
abbrev q15 : Stmt := top 17
def y33 : FnScope ["_law_row_here", "_law_now", "_law_places", "_law_found"] ["_law_row_here", "_law_now"] (ab q15) := ⟨rfl, rfl, rfl, by decide +kernel, rfl, by decide +kernel, by decide +kernel⟩
def y11 : aD (ab q15) ["_law_row_here", "_law_now", "_law_places", "_law_found"] 0 "_law_row_here" = true := by decide +kernel
def q12 : aD (ab q15) ["_law_row_here", "_law_now", "_law_places", "_law_found"] 1 "_law_now" = true := by decide +kernel
def y32 : aD (ab q15) ["_law_row_here", "_law_now", "_law_places", "_law_found"] 2 "_law_places" = true := by decide +kernel
def q72 : bA (ab q15) "_law_places" = true := by decide +kernel
def y40 : aD (ab q15) ["_law_row_here", "_law_now", "_law_places", "_law_found"] 3 "_law_found" = true := by decide +kernel
def y47 : bA (ab q15) "_law_found" = true := by decide +kernel
def y19 : aT (ab q15) "_law_worth" = true := by decide +kernel
def z51 : aT (ab q15) "len" = true := by decide +kernel
def q87 : aT (ab q15) "min" = true := by decide +kernel
def z111 (T : Txt P w K mg) (D : DefF K mg "_law_done" q15 ["_law_row_here", "_law_now"]) (y34 : OkF P w K mg base "_law_worth" 1 ["_law_atom_here", "_law_now"] (spG K 2 (y20))) : OkF P w K mg base "_law_done" 2 ["_law_row_here", "_law_now"] (spG K 2 (q50)) :=
 iz D y33 rfl fun f cdv A outer s H E hr => (ap (b6 (bL (aS (aU hr) bW (DO.toB (ak hr (ac (pvD 0 y11)) (DL.toB ae))) (DL.toB aA) (aL _))) (ap (dX hr (bj hr (aj (pvD 1 q12)) (ag aA)) (ag (DO.toL (ak hr (ac (pvD 0 y11)) (DL.toB ae)))) (cr y19 y34 (hr.mono (by decide)) (ao (ag (DO.toL (ak hr (ac (pvD 0 y11)) (DL.toB ae)))) (ao (aj (pvD 1 q12)) aO)) (y1 (y1 aV))))
     (aG ku)) bQ)
     (ap (b6 (bL (aS (aU hr) bW (DO.toB (ak hr (ac (pvD 0 y11)) (DL.toB ae))) (DL.toB aA) (aL _))) (ap (bq y32 q72 y33.nd (bj hr (bj hr (aj (pvD 1 q12)) (ag aA)) (ag (DO.toL (ak hr (ac (pvD 0 y11)) (DL.toB ae))))))
     (ap (dX hr (aj (pvD 2 y32)) (gZ aW bw (cr y19 y34 (hr.mono (by decide)) (ao (ag (DO.toL (ak hr (ac (pvD 0 y11)) (DL.toB ae)))) (ao (aj (pvD 1 q12)) aO)) (y1 (y1 aV))) (ag (DO.toL (cc z51 bN d7 T.n_len cN (br (ac (pvD 2 y32)) bF))))) (cr y19 y34 (hr.mono (by decide)) (ao (ag (DO.toL (ak hr (ac (pvD 0 y11)) (DL.toB ae)))) (ao (aj (pvD 1 q12)) aO)) (y1 (y1 aV))))
     (aG ku))) bQ)
     (ap (bq y40 y47 y33.nd (cr y19 y34 (hr.mono (by decide)) (ao (ag (DO.toL (ak hr (ac (pvD 0 y11)) (DO.toB (mI (DL.toB ae)))))) (ao (aj (pvD 1 q12)) aO)) (y1 (y1 aV))))
     (ap (b6 (bL (aS (aU hr) bW (DO.toB (ak hr (ac (pvD 0 y11)) (DL.toB ae))) (DL.toB aA) (aL _))) (aG (bq y40 y47 y33.nd (bj hr (bj hr (aj (pvD 1 q12)) (ag aA)) (ag (DO.toL (ak hr (ac (pvD 0 y11)) (DL.toB ae))))))) bQ)
     (ap (b6 (bL (aS (aU hr) bW (DO.toB (ak hr (ac (pvD 0 y11)) (DL.toB ae))) (DL.toB aA) (aL _))) (ap (bq y32 q72 y33.nd (bj hr (bj hr (aj (pvD 1 q12)) (ag aA)) (ag (DO.toL (ak hr (ac (pvD 0 y11)) (DL.toB ae))))))
     (aG (bq y40 y47 y33.nd (bj hr (aj (pvD 2 y32)) (gZ aW bw (cr y19 y34 (hr.mono (by decide)) (ao (ag (DO.toL (ak hr (ac (pvD 0 y11)) (DL.toB ae)))) (ao (aj (pvD 1 q12)) aO)) (y1 (y1 aV))) (ag (DO.toL (cc z51 bN d7 T.n_len cN (br (ac (pvD 2 y32)) bF))))))))) bQ)
     (ap (b6 (bL (aS (aU hr) bW (DO.toB (ak hr (ac (pvD 0 y11)) (DL.toB ae))) (DL.toB aA) (aL _))) (ap (bq y40 y47 y33.nd (bj hr (gZ bh b5 (bj hr (aj (pvD 1 q12)) (ag aA)) (ag (DO.toL (eJ (ai ae aI))))) (ja q87 (pz rfl) xS T.n_min vU (ao (bj hr (aj (pvD 1 q12)) (ag aA)) (ao (ja z51 bN d7 T.n_len cN (ao (bj hr (aj (pvD 1 q12)) (ag aA)) aO)) aO)))))
     (aG (dX hr (aj (pvD 1 q12)) (ag aA) (gZ bh b5 (bj hr (aj (pvD 1 q12)) (ag aA)) (ag ae))))) bQ)
     (aG (dX hr (bj hr (aj (pvD 1 q12)) (ag aA)) (ag (DO.toL (ak hr (ac (pvD 0 y11)) (DL.toB ae)))) (ag (aw (pvD 3 y40)))))))))))
abbrev z17 : Stmt := gB 8 12
def y93 : FnScope ["self", "name"] ["self", "name"] (ab z17) := ⟨rfl, rfl, rfl, by decide +kernel, rfl, by decide +kernel, by decide +kernel⟩
def y82 : aD (ab z17) ["self", "name"] 0 "self" = true := by decide +kernel
def q82 : aD (ab z17) ["self", "name"] 1 "name" = true := by decide +kernel
def q75 : aT (ab z17) "list" = true := by decide +kernel
def y95 (T : Txt P w K mg) (D : DefM K "Plain" "shelf" "Plain.shelf" z17 ["self", "name"]) : OkM P w K mg base "Plain" "shelf" 1 ["self", "name"] (spG K 2 (y39)) :=
 bZ D y93 rfl fun f cdv A outer s H E hr => (aG (bp (jb q75 cm iX T.n_list fH (ao (bj hr (bH (aj (pvD 0 y82)) T.f_Plain_shelves) (ag (aw (pvD 1 q82)))) aO))))
abbrev q18 : Stmt := top 19
def z108 : FnScope ["_law_found", "_law_due"] ["_law_found", "_law_due"] (ab q18) := ⟨rfl, rfl, rfl, by decide +kernel, rfl, by decide +kernel, by decide +kernel⟩
def q53 : aD (ab q18) ["_law_found", "_law_due"] 0 "_law_found" = true := by decide +kernel
def q98 : aD (ab q18) ["_law_found", "_law_due"] 1 "_law_due" = true := by decide +kernel
def z46 : aT (ab q18) "isinstance" = true := by decide +kernel
def q79 : aT (ab q18) "bool" = true := by decide +kernel
def q83 : aT (ab q18) "int" = true := by decide +kernel
def y109 (T : Txt P w K mg) (D : DefF K mg "_law_whole" q18 ["_law_found", "_law_due"]) : OkF P w K mg base "_law_whole" 1 ["_law_found", "_law_due"] (spD K 2 z24) :=
 eO D z108 rfl fun f cdv A outer s H E hr => (bc (bg (qt (DO.toB (dM z46 q83 T.n_isinstance T.n_int vV T.k_int (ac (pvD 0 q53)))) (qt (DO.toB (wa (DO.toB (dM z46 q79 T.n_isinstance T.n_bool sG T.k_bool (ac (pvD 0 q53)))))) (wb (mB (aU hr) bW (ac (pvD 0 q53)) (ac (pvD 1 q98)) (aL _)))))))
abbrev z21 : Stmt := gB 8 13
def z103 : FnScope ["self"] ["self"] (ab z21) := ⟨rfl, rfl, rfl, by decide +kernel, rfl, by decide +kernel, by decide +kernel⟩
def q86 : aD (ab z21) ["self"] 0 "self" = true := by decide +kernel
def z76 : aT (ab z21) "list" = true := by decide +kernel
def q104 (T : Txt P w K mg) (D : DefM K "Plain" "sent" "Plain.sent" z21 ["self"]) : OkM P w K mg base "Plain" "sent" 1 ["self"] (spG K 1 (y35)) :=
 bZ D z103 rfl fun f cdv A outer s H E hr => (aG (bp (jb z76 cm iX T.n_list fH (ao (bH (aj (pvD 0 q86)) T.f_Plain_outgoing) aO))))
abbrev y23 : Stmt := gB 8 14
def z100 : FnScope ["self"] ["self"] (ab y23) := ⟨rfl, rfl, rfl, by decide +kernel, rfl, by decide +kernel, by decide +kernel⟩
def y83 : aD (ab y23) ["self"] 0 "self" = true := by decide +kernel
def q93 (T : Txt P w K mg) (D : DefM K "Plain" "heard" "Plain.heard" y23 ["self"]) : OkM P w K mg base "Plain" "heard" 1 ["self"] (spG K 1 (q32)) :=
 bZ D z100 rfl fun f cdv A outer s H E hr => (aG (bp (bH (aj (pvD 0 y83)) T.f_Plain_hears)))
abbrev y21 : Stmt := gB 8 11
def z102 : FnScope ["self", "name"] ["self", "name"] (ab y21) := ⟨rfl, rfl, rfl, by decide +kernel, rfl, by decide +kernel, by decide +kernel⟩
def z89 : aD (ab y21) ["self", "name"] 0 "self" = true := by decide +kernel
def z88 : aD (ab y21) ["self", "name"] 1 "name" = true := by decide +kernel
def y104 (T : Txt P w K mg) (D : DefM K "Plain" "cell" "Plain.cell" y21 ["self", "name"]) : OkM P w K mg base "Plain" "cell" 1 ["self", "name"] (spG K 2 (z30)) :=
 bZ D z102 rfl fun f cdv A outer s H E hr => (aG (bp (bj hr (bH (aj (pvD 0 z89)) T.f_Plain_cells) (ag (aw (pvD 1 z88))))))
abbrev z12 : Stmt := top 20
def y38 : FnScope ["_law_run", "_law_now", "_law_boxes", "_law_name", "_law_found"] ["_law_run", "_law_now", "_law_boxes"] (ab z12) := ⟨rfl, rfl, rfl, by decide +kernel, rfl, by decide +kernel, by decide +kernel⟩
def q34 : aD (ab z12) ["_law_run", "_law_now", "_law_boxes", "_law_name", "_law_found"] 0 "_law_run" = true := by decide +kernel
def q28 : aD (ab z12) ["_law_run", "_law_now", "_law_boxes", "_law_name", "_law_found"] 1 "_law_now" = true := by decide +kernel
def y91 : aD (ab z12) ["_law_run", "_law_now", "_law_boxes", "_law_name", "_law_found"] 2 "_law_boxes" = true := by decide +kernel
def y16 : aD (ab z12) ["_law_run", "_law_now", "_law_boxes", "_law_name", "_law_found"] 3 "_law_name" = true := by decide +kernel
def q51 : bA (ab z12) "_law_name" = true := by decide +kernel
def y41 : aD (ab z12) ["_law_run", "_law_now", "_law_boxes", "_law_name", "_law_found"] 4 "_law_found" = true := by decide +kernel
def y88 : bA (ab z12) "_law_found" = true := by decide +kernel
def y30 : aT (ab z12) "_law_whole" = true := by decide +kernel
def q60 : aT (ab z12) "isinstance" = true := by decide +kernel
def z77 : aT (ab z12) "list" = true := by decide +kernel
def y102 (T : Txt P w K mg) (D : DefF K mg "_law_stands" z12 ["_law_run", "_law_now", "_law_boxes"]) (z56 : OkM P w K mg base "Plain" "shelf" 1 ["self", "name"] (spG K 2 (y39))) (z47 : OkF P w K mg base "_law_whole" 1 ["_law_found", "_law_due"] (spD K 2 (z24))) (y58 : OkM P w K mg base "Plain" "sent" 1 ["self"] (spG K 1 (y35))) (z55 : OkM P w K mg base "Plain" "heard" 1 ["self"] (spG K 1 (q32))) (z58 : OkM P w K mg base "Plain" "cell" 1 ["self", "name"] (spG K 2 (z30))) (q40 : OkM P w K mg base "Plain" "box" 1 ["self", "name"] (spG K 2 (y24))) : OkF P w K mg base "_law_stands" 2 ["_law_run", "_law_now", "_law_boxes"] (spG K 3 (q17)) :=
 iz D y38 rfl fun f cdv A outer s H E hr => (ap (oq PassesOwn.never rfl (bj hr (aj (pvD 1 q28)) (ag aA)) (bi (bT y16 q51 y38.nd)) (aG (b6 (mV (gx (gy y30 z47 (hr.mono (by decide)) (ao (bB z58 (hr.mono (by decide)) (aj (pvD 0 q34)) (ao (ag (aw (pvD 3 y16))) aO) (dY (y1 aV))) (ao (bj hr (bj hr (aj (pvD 1 q28)) (ag aA)) (ag (aw (pvD 3 y16)))) aO)) (y1 (y1 aV))) (fun _ => rfl))) (aG (bp (ag nP))) bQ)))
     (ap (oq PassesOwn.never rfl (bj hr (aj (pvD 1 q28)) (ag aA)) (bi (bT y16 q51 y38.nd)) (ap (bq y41 y88 y38.nd (bB z56 (hr.mono (by decide)) (aj (pvD 0 q34)) (ao (ag (aw (pvD 3 y16))) aO) (dY (y1 aV))))
     (ap (b6 (GW.t (xP (bL (v7 (iR (DO.toB (dM q60 z77 T.n_isinstance T.n_list fH T.k_list (ac (pvD 4 y41)))) (fun _ => rfl)))) (wJ (mT (mH hr) we (aj (pvD 4 y41)) (bj hr (bj hr (aj (pvD 1 q28)) (ag aA)) (ag (aw (pvD 3 y16)))) (aL _))))) (aG (bp (ag nP))) bQ)
     (aG (jR (aj (pvD 4 y41)) (ag ae))))))
     (ap (kx PassesOwn.never rfl (iT (aw (pvD 2 y91))) (bi (bT y16 q51 y38.nd)) (aG (b6 (mV (gx (gy y30 z47 (hr.mono (by decide)) (ao (bB q40 (hr.mono (by decide)) (aj (pvD 0 q34)) (ao (ag (aw (pvD 3 y16))) aO) (dY (y1 aV))) (ao (kF hr (bj hr (aj (pvD 1 q28)) (ag aA)) (ag (aw (pvD 3 y16))) (ag ae)) aO)) (y1 (y1 aV))) (fun _ => rfl))) (aG (bp (ag nP))) bQ)))
     (aG (bp (mW (mX (aU hr) bW (dO y58 (hr.mono (by decide)) (aj (pvD 0 q34))) (ag (DO.toL (eJ aI))) (aL _)) (qW (gy y30 z47 (hr.mono (by decide)) (ao (dO z55 (hr.mono (by decide)) (aj (pvD 0 q34))) (ao (bj hr (aj (pvD 1 q28)) (ag aA)) aO)) (y1 (y1 aV))))))))))
abbrev q20 : Stmt := gB 8 7
def z91 : FnScope ["self"] ["self"] (ab q20) := ⟨rfl, rfl, rfl, by decide +kernel, rfl, by decide +kernel, by decide +kernel⟩
def y78 : aD (ab q20) ["self"] 0 "self" = true := by decide +kernel
def y86 (T : Txt P w K mg) (D : DefM K "Plain" "stands" "Plain.stands" q20 ["self"]) : OkM P w K mg base "Plain" "stands" 1 ["self"] (spG K 1 (q26)) :=
 bZ D z91 rfl fun f cdv A outer s H E hr => (aG (bp (bH (aj (pvD 0 y78)) T.f_Plain_place)))
abbrev aC : Stmt := top 21
def sc_law : FnScope ["_law_script", "_law_names_here", "_law_xs", "_law_cells", "_law_shelves", "_law_boxes", "_law_letters", "_law_rows", "_law_program", "_law_handed", "_law_run", "_law_beside", "_law_now", "_law_row_here", "_law_fresh"] ["_law_script"] (ab aC) := ⟨rfl, rfl, rfl, by decide +kernel, rfl, by decide +kernel, by decide +kernel⟩
def z74 : aD (ab aC) ["_law_script", "_law_names_here", "_law_xs", "_law_cells", "_law_shelves", "_law_boxes", "_law_letters", "_law_rows", "_law_program", "_law_handed", "_law_run", "_law_beside", "_law_now", "_law_row_here", "_law_fresh"] 0 "_law_script" = true := by decide +kernel
def q89 : aD (ab aC) ["_law_script", "_law_names_here", "_law_xs", "_law_cells", "_law_shelves", "_law_boxes", "_law_letters", "_law_rows", "_law_program", "_law_handed", "_law_run", "_law_beside", "_law_now", "_law_row_here", "_law_fresh"] 1 "_law_names_here" = true := by decide +kernel
def y119 : bA (ab aC) "_law_names_here" = true := by decide +kernel
def q62 : aD (ab aC) ["_law_script", "_law_names_here", "_law_xs", "_law_cells", "_law_shelves", "_law_boxes", "_law_letters", "_law_rows", "_law_program", "_law_handed", "_law_run", "_law_beside", "_law_now", "_law_row_here", "_law_fresh"] 2 "_law_xs" = true := by decide +kernel
def q121 : bA (ab aC) "_law_xs" = true := by decide +kernel
def y65 : aD (ab aC) ["_law_script", "_law_names_here", "_law_xs", "_law_cells", "_law_shelves", "_law_boxes", "_law_letters", "_law_rows", "_law_program", "_law_handed", "_law_run", "_law_beside", "_law_now", "_law_row_here", "_law_fresh"] 3 "_law_cells" = true := by decide +kernel
def q119 : bA (ab aC) "_law_cells" = true := by decide +kernel
def q66 : aD (ab aC) ["_law_script", "_law_names_here", "_law_xs", "_law_cells", "_law_shelves", "_law_boxes", "_law_letters", "_law_rows", "_law_program", "_law_handed", "_law_run", "_law_beside", "_law_now", "_law_row_here", "_law_fresh"] 4 "_law_shelves" = true := by decide +kernel
def y118 : bA (ab aC) "_law_shelves" = true := by decide +kernel
def z62 : aD (ab aC) ["_law_script", "_law_names_here", "_law_xs", "_law_cells", "_law_shelves", "_law_boxes", "_law_letters", "_law_rows", "_law_program", "_law_handed", "_law_run", "_law_beside", "_law_now", "_law_row_here", "_law_fresh"] 5 "_law_boxes" = true := by decide +kernel
def q112 : bA (ab aC) "_law_boxes" = true := by decide +kernel
def y62 : aD (ab aC) ["_law_script", "_law_names_here", "_law_xs", "_law_cells", "_law_shelves", "_law_boxes", "_law_letters", "_law_rows", "_law_program", "_law_handed", "_law_run", "_law_beside", "_law_now", "_law_row_here", "_law_fresh"] 6 "_law_letters" = true := by decide +kernel
def q120 : bA (ab aC) "_law_letters" = true := by decide +kernel
def z86 : aD (ab aC) ["_law_script", "_law_names_here", "_law_xs", "_law_cells", "_law_shelves", "_law_boxes", "_law_letters", "_law_rows", "_law_program", "_law_handed", "_law_run", "_law_beside", "_law_now", "_law_row_here", "_law_fresh"] 7 "_law_rows" = true := by decide +kernel
def y120 : bA (ab aC) "_law_rows" = true := by decide +kernel
def y85 : aD (ab aC) ["_law_script", "_law_names_here", "_law_xs", "_law_cells", "_law_shelves", "_law_boxes", "_law_letters", "_law_rows", "_law_program", "_law_handed", "_law_run", "_law_beside", "_law_now", "_law_row_here", "_law_fresh"] 8 "_law_program" = true := by decide +kernel
def q118 : bA (ab aC) "_law_program" = true := by decide +kernel
def y90 : aD (ab aC) ["_law_script", "_law_names_here", "_law_xs", "_law_cells", "_law_shelves", "_law_boxes", "_law_letters", "_law_rows", "_law_program", "_law_handed", "_law_run", "_law_beside", "_law_now", "_law_row_here", "_law_fresh"] 9 "_law_handed" = true := by decide +kernel
def z119 : bA (ab aC) "_law_handed" = true := by decide +kernel
def q70 : aD (ab aC) ["_law_script", "_law_names_here", "_law_xs", "_law_cells", "_law_shelves", "_law_boxes", "_law_letters", "_law_rows", "_law_program", "_law_handed", "_law_run", "_law_beside", "_law_now", "_law_row_here", "_law_fresh"] 10 "_law_run" = true := by decide +kernel
def q116 : bA (ab aC) "_law_run" = true := by decide +kernel
def z81 : aD (ab aC) ["_law_script", "_law_names_here", "_law_xs", "_law_cells", "_law_shelves", "_law_boxes", "_law_letters", "_law_rows", "_law_program", "_law_handed", "_law_run", "_law_beside", "_law_now", "_law_row_here", "_law_fresh"] 11 "_law_beside" = true := by decide +kernel
def z116 : bA (ab aC) "_law_beside" = true := by decide +kernel
def q69 : aD (ab aC) ["_law_script", "_law_names_here", "_law_xs", "_law_cells", "_law_shelves", "_law_boxes", "_law_letters", "_law_rows", "_law_program", "_law_handed", "_law_run", "_law_beside", "_law_now", "_law_row_here", "_law_fresh"] 12 "_law_now" = true := by decide +kernel
def z117 : bA (ab aC) "_law_now" = true := by decide +kernel
def q106 : aD (ab aC) ["_law_script", "_law_names_here", "_law_xs", "_law_cells", "_law_shelves", "_law_boxes", "_law_letters", "_law_rows", "_law_program", "_law_handed", "_law_run", "_law_beside", "_law_now", "_law_row_here", "_law_fresh"] 13 "_law_row_here" = true := by decide +kernel
def y117 : bA (ab aC) "_law_row_here" = true := by decide +kernel
def y105 : aD (ab aC) ["_law_script", "_law_names_here", "_law_xs", "_law_cells", "_law_shelves", "_law_boxes", "_law_letters", "_law_rows", "_law_program", "_law_handed", "_law_run", "_law_beside", "_law_now", "_law_row_here", "_law_fresh"] 14 "_law_fresh" = true := by decide +kernel
def y116 : bA (ab aC) "_law_fresh" = true := by decide +kernel
def y43 : aT (ab aC) "_law_cell_at" = true := by decide +kernel
def z83 : aT (ab aC) "_law_names" = true := by decide +kernel
def y56 : aT (ab aC) "_law_stream" = true := by decide +kernel
def y77 : aT (ab aC) "range" = true := by decide +kernel
def z63 : aT (ab aC) "tuple" = true := by decide +kernel
def z113 : aT (ab aC) "list" = true := by decide +kernel
def z79 : aT (ab aC) "Plain" = true := by decide +kernel
def q59 : aT (ab aC) "_law_begun" = true := by decide +kernel
def y46 : aT (ab aC) "_law_stands" = true := by decide +kernel
def z87 : aT (ab aC) "_law_done" = true := by decide +kernel
def wP {f : Addr} {fd : FuncData} (T : Txt P w K mg) (D : Fun K "law" "law" aC f fd) (q64 : OkF P w K mg base "_law_names" 1 ["_law_cell", "_law_many"] (spD K 2 (q38))) (y29 : OkF P w K mg base "_law_stream" 1 ["_law_cell", "_law_many"] (spD K 2 (q19))) (y37 : OkI P w K mg base "Plain" 3 ["self", "program", "letters"] (spG K 3 (y17))) (z53 : OkF P w K mg base "_law_begun" 1 ["_law_cells", "_law_shelves", "_law_letters"] (spG K 3 (q29))) (z38 : OkF P w K mg base "_law_cell_at" 1 ["_law_script", "_law_k"] (spD K 2 (q14))) (q25 : OkF P w K mg base "_law_value_by" 1 ["_law_number"] (spD K 1 (q16))) (y75 : OkF P w K mg base "_law_row" 3 ["_law_cell", "_law_boxes", "_law_cells", "_law_shelves"] (spD K 4 (y48))) (z57 : OkM P w K mg base "Plain" "step" 5 ["self"] (spG K 1 (z42))) (q71 : OkF P w K mg base "_law_done" 2 ["_law_row_here", "_law_now"] (spG K 2 (q50))) (q42 : OkF P w K mg base "_law_stands" 2 ["_law_run", "_law_now", "_law_boxes"] (spG K 3 (q17))) (y52 : OkM P w K mg base "Plain" "stands" 1 ["self"] (spG K 1 (q26))) : FnOk P w K mg base CX0 6 f fd ["_law_script"] (spG K 1 oz) :=
 ky D sc_law rfl fun cdv A outer s H E hr => (ap (bq q89 y119 sc_law.nd (ag (DO.toL (bf z83 q64 (hr.mono (by decide)) (ai (DO.toL (bf y43 z38 (hr.mono (by decide)) (ai (aw (pvD 0 z74)) (ai ae aI)))) (ai ae aI))))))
     (ap (bq q62 q121 sc_law.nd (ag (DO.toL (bf y56 y29 (hr.mono (by decide)) (ai (DO.toL (bf y43 z38 (hr.mono (by decide)) (ai (aw (pvD 0 z74)) (ai ae aI)))) (ai ae aI))))))
     (ap (bq y65 q119 sc_law.nd (ag (DO.toL (fI (M := ["_law_k", "_law_names_here", "_law_xs"]) (src := [none, some 1, some 2]) (ts := [0]) (CmpScope.of (N := ["_law_script", "_law_names_here", "_law_xs", "_law_cells", "_law_shelves", "_law_boxes", "_law_letters", "_law_rows", "_law_program", "_law_handed", "_law_run", "_law_beside", "_law_now", "_law_row_here", "_law_fresh"]) (outer := ab aC) (by decide +kernel)) rfl (DIF.toB (dH y77 T.n_range (ai (DO.toL (ar bh b5 (DL.toB ae) (DO.toB (ar aW bw (DO.toB (ak hr (ac (pvD 2 q62)) (DL.toB ae))) (DL.toB ae))))) aI))) (fun nd _ _ _ _ => (bi (ca (N := ["_law_k", "_law_names_here", "_law_xs"]) (i := 0) (by decide +kernel) (by decide +kernel) nd (scC (outer := ab aC) (by exact rfl))))) (fun _ _ _ _ => cT) (fun _ _ _ _ => (DO.toL (b7 (ai (DO.toL (ak hr (ac (pvD (N := ["_law_k", "_law_names_here", "_law_xs"]) 1 (by decide +kernel) (scC (outer := ab aC) rfl))) (ac (pvD (N := ["_law_k", "_law_names_here", "_law_xs"]) 0 (by decide +kernel) (scC (outer := ab aC) rfl))))) (ai (DO.toL (bf (by decide +kernel) q25 (hr.mono (by decide)) (ai (DO.toL (ak hr (ac (pvD (N := ["_law_k", "_law_names_here", "_law_xs"]) 2 (by decide +kernel) (scC (outer := ab aC) rfl))) (ac (pvD (N := ["_law_k", "_law_names_here", "_law_xs"]) 0 (by decide +kernel) (scC (outer := ab aC) rfl))))) aI) (e1 := (scC (outer := ab aC) rfl)))) (ai (DO.toL (mB (aU hr) bW (DO.toB (ar aW bw (DO.toB (ar cG fQ (DO.toB (ak hr (ac (pvD (N := ["_law_k", "_law_names_here", "_law_xs"]) 2 (by decide +kernel) (scC (outer := ab aC) rfl))) (ac (pvD (N := ["_law_k", "_law_names_here", "_law_xs"]) 0 (by decide +kernel) (scC (outer := ab aC) rfl))))) (DL.toB ae))) (DL.toB ae))) (DL.toB ae) (aL _))) aI)))))) (by decide +kernel)))))
     (ap (bq q66 y118 sc_law.nd (ag (DO.toL (fI (M := ["_law_k", "_law_names_here", "_law_xs"]) (src := [none, some 1, some 2]) (ts := [0]) (CmpScope.of (N := ["_law_script", "_law_names_here", "_law_xs", "_law_cells", "_law_shelves", "_law_boxes", "_law_letters", "_law_rows", "_law_program", "_law_handed", "_law_run", "_law_beside", "_law_now", "_law_row_here", "_law_fresh"]) (outer := ab aC) (by decide +kernel)) rfl (DIF.toB (dH y77 T.n_range (ai (DO.toL (ar bh b5 (DL.toB ae) (DO.toB (ar aW bw (DO.toB (ak hr (ac (pvD 2 q62)) (DL.toB ae))) (DL.toB ae))))) aI))) (fun nd _ _ _ _ => (bi (ca (N := ["_law_k", "_law_names_here", "_law_xs"]) (i := 0) (by decide +kernel) (by decide +kernel) nd (scC (outer := ab aC) (by exact rfl))))) (fun _ _ _ _ => cT) (fun _ _ _ _ => (DO.toL (b7 (ai (DO.toL (ak hr (ac (pvD (N := ["_law_k", "_law_names_here", "_law_xs"]) 1 (by decide +kernel) (scC (outer := ab aC) rfl))) (DO.toB (ar bh b5 (DL.toB ae) (ac (pvD (N := ["_law_k", "_law_names_here", "_law_xs"]) 0 (by decide +kernel) (scC (outer := ab aC) rfl))))))) (ai (DO.toL (ar bh b5 (DL.toB ae) (DO.toB (ar aW bw (DO.toB (ak hr (ac (pvD (N := ["_law_k", "_law_names_here", "_law_xs"]) 2 (by decide +kernel) (scC (outer := ab aC) rfl))) (DO.toB (ar bh b5 (DL.toB ae) (ac (pvD (N := ["_law_k", "_law_names_here", "_law_xs"]) 0 (by decide +kernel) (scC (outer := ab aC) rfl))))))) (DL.toB ae))))) (ai (DO.toL (mB (aU hr) bW (DO.toB (ar aW bw (DO.toB (ar cG fQ (DO.toB (ak hr (ac (pvD (N := ["_law_k", "_law_names_here", "_law_xs"]) 2 (by decide +kernel) (scC (outer := ab aC) rfl))) (DO.toB (ar bh b5 (DL.toB ae) (ac (pvD (N := ["_law_k", "_law_names_here", "_law_xs"]) 0 (by decide +kernel) (scC (outer := ab aC) rfl))))))) (DL.toB ae))) (DL.toB ae))) (DL.toB ae) (aL _))) aI)))))) (by decide +kernel)))))
     (ap (bq z62 q112 sc_law.nd (ag (DO.toL (dL (ac (pvD 1 q89)) (cU (DL.toB ae)) (cU (DL.toB ae))))))
     (ap (b6 (bL (aS (aU hr) bW (DO.toB (ar aW bw (DO.toB (ak hr (ac (pvD 2 q62)) (DL.toB ae))) (DL.toB ae))) (DL.toB ae) (aL _))) (aG (bq z62 q112 sc_law.nd (ag (DO.toL (ar bh b5 (DO.toB (dL (ac (pvD 1 q89)) (cU (DL.toB ae)) (cU (DL.toB ae)))) (DO.toB (eJ (ai (DO.toL (ak hr (DO.toB (ak hr (ac (pvD 3 y65)) (DO.toB (mI (DL.toB ae))))) (DL.toB ae))) (ai (DO.toL (ak hr (DO.toB (ak hr (ac (pvD 4 q66)) (DO.toB (mI (DL.toB ae))))) (DL.toB ae))) aI))))))))) bQ)
     (ap (lN y62 q120 sc_law.nd (M := ["_law_number"]) (src := [none]) (ts := [0]) (CmpScope.of (N := ["_law_script", "_law_names_here", "_law_xs", "_law_cells", "_law_shelves", "_law_boxes", "_law_letters", "_law_rows", "_law_program", "_law_handed", "_law_run", "_law_beside", "_law_now", "_law_row_here", "_law_fresh"]) (outer := ab aC) (by decide +kernel)) rfl (kf (DO.toB (bf y56 y29 (hr.mono (by decide)) (ai (DO.toL (bf y43 z38 (hr.mono (by decide)) (ai (aw (pvD 0 z74)) (ai ae aI)))) (ai (DO.toL (ar aW bw (DO.toB (ak hr (ac (pvD 2 q62)) (DL.toB ae))) (DL.toB ae))) aI))))) (fun nd _ _ _ _ => (bi (ca (N := ["_law_number"]) (i := 0) (by decide +kernel) (by decide +kernel) nd (scC (outer := ab aC) (by exact rfl))))) (fun _ _ _ _ => cT) (fun _ _ _ _ => (DO.toL (bf (by decide +kernel) q25 (hr.mono (by decide)) (ai (aw (pvD (N := ["_law_number"]) 0 (by decide +kernel) (scC (outer := ab aC) rfl))) aI) (e1 := (scC (outer := ab aC) rfl))))) (by decide +kernel))
     (ap (lN z86 y120 sc_law.nd (M := ["_law_cell", "_law_cells", "_law_shelves", "_law_boxes"]) (src := [none, some 3, some 4, some 5]) (ts := [0]) (CmpScope.of (N := ["_law_script", "_law_names_here", "_law_xs", "_law_cells", "_law_shelves", "_law_boxes", "_law_letters", "_law_rows", "_law_program", "_law_handed", "_law_run", "_law_beside", "_law_now", "_law_row_here", "_law_fresh"]) (outer := ab aC) (by decide +kernel)) rfl (kf (DO.toB (dL (ac (pvD 0 z74)) (cU (DL.toB ae)) (cU (DL.toB ae))))) (fun nd _ _ _ _ => (bi (ca (N := ["_law_cell", "_law_cells", "_law_shelves", "_law_boxes"]) (i := 0) (by decide +kernel) (by decide +kernel) nd (scC (outer := ab aC) (by exact rfl))))) (fun _ _ _ _ => cT) (fun _ _ _ _ => (DO.toL (bf (by decide +kernel) y75 (hr.mono (by decide)) (ai (aw (pvD (N := ["_law_cell", "_law_cells", "_law_shelves", "_law_boxes"]) 0 (by decide +kernel) (scC (outer := ab aC) rfl))) (ai (aw (pvD (N := ["_law_cell", "_law_cells", "_law_shelves", "_law_boxes"]) 3 (by decide +kernel) (scC (outer := ab aC) rfl))) (ai (aw (pvD (N := ["_law_cell", "_law_cells", "_law_shelves", "_law_boxes"]) 1 (by decide +kernel) (scC (outer := ab aC) rfl))) (ai (aw (pvD (N := ["_law_cell", "_law_cells", "_law_shelves", "_law_boxes"]) 2 (by decide +kernel) (scC (outer := ab aC) rfl))) aI)))) (e1 := (scC (outer := ab aC) rfl))))) (by decide +kernel))
     (ap (bq y85 q118 sc_law.nd (ag (DO.toL (b7 (ai (DO.toL (eL z63 dy kh T.n_tuple iN (br (ac (pvD 3 y65)) bF))) (ai (DO.toL (eL z63 dy kh T.n_tuple iN (br (ac (pvD 4 q66)) bF))) (ai (DO.toL (ar tz wH (DO.toB (eL z63 dy kh T.n_tuple iN (br (ac (pvD 7 z86)) bF))) (DO.toB (b7 (ai (DO.toL (b7 (ai aA (ai ae aI)))) aI))))) aI)))))))
     (ap (bq y90 z119 sc_law.nd (b9 (eL z113 cm iX T.n_list fH (br (ac (pvD 6 y62)) bF))))
     (ap (bq q70 q116 sc_law.nd (oj z79 y37 (hr.mono (by decide)) (ao (ag (aw (pvD 8 y85))) (ao (aj (pvD 9 y90)) aO)) (dY (y1 (y1 aV)))))
     (ap (rf (aj (pvD 9 y90)))
     (ap (bq z81 z116 sc_law.nd (oj z79 y37 (hr.mono (by decide)) (ao (ag (aw (pvD 8 y85))) (ao (ag (aw (pvD 6 y62))) aO)) (dY (y1 (y1 aV)))))
     (ap (bq q69 z117 sc_law.nd (cr q59 z53 (hr.mono (by decide)) (ao (ag (aw (pvD 3 y65))) (ao (ag (aw (pvD 4 q66))) (ao (ag (aw (pvD 6 y62))) aO))) (y1 (y1 (y1 aV)))))
     (ap (kx PassesOwn.never rfl (iT (aw (pvD 7 z86))) (bi (bT q106 y117 sc_law.nd)) (ap (b6 (mV (gx (cr y46 q42 (hr.mono (by decide)) (ao (aj (pvD 10 q70)) (ao (aj (pvD 12 q69)) (ao (ag (aw (pvD 5 z62))) aO))) (y1 (y1 (y1 aV)))) (fun _ => rfl))) (aG (bp (ag nP))) bQ)
     (ap (ko (dO z57 (hr.mono (by decide)) (aj (pvD 10 q70))))
     (aG (ko (cr z87 q71 (hr.mono (by decide)) (ao (ag (aw (pvD 13 q106))) (ao (aj (pvD 12 q69)) aO)) (y1 (y1 aV))))))))
     (ap (bq y105 y116 sc_law.nd (cr q59 z53 (hr.mono (by decide)) (ao (ag (aw (pvD 3 y65))) (ao (ag (aw (pvD 4 q66))) (ao (ag (aw (pvD 6 y62))) aO))) (y1 (y1 (y1 aV)))))
     (aG (bp (mW (cr y46 q42 (hr.mono (by decide)) (ao (aj (pvD 10 q70)) (ao (aj (pvD 12 q69)) (ao (ag (aw (pvD 5 z62))) aO))) (y1 (y1 (y1 aV)))) (mW (cr y46 q42 (hr.mono (by decide)) (ao (aj (pvD 11 z81)) (ao (aj (pvD 14 y105)) (ao (ag (aw (pvD 5 z62))) aO))) (y1 (y1 (y1 aV)))) (qW (mX (aU hr) bW (dO y52 (hr.mono (by decide)) (aj (pvD 11 z81))) (ag ae) (aL _)))))))))))))))))))))))
end
local macro_rules | `(tactic| walk_at "d") => `(tactic| simp -implicitDefEqProofs only [L2.runD_d, L2.yc, L2.sSeq_d, L2.xL, L2.xM, L2.dS, L2.gT, L2.cf, L2.sIf_d, L2.yd, L2.ye, L2.sFor_d, L2.toT, L2.toD, L2.T.d, L2.kD, L2.vL, L2.vB, L2.d2, L2.tB2, L2.gn, L2.pf, L2.v9, L2.vAnd_d, L2.aF, L2.af, L2.vTup_d, L2.vLst_d, L2.ga, L2.yf, L2.tj, L2.aN, L2.nY, L2.yg, L2.vSl, L2.nX, L2.cK, L2.cQ, L2.uH, L2.lz, L2.im, L2.fIt, L2.ij, L2.ax, L2.dC, L2.bv, L2.wl, L2.atI_0, L2.uK, L2.atI_2, L2.atI_3, L2.atI_4, L2.atI_5, L2.wv, L2.qQ, L2.n0, List.all_cons, List.all_nil, List.any_cons, List.any_nil, L2.gSub_i, L2.wr, L2.wt, L2.gDiv_i, L2.eR, L2.yb, L2.gMod_w, L2.gCmp_i, L2.wq, L2.qL, L2.qz, L2.gIx_l, L2.qM, L2.gLen_l, L2.itD_l, L2.asB_b, L2.asBl_b, L2.asI_i, List.map_cons, List.map_nil, List.length_cons, List.length_nil, List.cons_append, List.nil_append, List.replicate, List.getElem?_cons_zero, List.getElem?_cons_succ, List.set_cons_zero, List.set_cons_succ, Option.bind_some, Option.bind_none, Option.map_some, Option.map_none, Option.join_some, Option.join_none, Nat.reduceAdd, Nat.reduceSub, Nat.reduceLeDiff, Int.reduceLT, Int.reduceEq, eq_self, Int.reduceNeg, Int.reduceLE, if_true, if_false, ite_true, ite_false, Bool.false_eq_true, decide_true, decide_false, Bool.not_true, Bool.not_false, Bool.and_true, Bool.true_and, Bool.or_true, Bool.true_or, Bool.or_false, Bool.false_or, Bool.and_false, Bool.false_and, String.reduceBEq, reduceCtorEq])
local macro_rules | `(tactic| walk_at "k") => `(tactic| simp -implicitDefEqProofs only [L2.runD_d, L2.yc, L2.sSeq_d, L2.xL, L2.xM, L2.dS, L2.gT, L2.cf, L2.sIf_d, L2.yd, L2.ye, L2.sFor_d, L2.toT, L2.toD, L2.T.d, L2.kD, L2.vL, L2.vB, L2.d2, L2.tB2, L2.gn, L2.pf, L2.v9, L2.vAnd_d, L2.aF, L2.af, L2.vTup_d, L2.vLst_d, L2.ga, L2.yf, L2.tj, L2.aN, L2.nY, L2.yg, L2.vSl, L2.nX, L2.cK, L2.cQ, L2.uH, L2.lz, L2.im, L2.fIt, L2.ij, L2.ax, L2.dC, L2.bv, L2.wl, L2.atI_0, L2.uK, L2.atI_2, L2.atI_3, L2.atI_4, L2.atI_5, L2.wv, L2.qQ, L2.n0, List.all_cons, List.all_nil, List.any_cons, List.any_nil, L2.gSub_i, L2.wr, L2.wt, L2.gDiv_i, L2.eR, L2.yb, L2.gMod_w, L2.gCmp_i, L2.wq, L2.qL, L2.qz, L2.gIx_l, L2.qM, L2.gLen_l, L2.itD_l, L2.asB_b, L2.asBl_b, L2.asI_i, List.map_cons, List.map_nil, List.length_cons, List.length_nil, List.cons_append, List.nil_append, List.replicate, List.getElem?_cons_zero, List.getElem?_cons_succ, List.set_cons_zero, List.set_cons_succ, Option.bind_some, Option.bind_none, Option.map_some, Option.map_none, Option.join_some, Option.join_none, Nat.reduceAdd, Nat.reduceSub, Nat.reduceLeDiff, Int.reduceLT, Int.reduceEq, eq_self, Int.reduceNeg, Int.reduceLE, if_true, if_false, ite_true, ite_false, Bool.false_eq_true, decide_true, decide_false, Bool.not_true, Bool.not_false, Bool.and_true, Bool.true_and, Bool.or_true, Bool.true_or, Bool.or_false, Bool.false_or, Bool.and_false, Bool.false_and, String.reduceBEq, reduceCtorEq, L2.ww, L2.wx, L2.uL, L2.wy, L2.wz, L2.uM, L2.uN, L2.uO, L2.tq, L2.wA, L2.wC, L2.uP, L2.xa, L2.xb, L2.wD, L2.wE, L2.wF, L2.uQ, L2.xc, L2.xf])
def cy {α β : Type} (f : α -> β) (l : List α) (k : Nat) (h : k < l.length) (d : α) : atI (l.map f) (k : Int) = some (f (l.getD k d)) := by
 unfold atI ixN
 rw [if_pos (by omega), List.length_map, if_pos (by omega)]
 simp [h]
def kK (ns : List Int) (k : Nat) : q14 [.lst (ns.map .int), .int k] = some (.leaf (.int (ns.getD k 0))) := by
 unfold q14
 walk_at "d"
 by_cases h : k < ns.length
 · rw [dq (by simpa using h)]
   walk_at "d"
   rw [cy Dt.int ns k h 0]
   rfl
 · rw [dr (by simpa using h)]
   walk_at "d"
   simp [List.getD, show ns.length <= k by omega]
def InR (n : Int) : Prop := 0 <= n /\ n < wide
def je (n : Int) : ∃ v, q16 [.int n] = some (.leaf (.int v)) /\ InR v := by
 have m0 := Int.emod_nonneg (n / 3) (show (4 : Int) ≠ 0 by decide)
 have m1 := Int.emod_lt_of_pos (n / 3) (show (0 : Int) < 4 by decide)
 unfold q16
 walk_at "d"
 by_cases h : n % 3 = 0
 · rw [dq (by simpa using h)]
   walk_at "d"
   exact ⟨_, rfl, m0, by rw [fK]; omega⟩
 · rw [dr (by simpa using h)]
   walk_at "d"
   by_cases h : n % 3 = 1
   · rw [dq (by simpa using h)]
     walk_at "d"
     exact ⟨_, rfl, by rw [fK]; omega, by rw [fK]; omega⟩
   · rw [dr (by simpa using h)]
     walk_at "d"
     exact ⟨_, rfl, Int.emod_nonneg _ (by rw [fK]; decide), Int.emod_lt_of_pos _ lD⟩
def letters : Str := "abcdefghijklmnopqrstuvwxyz"
def fw : letters.length = 26 := by decide +kernel
def tX (c : Int) (i : Nat) (hi : i < 10) : ∃ g : Nat, z48 [some (.leaf (.int (0 + (i : Int)))), some (.leaf (.int c)), some (.leaf (.str letters))] = some (.str ⟨#[g]⟩) := by
 have m0 := Int.emod_nonneg c (show (2 : Int) ≠ 0 by decide)
 have m1 := Int.emod_lt_of_pos c (show (0 : Int) < 2 by decide)
 unfold z48
 walk_at "d"
 rw [wt (i := 11 * (0 + (i : Int))) (j := c % 2) (by omega) (by omega)]
 walk_at "d"
 obtain ⟨g, e, _⟩ := tp (x := letters) (i := (c / 37 + 11 * (0 + (i : Int)) * (c % 2)) % 26) (by rw [fw]; decide) (Int.emod_nonneg _ (by decide)) (by rw [fw]; exact Int.emod_lt_of_pos _ (by decide))
 rw [e]
 exact ⟨g, rfl⟩
def lS {x : Str} {lo hi : Option Int} (h : x.length <= 1000) : ∃ y, gSl (.str x) lo hi = some (.leaf (.str y)) /\ y.length <= x.length :=
 ⟨_, if_pos (hZ (by omega)), Txt.slice_le x lo hi⟩
def oA {x y : Str} (h : x.length + y.length <= 1000000) : bV (.str x) (.str y) = some (.leaf (.str (x ++ y))) := wm (hZ h)
def tY (x y : Str) : (x ++ y).length = x.length + y.length := by
 show (x.cps ++ y.cps).size = _
 rw [Array.size_append]
 rfl
def sgn (i : Int) : Nat := letters.cps.toList.getD i.toNat 0
def wQ (i : Int) (h0 : 0 <= i) (h1 : i < 26) : au (.str letters) (.int i) = some (.leaf (.str ⟨#[sgn i]⟩)) := by
 have hl : letters.cps.toList.length = 26 := by decide +kernel
 rw [uJ (by rw [fw]; exact hZ (by decide))]
 unfold atI ixN
 rw [if_pos h0, hl, if_pos (by omega)]
 simp only [Option.bind_some]
 unfold sgn
 rw [List.getD_eq_getElem?_getD, gQ (by omega)]
 rfl
def tZ : ∀ i < 26, ∀ j < 26, letters.cps.toList.getD i 0 = letters.cps.toList.getD j 0 -> i = j := by decide +kernel
def t3 (c p : Int) (m : Str) (hm : m.length <= 6) : ∃ y z : Str, ∀ i : Nat, q48 [some (.leaf (.int (0 + (i : Int)))), some (.leaf (.int c)), some (.leaf (.str letters)), some (.leaf (.int p)), some (.leaf (.str m))] = some (.str (y ++ ⟨#[sgn ((c / 42 + 5 * (0 + (i : Int))) % 26)]⟩ ++ z)) := by
 obtain ⟨y, ey, hy⟩ := lS (x := m) (lo := none) (hi := some p) (by omega)
 obtain ⟨z, ez, hz⟩ := lS (x := m) (lo := some p) (hi := none) (by omega)
 refine ⟨y, z, fun i => ?_⟩
 unfold q48
 walk_at "d"
 have e := wQ ((c / 42 + 5 * (0 + (i : Int))) % 26) (Int.emod_nonneg _ (by decide)) (Int.emod_lt_of_pos _ (by decide))
 have hg : (⟨#[sgn ((c / 42 + 5 * (0 + (i : Int))) % 26)]⟩ : Str).length = 1 := rfl
 rw [ey]
 walk_at "d"
 rw [e]
 walk_at "d"
 rw [oA (by omega)]
 walk_at "d"
 rw [ez]
 walk_at "d"
 rw [oA (by rw [tY]; omega)]
 rfl
def t4 (x y : Str) : (x ++ y).cps.toList = x.cps.toList ++ y.cps.toList := by
 show (x.cps ++ y.cps).toList = _
 simp
def wR {c : Int} {y z : Str} {i j : Nat} (hi : i < 20) (hj : j < 20) (h : y ++ ⟨#[sgn ((c / 42 + 5 * (0 + (i : Int))) % 26)]⟩ ++ z = y ++ ⟨#[sgn ((c / 42 + 5 * (0 + (j : Int))) % 26)]⟩ ++ z) : i = j := by
 have e := congrArg (fun s : Str => s.cps.toList) h
 simp only [t4] at e
 have e := List.append_cancel_left (List.append_cancel_right e)
 have e : sgn ((c / 42 + 5 * (0 + (i : Int))) % 26) = sgn ((c / 42 + 5 * (0 + (j : Int))) % 26) := by simpa using e
 have := tZ _ (by omega) _ (by omega) e
 omega
def rm (c : Int) : ∃ xs : List Str, q38 [.int c, .int 20] = some (.lst (xs.map .str)) /\ xs.length = 20 /\ xs.Nodup := by
 have b0 := Int.emod_nonneg c (show (6 : Int) ≠ 0 by decide)
 have b1 := Int.emod_lt_of_pos c (show (0 : Int) < 6 by decide)
 unfold q38
 walk_at "d"
 rw [eR (by omega)]
 walk_at "d"
 obtain ⟨ys, e, hp⟩ := gu (bb := ax 0) (ft := bv) (fe := z48) (ds := bK 0 (c % 6).toNat) (δ := [none, some (.leaf (.int c)), some (.leaf (.str letters))]) (P := fun _ y => ∃ c : Nat, y = .str ⟨#[c]⟩) fun d hd => by
  obtain ⟨i, hi, rfl⟩ := mem_range hd
  obtain ⟨g, e⟩ := tX c i (by omega)
  exact ⟨_, _, rfl, rfl, e, g, rfl⟩
 obtain ⟨cs, rfl, hl⟩ := jP hp
 rw [gY] at hl
 rw [iZ (eS (by omega) (by omega)), Option.bind_some, show Str.ofString "abcdefghijklmnopqrstuvwxyz" = letters from rfl, e, Option.bind_some, ga (by unfold sgD; rw [List.length_map]; omega)]
 walk_at "d"
 rw [show Str.ofString "" = ("" : Str) from rfl, qP (by omega)]
 walk_at "d"
 have hm : (⟨cs.toArray⟩ : Str).length <= 6 := by
  show cs.toArray.size <= 6
  simp
  omega
 obtain ⟨y, z, hyz⟩ := t3 c (c / 6 % (c % 6 + 1)) ⟨cs.toArray⟩ hm
 have e := dN (bb := ax 0) (ft := bv) (fe := q48) (ds := bK 0 (20 : Int).toNat) (δ := [none, some (.leaf (.int c)), some (.leaf (.str letters)), some (.leaf (.int (c / 6 % (c % 6 + 1)))), some (.leaf (.str ⟨cs.toArray⟩))]) (f := fun d => match d with
  | .int k => .str (y ++ ⟨#[sgn ((c / 42 + 5 * k) % 26)]⟩ ++ z)
  | d => d) fun d hd => by
  obtain ⟨i, hi, rfl⟩ := mem_range hd
  exact ⟨_, rfl, rfl, hyz i⟩
 have hr : (bK 0 (20 : Int).toNat).map (fun d => match d with
  | Dt.int k => Dt.str (y ++ ⟨#[sgn ((c / 42 + 5 * k) % 26)]⟩ ++ z)
  | d => d) = ((List.range 20).map fun i : Nat => y ++ ⟨#[sgn ((c / 42 + 5 * (0 + (i : Int))) % 26)]⟩ ++ z).map Dt.str := rfl
 rw [hr] at e
 refine ⟨(List.range 20).map fun i : Nat => y ++ ⟨#[sgn ((c / 42 + 5 * (0 + (i : Int))) % 26)]⟩ ++ z, ?_, by simp, ?_⟩
 · rw [iZ (eS (by omega) (by omega)), Option.bind_some, e, Option.bind_some, ga (by rw [List.length_map, List.length_map, List.length_range]; decide)]
   walk_at "d"
 · rw [List.nodup_iff_pairwise_ne, List.pairwise_map]
   refine List.pairwise_iff_getElem.mpr fun i j hi hj hij h => ?_
   simp only [List.length_range] at hi hj
   simp only [List.getElem_range] at h
   have := wR hi hj h
   omega
def Sm (v : Int) : Prop := 0 <= v /\ v < 2147483629
def cutL (d : Dt) (ds : List Dt) : gSl (.lst (d :: ds)) (some 1) none = some (.lst ds) := by
 have e1 : HT.sIx (d :: ds).length 0 (some (1 : Int)) = 1 := by
  rw [show (1 : Int) = ((1 : Nat) : Int) from rfl, HT.x8]
  simp
 show some (T.lst (L2.sV (d :: ds) (some 1) none)) = _
 unfold L2.sV
 rw [e1, HT.xy]
 simp
def g7 (c : Int) (m : Nat) (hm : m <= 20) : ∃ vs : List Int, q19 [.int c, .int m] = some (.lst (vs.map .int)) /\ vs.length = m /\ ∀ v ∈ vs, Sm v := by
 unfold q19
 walk_at "d"
 rw [show (m : Int) + 1 = ((m + 1 : Nat) : Int) from rfl, iZ (eS (by omega) (by omega)), Option.bind_some]
 have c0 := Int.emod_nonneg c (show (2147483629 : Int) ≠ 0 by decide)
 have c1 := Int.emod_lt_of_pos c (show (0 : Int) < 2147483629 by decide)
 rw [show ((m + 1 : Nat) : Int).toNat = m + 1 from rfl]
 obtain ⟨δ', e, l, n, x, rfl, hn, hn', hl, hv⟩ := n6 (all := bK 0 (m + 1)) (bb := ax 4) (g := q54) (P := fun done δ => ∃ (l : List Int) (n : Int) (x : Option T), δ = [some (.leaf (.int c)), some (.leaf (.int m)), some (.lst (l.map .int)), some (.leaf (.int n)), x] /\ 0 <= n /\ n < 3000000000 /\ l.length = done.length /\ ∀ v ∈ l, Sm v)
  (bK 0 (m + 1)) [] [some (.leaf (.int c)), some (.leaf (.int m)), some (.lst []), some (.leaf (.int (c % 2147483629 + 69621))), none] rfl ⟨[], _, _, rfl, by omega, by omega, rfl, fun _ h => by cases h⟩
  (fun done d r δ hd h => by
   obtain ⟨hd, hi⟩ := qR hd
   generalize ei : done.length = i at hd hi h
   subst hd
   obtain ⟨l, n, x, rfl, h0, h1, hl, hv⟩ := h
   refine ⟨[some (.leaf (.int c)), some (.leaf (.int m)), some (.lst (l.map .int)), some (.leaf (.int n)), some (.leaf (.int (0 + (i : Int))))], [some (.leaf (.int c)), some (.leaf (.int m)), some (.lst ((l ++ [(n * n + 16807 * n + (0 + (i : Int))) % 2147483629]).map .int)), some (.leaf (.int ((n * n + 16807 * n + (0 + (i : Int))) % 2147483629))), some (.leaf (.int (0 + (i : Int))))], rfl, .inl ?_, l ++ [(n * n + 16807 * n + (0 + (i : Int))) % 2147483629], _, _, rfl, Int.emod_nonneg _ (by decide), Int.lt_trans (Int.emod_lt_of_pos _ (by decide)) (by decide), by simp [hl, ei], ?_⟩
   · unfold q54
     walk_at "d"
     rw [wr (by omega) (by omega)]
     walk_at "d"
     rw [xN rfl]
     walk_at "d"
     rw [tj (by rw [List.length_map, hl]; omega)]
     walk_at "d"
     rw [List.map_append]
     rfl
   · intro v hvm
     rcases List.mem_append.mp hvm with hvm | hvm
     · exact hv v hvm
     · cases List.mem_singleton.mp hvm
       exact ⟨Int.emod_nonneg _ (by decide), Int.emod_lt_of_pos _ (by decide)⟩)
 rw [gY] at hl
 rw [e]
 walk_at "d"
 cases l with
 | nil => simp at hl
 | cons a l =>
  rw [List.map_cons, cutL]
  exact ⟨l, rfl, by simpa using hl, fun v h => hv v (List.mem_cons_of_mem _ h)⟩
def At (d : Dt) : Prop := (∃ n, InR n /\ d = .int n) ∨ ∃ x, d = .str x
def pick {xs : List Str} {i : Int} (h0 : 0 <= i) (h1 : i < xs.length) : ∃ x, atI (xs.map Dt.str) i = some (.str x) := by
 obtain ⟨v, e, hm⟩ := mR (xs := xs.map Dt.str) h0 (by rw [List.length_map]; exact h1)
 obtain ⟨x, _, rfl⟩ := List.mem_map.mp hm
 exact ⟨x, e⟩
def oB (c : Int) (xs : List Str) (hx : 0 < xs.length) : ∃ d, z28 [.int c, .lst (xs.map .str)] = some (.leaf d) /\ At d := by
 unfold z28
 walk_at "d"
 by_cases h : c % 3 = 0
 · rw [dq (by simpa using h)]
   walk_at "d"
   obtain ⟨v, e, hv⟩ := je (c / 3)
   rw [e]
   walk_at "d"
   exact ⟨_, rfl, .inl ⟨v, hv, rfl⟩⟩
 · rw [dr (by simpa using h)]
   walk_at "d"
   rw [List.length_map, eR (by omega)]
   walk_at "d"
   obtain ⟨x, e⟩ := pick (xs := xs) (i := c / 3 % (xs.length : Nat)) (Int.emod_nonneg _ (by omega)) (Int.emod_lt_of_pos _ (by omega))
   rw [e]
   walk_at "d"
   exact ⟨_, rfl, .inr ⟨x, rfl⟩⟩
def hdD (p : Str × Int × Bool) : Dt := .tup [.str p.1, .int p.2.1, .bl p.2.2]
inductive Row (cs ss : List Str) : Dt -> Prop
 | load {x c : Str} : c ∈ cs -> Row cs ss (.tup [.str "load", .str x, .str c])
 | store {c : Str} {a : Dt} : c ∈ cs -> At a -> Row cs ss (.tup [.str "store", .str c, a])
 | take {x s : Str} {a : Dt} : s ∈ ss -> At a -> Row cs ss (.tup [.str "take", .str x, .str s, a])
 | lay {s : Str} {a b : Dt} : s ∈ ss -> At a -> At b -> Row cs ss (.tup [.str "lay", .str s, a, b])
 | hear {x : Str} : Row cs ss (.tup [.str "hear", .str x])
 | copy {x : Str} {a : Dt} : At a -> Row cs ss (.tup [.str "copy", .str x, a])
def uV {xs : List (Str × Int × Bool)} {i : Int} (h0 : 0 <= i) (h1 : i < xs.length) : ∃ p, atI (xs.map hdD) i = some (hdD p) /\ p ∈ xs := by
 obtain ⟨v, e, hm⟩ := mR (xs := xs.map hdD) h0 (by rw [List.length_map]; exact h1)
 obtain ⟨x, hx, rfl⟩ := List.mem_map.mp hm
 exact ⟨x, e, hx⟩
def wS (p : Str × Int × Bool) : au (hdD p) (.int 0) = some (.leaf (.str p.1)) := rfl
def len6 {α : Type} : ∀ {l : List α}, l.length = 6 -> ∃ a b c d e f, l = [a, b, c, d, e, f]
 | [a, b, c, d, e, f], _ => ⟨a, b, c, d, e, f, rfl⟩
def wT (c : Int) (xs : List Str) (cs ss : List (Str × Int × Bool)) (hx : 0 < xs.length) (hc : 0 < cs.length) (hs : 0 < ss.length) :
  ∃ r, y48 [.int c, .lst (xs.map .str), .lst (cs.map hdD), .lst (ss.map hdD)] = some (.leaf r) /\ Row (cs.map (·.1)) (ss.map (·.1)) r := by
 unfold y48
 obtain ⟨vs, es, hl, _⟩ := g7 c 6 (by decide)
 obtain ⟨v0, v1, v2, v3, v4, v5, rfl⟩ := len6 hl
 obtain ⟨a3, e3, ha3⟩ := oB v3 xs hx
 obtain ⟨a4, e4, ha4⟩ := oB v4 xs hx
 obtain ⟨x, ex⟩ := pick (xs := xs) (i := v1 % (xs.length : Nat)) (Int.emod_nonneg _ (by omega)) (Int.emod_lt_of_pos _ (by omega))
 obtain ⟨p, ep, hp⟩ := uV (xs := cs) (i := v2 % (cs.length : Nat)) (Int.emod_nonneg _ (by omega)) (Int.emod_lt_of_pos _ (by omega))
 obtain ⟨q, eq, hq⟩ := uV (xs := ss) (i := v2 % (ss.length : Nat)) (Int.emod_nonneg _ (by omega)) (Int.emod_lt_of_pos _ (by omega))
 have hp' : p.1 ∈ cs.map (·.1) := List.mem_map.mpr ⟨p, hp, rfl⟩
 have hq' : q.1 ∈ ss.map (·.1) := List.mem_map.mpr ⟨q, hq, rfl⟩
 rw [show ((6 : Nat) : Int) = 6 from rfl] at es
 simp only [List.map_cons, List.map_nil] at es
 walk_at "d"
 rw [es]
 walk_at "d"
 rw [List.length_map, eR (by omega)]
 walk_at "d"
 rw [ex]
 walk_at "d"
 rw [List.length_map, eR (by omega)]
 walk_at "d"
 rw [eq]
 walk_at "d"
 rw [wS]
 walk_at "d"
 by_cases q1 : v0 % 9 < 2
 · rw [dq (by simpa using q1)]
   walk_at "d"
   rw [List.length_map, eR (by omega)]
   walk_at "d"
   rw [ep]
   walk_at "d"
   rw [wS]
   walk_at "d"
   exact ⟨_, rfl, .load hp'⟩
 · rw [dr (by simpa using q1)]
   walk_at "d"
   by_cases q2 : v0 % 9 < 4
   · rw [dq (by simpa using q2)]
     walk_at "d"
     rw [List.length_map, eR (by omega)]
     walk_at "d"
     rw [ep]
     walk_at "d"
     rw [wS]
     walk_at "d"
     rw [e3]
     walk_at "d"
     exact ⟨_, rfl, .store hp' ha3⟩
   · rw [dr (by simpa using q2)]
     walk_at "d"
     by_cases q3 : v0 % 9 < 6
     · rw [dq (by simpa using q3)]
       walk_at "d"
       rw [e3]
       walk_at "d"
       exact ⟨_, rfl, .take hq' ha3⟩
     · rw [dr (by simpa using q3)]
       walk_at "d"
       by_cases q4 : v0 % 9 < 8
       · rw [dq (by simpa using q4)]
         walk_at "d"
         rw [e3]
         walk_at "d"
         rw [e4]
         walk_at "d"
         exact ⟨_, rfl, .lay hq' ha3 ha4⟩
       · rw [dr (by simpa using q4)]
         walk_at "d"
         rw [e3]
         walk_at "d"
         obtain h5 | h5 : v5 % 2 = 0 ∨ v5 % 2 = 1 := by omega
         · rw [h5]
           exact ⟨_, rfl, .hear⟩
         · rw [h5]
           exact ⟨_, rfl, .copy ha3⟩
abbrev Al := List (Str × Int)
def dI (l : Al) : List (Key × CV) := l.map fun p => (.inr p.1, .dat (.int p.2))
def li (vs : List Int) : CO := .lst (vs.map fun v => .dat (.int v))
def dP (ns : List Str) (ps : List Nat) : List (Key × CV) := (ns.zip ps).map fun p => (.inr p.1, .ref p.2)
def lkS {α : Type} : List (Str × α) -> Str -> Option α
 | [], _ => none
 | p :: l, x => if p.1 = x then some p.2 else lkS l x
def ptS {α : Type} : List (Str × α) -> Str -> α -> List (Str × α)
 | [], x, v => [(x, v)]
 | p :: l, x, v => if p.1 = x then (p.1, v) :: l else p :: ptS l x v
def lT {κ : Type} [DecidableEq κ] (p : κ × CV) (l : List (κ × CV)) (k : κ) : lkC (p :: l) k = if p.1 = k then some p.2 else lkC l k := by
 unfold lkC
 by_cases h : p.1 = k
 · simp [h]
 · simp [h]
def ie (x : Str) : ∀ l : Al, lkC (dI l) (.inr x) = (lkS l x).map fun v => .dat (.int v)
 | [] => rfl
 | p :: l => by
  have ih := ie x l
  unfold dI at ih ⊢
  rw [List.map_cons, lT, lkS]
  by_cases h : p.1 = x
  · rw [if_pos h, if_pos (by rw [h])]; rfl
  · rw [if_neg h, if_neg (fun z => h (Sum.inr.inj z)), ih]
def uW (x : Str) (v : Int) : ∀ l : Al, gw (dI l) (.inr x) (.dat (.int v)) = dI (ptS l x v)
 | [] => rfl
 | p :: l => by
  have ih := uW x v l
  unfold dI at ih ⊢
  rw [List.map_cons, gw, ptS]
  by_cases h : p.1 = x
  · rw [if_pos (show ((.inr p.1, .dat (.int p.2)) : Key × CV).1 = .inr x by rw [h]), if_pos h]; rfl
  · rw [if_neg (show ¬ ((.inr p.1, .dat (.int p.2)) : Key × CV).1 = .inr x from fun z => h (Sum.inr.inj z)), if_neg h, ih]; rfl
def dw {α : Type} (x : Str) (v : α) : ∀ l : List (Str × α), (ptS l x v).map (·.1) = if x ∈ l.map (·.1) then l.map (·.1) else l.map (·.1) ++ [x]
 | [] => rfl
 | p :: l => by
  have ih := dw x v l
  rw [ptS]
  by_cases h : p.1 = x
  · rw [if_pos h]; simp [h]
  · rw [if_neg h, List.map_cons, ih]
    have h' : ¬ x = p.1 := fun e => h e.symm
    by_cases hm : x ∈ l.map (·.1)
    · rw [if_pos hm, if_pos (by simp only [List.map_cons]; exact List.mem_cons_of_mem _ hm)]; rfl
    · rw [if_neg hm, if_neg (by simp only [List.map_cons]; exact fun z => by rcases List.mem_cons.mp z with z | z; exact h' z; exact hm z)]; rfl
def lU {α : Type} {x : Str} {v : α} {l : List (Str × α)} (h : (l.map (·.1)).Nodup) : ((ptS l x v).map (·.1)).Nodup := by
 rw [dw]
 split
 · exact h
 · rename_i hm
   exact List.nodup_append.mpr ⟨h, by simp, fun a ha b hb e => by rw [List.mem_singleton.mp hb] at e; exact hm (e ▸ ha)⟩
def kL {α : Type} (x : Str) (v : α) (l : List (Str × α)) : (ptS l x v).length <= l.length + 1 := by
 have := congrArg List.length (dw x v l)
 simp only [List.length_map] at this
 rw [this]
 split <;> simp
def t6 (l : Al) : (dI l).map (·.1) = (l.map (·.1)).map (fun x => (.inr x : Key)) := by simp [dI]
def uX {l : Al} (h : (l.map (·.1)).Nodup) : ((dI l).map (·.1)).Nodup := by
 rw [t6]
 exact List.pairwise_map.mpr (h.imp fun h z => h (Sum.inr.inj z))
def g8 {α : Type} {x : Str} : ∀ {l : List (Str × α)}, x ∈ l.map (·.1) -> ∃ v, lkS l x = some v
 | p :: l, h => by
  rw [lkS]
  by_cases e : p.1 = x
  · exact ⟨p.2, by rw [if_pos e]⟩
  · rw [if_neg e]
    rcases List.mem_cons.mp h with h | h
    · exact (e h.symm).elim
    · exact g8 h
def jf {l : Al} {x : Str} {v : Int} (hz : l.length < 500) (nd : (l.map (·.1)).Nodup) : lG (.dK (dI l)) (.str x) (.dat (.int v)) = some (.dK (dI (ptS l x v))) := by
 unfold lG
 simp only [dU, Option.bind_some]
 rw [if_pos ⟨by have : (dI l).length = l.length := by simp [dI]
                have h2 : sizeLine ≥ 1000 := by decide
                omega, uX nd⟩, uW]
structure Sta where
 bx : Al
 cl : Al
 sh : List (Str × List Int)
 hs : Nat
def wo (t : Sta) : Dt -> Int
 | .str x => (lkS t.bx x).getD 0
 | .int i => i
 | _ => 0
def ShAt (ch : CH) : List Nat -> List (Str × List Int) -> Prop
 | [], [] => True
 | p :: ps, s :: sh => ch[p]? = some (li s.2) /\ ShAt ch ps sh
 | _, _ => False
structure Pl where
 (r o i g b c s : Nat)
 ps : List Nat
def fns : List Str := ["rows", "onward", "incoming", "outgoing", "boxes", "cells", "shelves", "place", "hears", "done", "result"]
def pv (p : Pl) (rows : List Dt) (k : Nat) (h n : Int) : List CV := [.dat (.tup rows), .ref p.o, .ref p.i, .ref p.g, .ref p.b, .ref p.c, .ref p.s, .dat (.int k), .dat (.int h), .dat (.int n), .dat .non]
def po (p : Pl) (rows : List Dt) (k : Nat) (h n : Int) : CO := .ins "Plain" fns (pv p rows k h n)
def Pl.all (p : Pl) : List Nat := p.r :: p.o :: p.i :: p.g :: p.b :: p.c :: p.s :: p.ps
structure RunAt (ch : CH) (p : Pl) (rows : List Dt) (on : List CV) (ls : List Int) (k : Nat) (n : Int) (t : Sta) : Prop where
 hr : ch[p.r]? = some (po p rows k t.hs n)
 ho : ch[p.o]? = some (.lst on)
 hi : ch[p.i]? = some (li ls)
 hg : ch[p.g]? = some (.lst [])
 hb : ch[p.b]? = some (.dK (dI t.bx))
 hc : ch[p.c]? = some (.dK (dI t.cl))
 hs : ch[p.s]? = some (.dK (dP (t.sh.map (·.1)) p.ps))
 hp : ShAt ch p.ps t.sh
 nd : p.all.Nodup
section
variable {ch : CH} {p : Pl} {rows : List Dt} {on : List CV} {ls : List Int} {k : Nat} {n : Int} {t : Sta}
def rn (R : RunAt ch p rows on ls k n t) (x : Str) : y24 [.ref p.r, .dat (.str x)] ch = some (.dat (.int ((lkS t.bx x).getD 0)), ch) := by
 unfold y24
 rw [bC]
 simp only [List.map_cons, List.map_nil, List.length_cons, List.length_nil, List.cons_append, List.nil_append, Nat.reduceAdd, Nat.reduceSub, List.replicate]
 rw [aX (kJ (cD (aP rfl) R.hr rfl) R.hb (aJ (bz rfl)) (aJ (d := .int 0) rfl) rfl), kH, ie]
 cases lkS t.bx x <;> rfl
def rA (R : RunAt ch p rows on ls k n t) {a : Dt} (h : At a) : z5 [.ref p.r, .dat a] ch = some (.dat (.int (wo t a)), ch) := by
 unfold z5
 rw [bC]
 simp only [List.map_cons, List.map_nil, List.length_cons, List.length_nil, List.cons_append, List.nil_append, Nat.reduceAdd, Nat.reduceSub, List.replicate]
 have e0 : ∀ d, vL 1 (lo [some (CV.ref p.r), some (.dat d)] ch) = some d := fun d => bz rfl
 have e1 : ∀ d, vB 1 (lo [some (CV.ref p.r), some (.dat d)] ch) = some d := fun d => cC rfl
 rcases h with ⟨j, _, rfl⟩ | ⟨x, rfl⟩
 · have c1 : tD (gn (toD (cQ "str" (vB 1)))) [some (CV.ref p.r), some (.dat (.int j))] ch = some (false, ch) := ic (by unfold gn toD cQ; rw [e1]; rfl)
   rw [aX (v := .dat (.int j)) (ch1 := ch) (by rw [ou, c1, cV]; exact aJ (e0 _))]
   rfl
 · have c1 : tD (gn (toD (cQ "str" (vB 1)))) [some (CV.ref p.r), some (.dat (.str x))] ch = some (true, ch) := ic (by unfold gn toD cQ; rw [e1]; rfl)
   rw [aX (v := .dat (.int ((lkS t.bx x).getD 0))) (ch1 := ch) (by rw [ou, c1, kI, du (aP rfl) R.hr (by decide +kernel) (aH (aJ (e0 _)) rfl)]; exact rn R x)]
   rfl
end
section
variable {ch ch' : CH} {p : Pl} {rows : List Dt} {on : List CV} {ls : List Int} {k : Nat} {n : Int} {t : Sta}
def cH {ps : List Nat} {i q : Nat} {o : CO} (hn : i ∉ ps) (hq : q ∈ ps) : (ch.set i o)[q]? = ch[q]? := gN fun e => by subst e; exact hn hq
def ShAt.frame : ∀ {ps : List Nat} {sh : List (Str × List Int)}, (∀ q ∈ ps, ch'[q]? = ch[q]?) -> ShAt ch ps sh -> ShAt ch' ps sh
 | [], [], _, _ => trivial
 | [], _ :: _, _, h => h.elim
 | _ :: _, [], _, h => h.elim
 | q :: ps, s :: sh, hf, h => ⟨by rw [hf q (by simp)]; exact h.1, ShAt.frame (fun z hz => hf z (by simp [hz])) h.2⟩
def ShAt.len : ∀ {ps : List Nat} {sh : List (Str × List Int)}, ShAt ch ps sh -> ps.length = sh.length
 | [], [], _ => rfl
 | [], _ :: _, h => h.elim
 | _ :: _, [], h => h.elim
 | q :: ps, s :: sh, h => by simp [ShAt.len h.2]
def ShAt.lk {x : Str} {vs : List Int} : ∀ {ps : List Nat} {sh : List (Str × List Int)}, ShAt ch ps sh -> lkS sh x = some vs -> ∃ q, q ∈ ps /\ lkC (dP (sh.map (·.1)) ps) (.inr x) = some (.ref q) /\ ch[q]? = some (li vs) ∧
      ∀ ws, ps.Nodup -> ShAt (ch.set q (li ws)) ps (ptS sh x ws)
 | [], [], _, h => by cases h
 | [], _ :: _, h, _ => h.elim
 | _ :: _, [], h, _ => h.elim
 | q :: ps, s :: sh, h, hl => by
  rw [lkS] at hl
  have e0 : dP ((s :: sh).map (·.1)) (q :: ps) = (.inr s.1, .ref q) :: dP (sh.map (·.1)) ps := rfl
  rw [e0, lT]
  by_cases hx : s.1 = x
  · rw [if_pos hx] at hl
    cases hl
    refine ⟨q, by simp, by rw [if_pos (by rw [hx])], h.1, fun ws nd => ?_⟩
    rw [ptS, if_pos hx]
    have hq : q < ch.length := (gX h.1).1
    exact ⟨by simp [hq], h.2.frame fun z hz => cH (List.nodup_cons.mp nd).1 hz⟩
  · rw [if_neg hx] at hl
    obtain ⟨q', hm, h1, h2, h3⟩ := ShAt.lk h.2 hl
    refine ⟨q', by simp [hm], by rw [if_neg (fun z => hx (Sum.inr.inj z)), h1], h2, fun ws nd => ?_⟩
    rw [ptS, if_neg hx]
    refine ⟨?_, h3 ws (List.nodup_cons.mp nd).2⟩
    rw [gN fun e => by subst e; exact (List.nodup_cons.mp nd).1 hm]
    exact h.1
def RunAt.frame (R : RunAt ch p rows on ls k n t) (hf : ∀ q ∈ p.all, ch'[q]? = ch[q]?) : RunAt ch' p rows on ls k n t where
 hr := by rw [hf _ (by simp [Pl.all])]; exact R.hr
 ho := by rw [hf _ (by simp [Pl.all])]; exact R.ho
 hi := by rw [hf _ (by simp [Pl.all])]; exact R.hi
 hg := by rw [hf _ (by simp [Pl.all])]; exact R.hg
 hb := by rw [hf _ (by simp [Pl.all])]; exact R.hb
 hc := by rw [hf _ (by simp [Pl.all])]; exact R.hc
 hs := by rw [hf _ (by simp [Pl.all])]; exact R.hs
 hp := R.hp.frame fun q hq => hf q (by simp [Pl.all, hq])
 nd := R.nd
def RunAt.setR (R : RunAt ch p rows on ls k n t) (k' : Nat) (h' : Nat) (n' : Int) : RunAt (ch.set p.r (po p rows k' h' n')) p rows on ls k' n' { t with hs := h' } := by
 have nd := R.nd
 simp only [Pl.all, List.nodup_cons, List.mem_cons, not_or] at nd
 obtain ⟨⟨r1, r2, r3, r4, r5, r6, r7⟩, nd⟩ := nd
 have hl := (gX R.hr).1
 exact ⟨by simp [hl], by rw [List.getElem?_set_ne r1]; exact R.ho, by rw [List.getElem?_set_ne r2]; exact R.hi, by rw [List.getElem?_set_ne r3]; exact R.hg, by rw [List.getElem?_set_ne r4]; exact R.hb, by rw [List.getElem?_set_ne r5]; exact R.hc,
  by rw [gN r6]; exact R.hs, R.hp.frame fun q hq => cH r7 hq, R.nd⟩
def RunAt.setB (R : RunAt ch p rows on ls k n t) (l : Al) : RunAt (ch.set p.b (.dK (dI l))) p rows on ls k n { t with bx := l } := by
 have nd := R.nd
 simp only [Pl.all, List.nodup_cons, List.mem_cons, not_or] at nd
 obtain ⟨⟨r1, r2, r3, r4, r5, r6, r7⟩, ⟨o1, o2, o3, o4, o5, o6⟩, ⟨i1, i2, i3, i4, i5⟩, ⟨g1, g2, g3, g4⟩, ⟨b1, b2, b3⟩, ⟨c1, c2⟩, s1, nd⟩ := nd
 have hl := (gX R.hb).1
 exact ⟨by rw [List.getElem?_set_ne (Ne.symm r4)]; exact R.hr, by rw [List.getElem?_set_ne (Ne.symm o3)]; exact R.ho, by rw [List.getElem?_set_ne (Ne.symm i2)]; exact R.hi, by rw [List.getElem?_set_ne (Ne.symm g1)]; exact R.hg, by simp [hl], by rw [List.getElem?_set_ne b1]; exact R.hc,
  by rw [gN b2]; exact R.hs, R.hp.frame fun q hq => cH b3 hq, R.nd⟩
def RunAt.setC (R : RunAt ch p rows on ls k n t) (l : Al) : RunAt (ch.set p.c (.dK (dI l))) p rows on ls k n { t with cl := l } := by
 have nd := R.nd
 simp only [Pl.all, List.nodup_cons, List.mem_cons, not_or] at nd
 obtain ⟨⟨r1, r2, r3, r4, r5, r6, r7⟩, ⟨o1, o2, o3, o4, o5, o6⟩, ⟨i1, i2, i3, i4, i5⟩, ⟨g1, g2, g3, g4⟩, ⟨b1, b2, b3⟩, ⟨c1, c2⟩, s1, nd⟩ := nd
 have hl := (gX R.hc).1
 exact ⟨by rw [List.getElem?_set_ne (Ne.symm r5)]; exact R.hr, by rw [List.getElem?_set_ne (Ne.symm o4)]; exact R.ho, by rw [List.getElem?_set_ne (Ne.symm i3)]; exact R.hi, by rw [List.getElem?_set_ne (Ne.symm g2)]; exact R.hg, by rw [List.getElem?_set_ne (Ne.symm b1)]; exact R.hb, by simp [hl],
  by rw [gN c1]; exact R.hs, R.hp.frame fun q hq => cH c2 hq, R.nd⟩
def kM {α : Type} {x : Str} {v w : α} {l : List (Str × α)} (h : lkS l x = some v) : x ∈ l.map (·.1) := by
 induction l with
 | nil => cases h
 | cons q l ih =>
  rw [lkS] at h
  by_cases e : q.1 = x
  · simp [e]
  · rw [if_neg e] at h
    simp only [List.map_cons]
    exact List.mem_cons_of_mem _ (ih h)
def RunAt.setS (R : RunAt ch p rows on ls k n t) {x : Str} {vs : List Int} (h : lkS t.sh x = some vs) : ∃ q, q ∈ p.ps /\ lkC (dP (t.sh.map (·.1)) p.ps) (.inr x) = some (.ref q) /\ ch[q]? = some (li vs) ∧
  ∀ ws, RunAt (ch.set q (li ws)) p rows on ls k n { t with sh := ptS t.sh x ws } := by
 have nd := R.nd
 simp only [Pl.all, List.nodup_cons, List.mem_cons, not_or] at nd
 obtain ⟨⟨r1, r2, r3, r4, r5, r6, r7⟩, ⟨o1, o2, o3, o4, o5, o6⟩, ⟨i1, i2, i3, i4, i5⟩, ⟨g1, g2, g3, g4⟩, ⟨b1, b2, b3⟩, ⟨c1, c2⟩, s1, nd⟩ := nd
 obtain ⟨q, hm, h1, h2, h3⟩ := R.hp.lk h
 refine ⟨q, hm, h1, h2, fun ws => ?_⟩
 have hk : (ptS t.sh x ws).map (·.1) = t.sh.map (·.1) := by rw [dw, if_pos (kM (w := vs) h)]
 have ne : ∀ {z : Nat}, ¬ z ∈ p.ps -> q ≠ z := fun hz e => hz (e ▸ hm)
 refine ⟨by rw [gN (ne r7)]; exact R.hr, by rw [gN (ne o6)]; exact R.ho, by rw [gN (ne i5)]; exact R.hi, by rw [gN (ne g4)]; exact R.hg, by rw [gN (ne b3)]; exact R.hb, by rw [gN (ne c2)]; exact R.hc, ?_, h3 ws nd, R.nd⟩
 rw [gN (ne s1)]
 dsimp only
 rw [hk]
 exact R.hs
end
def rix {D : De} {l : List Dt} {i : Int} {d : Dt} (h : vB 1 D = some (.tup l)) (hx : atI l i = some d) : toD (d2 au (vB 1) (kD (.int i))) D = some d := by
 unfold toD d2 kD
 rw [h]
 simp only [Option.bind_some, qM, hx, Option.map_some]
 rfl
def kt {D : De} {l : List Dt} {x y : Str} {b : Bool} (h : vB 1 D = some (.tup (.str x :: l))) (e : decide (x = y) = b) : tB2 (gEq false) (toD (d2 au (vB 1) (kD (.int 0)))) (kD (.str y)) D = some b := by
 unfold tB2
 rw [show d2 (gEq false) (toD (d2 au (vB 1) (kD (.int 0)))) (kD (.str y)) D = gEq false (.str x) (.str y) by
  show ((toD (d2 au (vB 1) (kD (.int 0))) D).bind fun x => (kD (.str y) D).bind fun z => gEq false x z) = _
  rw [rix (d := .str x) h mP]
  rfl, qL, e]
 rfl
def ktn {D : De} {l : List Dt} {x y : Str} {b : Bool} (h : vB 1 D = some (.tup (.str x :: l))) (e : (!decide (x = y)) = b) : tB2 (gEq true) (toD (d2 au (vB 1) (kD (.int 0)))) (kD (.str y)) D = some b := by
 unfold tB2
 rw [show d2 (gEq true) (toD (d2 au (vB 1) (kD (.int 0)))) (kD (.str y)) D = gEq true (.str x) (.str y) by
  show ((toD (d2 au (vB 1) (kD (.int 0))) D).bind fun x => (kD (.str y) D).bind fun z => gEq true x z) = _
  rw [rix (d := .str x) h mP]
  rfl, show gEq true (.str x) (.str y) = some (.leaf (.bl (!decide (x = y)))) from rfl, e]
 rfl
section
variable {ch ch' : CH} {p : Pl} {rows : List Dt} {on : List CV} {ls : List Int} {k : Nat} {n : Int} {t : Sta}
inductive Stp (ls : List Int) (t : Sta) : Dt -> Sta -> Prop
 | load {x c : Str} {v : Int} : lkS t.cl c = some v -> Stp ls t (.tup [.str "load", .str x, .str c]) { t with bx := ptS t.bx x v }
 | store {c : Str} {a : Dt} : c ∈ t.cl.map (·.1) -> At a -> Stp ls t (.tup [.str "store", .str c, a]) { t with cl := ptS t.cl c (wo t a) }
 | take {x s : Str} {a : Dt} {vs : List Int} : lkS t.sh s = some vs -> At a -> Stp ls t (.tup [.str "take", .str x, .str s, a]) { t with bx := ptS t.bx x (vs.getD (wo t a % (vs.length : Int)).toNat 0) }
 | lay {s : Str} {a b : Dt} {vs : List Int} : lkS t.sh s = some vs -> At a -> At b -> Stp ls t (.tup [.str "lay", .str s, a, b]) { t with sh := ptS t.sh s (vs.set (wo t a % (vs.length : Int)).toNat (wo t b)) }
 | hear {x : Str} : Stp ls t (.tup [.str "hear", .str x]) { t with bx := ptS t.bx x (ls.getD t.hs 0), hs := t.hs + 1 }
 | copy {x : Str} {a : Dt} : At a -> Stp ls t (.tup [.str "copy", .str x, a]) { t with bx := ptS t.bx x (wo t a) }
def lo_q {r q : Nat} {row : Dt} {vs : List Int} {c : Str} {ns : List Str} {l : List CV} (hr : ch[r]? = some (.ins c ns l)) (hq : ch[q]? = some (li vs)) : lo [some (.ref r), some (.dat row), some (.ref q)] ch = [none, some (.leaf row), some (.lst (vs.map .int))] := by
 have hne : q ≠ r := fun z => by rw [z, hr] at hq; cases hq
 unfold lo
 simp only [loA, hr, hq, Option.bind_some, li, tvO, List.not_mem_nil, if_false, List.mem_singleton, if_neg hne, bI, Option.map_some]
def uY {r : Option T} {row : Option T} {vs : List Int} : toD (aN dA (af (vB 2) aF)) [r, row, some (.lst (vs.map .int))] = some (.int vs.length) := by
 walk_at "d"
 rw [List.length_map]
def t7 (R : RunAt ch p rows on ls k n t) : z26 [.ref p.r] ch = some (.dat (.int (ls.getD t.hs 0)), ch.set p.r (po p rows k ((t.hs + 1 : Nat) : Int) n)) := by
 unfold z26
 rw [bC]
 simp only [List.map_cons, List.map_nil, List.length_cons, List.length_nil, List.cons_append, List.nil_append, Nat.reduceAdd, Nat.reduceSub, List.replicate]
 have R' := R.setR k (t.hs + 1) n
 rw [av, aM (cD (aP rfl) R.hr rfl), am, av, ow (aP rfl) R.hr (by decide) (n := (t.hs : Int)) rfl (aJ (d := .int 1) rfl), am]
 have e1 : (CO.ins "Plain" (bO fns (pv p rows k t.hs n) "hears" (.dat (.int ((t.hs : Int) + 1)))).1 (bO fns (pv p rows k t.hs n) "hears" (.dat (.int ((t.hs : Int) + 1)))).2) = po p rows k ((t.hs + 1 : Nat) : Int) n := rfl
 show bM (bt _ [some (.ref p.r), some (.dat (.int t.hs))] (ch.set p.r (.ins "Plain" (bO fns (pv p rows k t.hs n) "hears" (.dat (.int ((t.hs : Int) + 1)))).1 (bO fns (pv p rows k t.hs n) "hears" (.dat (.int ((t.hs : Int) + 1)))).2))) = _
 rw [e1]
 have hin : eF "Plain" "incoming" (eV 0) [some (.ref p.r), some (.dat (.int t.hs))] (ch.set p.r (po p rows k ((t.hs + 1 : Nat) : Int) n)) = some (.ref p.i, _) := cD (aP rfl) R'.hr rfl
 have hv : eD (vL 1) [some (.ref p.r), some (.dat (.int t.hs))] (ch.set p.r (po p rows k ((t.hs + 1 : Nat) : Int) n)) = some (.dat (.int t.hs), _) := aJ (bz rfl)
 have hlen : eB dA (ah (eF "Plain" "incoming" (eV 0)) aB) [some (.ref p.r), some (.dat (.int t.hs))] (ch.set p.r (po p rows k ((t.hs + 1 : Nat) : Int) n)) = some (.dat (.int ls.length), ch.set p.r (po p rows k ((t.hs + 1 : Nat) : Int) n)) := by
  rw [jX (aH hin rfl) (ds := [.lst (ls.map .int)]) (by simp only [vws, vw, R'.hi, Option.bind_some, li, vwO, bI, Option.map_some]) (t := .leaf (.int ls.length)) (by show some (T.leaf (.int ((ls.map Dt.int).length))) = _; rw [List.length_map])]
  rfl
 have hc : i8 (e2 (iU fun i j => decide (i < j)) (eD (vL 1)) (eB dA (ah (eF "Plain" "incoming" (eV 0)) aB))) [some (.ref p.r), some (.dat (.int t.hs))] (ch.set p.r (po p rows k ((t.hs + 1 : Nat) : Int) n)) = some (decide ((t.hs : Int) < ls.length), ch.set p.r (po p rows k ((t.hs + 1 : Nat) : Int) n)) :=
  rh (by rw [ib hv hlen (y := .int t.hs) (z := .int ls.length) rfl rfl (t := .leaf (.bl (decide ((t.hs : Int) < ls.length)))) rfl]; rfl)
 by_cases h : t.hs < ls.length
 · rw [aX (v := .dat (.int (ls.getD t.hs 0))) (ch1 := ch.set p.r (po p rows k ((t.hs + 1 : Nat) : Int) n)) (by
    rw [ou, hc, tU (by simpa using h)]
    exact bX hin hv R'.hi (by show atI (ls.map fun v => CV.dat (.int v)) (t.hs : Int) = _; rw [bG, List.getElem?_map, gQ h, List.getD_eq_getElem?_getD, gQ h]; rfl))]
   rfl
 · rw [aX (v := .dat (.int (ls.getD t.hs 0))) (ch1 := ch.set p.r (po p rows k ((t.hs + 1 : Nat) : Int) n)) (by
    rw [ou, hc, tV (by simpa using h), List.getD_eq_getElem?_getD, List.getElem?_eq_none (by omega)]
    exact aJ rfl)]
   rfl
end
section
variable {ch ch' : CH} {p : Pl} {rows : List Dt} {on : List CV} {ls : List Int} {k : Nat} {n : Int} {t : Sta} {δ : Sl} {g g1 g2 : Fs} {ft : De -> Option Bool}
def bD (h : ft (lo δ ch) = some false) : aq (cg (tD ft) g ce) g2 δ ch = g2 δ ch := by rw [av, dB, ic h, cV]; rfl
def d5 (h : ft (lo δ ch) = some true) : aq (cg (tD ft) g1 g) g2 δ ch = d8 (g1 δ ch) g2 := by rw [av, dB, ic h, kI]
def t8 (h : ft (lo δ ch) = some true) : cg (tD ft) g1 g δ ch = g1 δ ch := by rw [dB, ic h, kI]
def pA (h : ft (lo δ ch) = some false) : cg (tD ft) g g2 δ ch = g2 δ ch := by rw [dB, ic h, cV]
def jg {x : Str} {vs : List Int} (h0 : ∀ q ∈ t.sh, 0 < q.2.length /\ q.2.length < 300) (h : lkS t.sh x = some vs) : 0 < vs.length := by
 have key : ∀ l : List (Str × List Int), lkS l x = some vs -> ∃ q ∈ l, q.2 = vs := fun l => by
  induction l with
  | nil => intro h; cases h
  | cons q l ih =>
   intro h
   rw [lkS] at h
   by_cases e : q.1 = x
   · rw [if_pos e] at h; exact ⟨q, by simp, Option.some.inj h⟩
   · rw [if_neg e] at h
     obtain ⟨z, hz, e⟩ := ih h
     exact ⟨z, by simp [hz], e⟩
 obtain ⟨q, hq, e⟩ := key _ h
 rw [<- e]
 exact (h0 q hq).1
def gf (a : Int) {m : Nat} (h : 0 < m) : 0 <= a % (m : Int) /\ a % (m : Int) < m := ⟨Int.emod_nonneg _ (by omega), Int.emod_lt_of_pos _ (by omega)⟩
def rB {vs : List Int} (a : Int) (h : 0 < vs.length) : atI (vs.map fun v => CV.dat (.int v)) (a % (vs.length : Int)) = some (.dat (.int (vs.getD (a % (vs.length : Int)).toNat 0))) := by
 obtain ⟨h0, h1⟩ := gf a h
 generalize a % (vs.length : Int) = i at h0 h1
 obtain ⟨j, rfl⟩ := Int.eq_ofNat_of_zero_le h0
 have hj : j < vs.length := by omega
 rw [bG, List.getElem?_map, gQ hj, Int.toNat_natCast, List.getD_eq_getElem?_getD, gQ hj]
 rfl
def kN {fa fb : Fg} {a : Int} {m : Nat} (h1 : fa δ ch = some (.dat (.int a), ch)) (h2 : fb δ ch = some (.dat (.int m), ch)) (h : 0 < m) : e2 bE fa fb δ ch = some (.dat (.int (a % (m : Int))), ch) := by
 rw [ib h1 h2 (y := .int a) (z := .int m) rfl rfl (eR (by omega))]
 rfl
inductive Sb (ls : List Int) (t : Sta) : List Dt -> Int -> Nat -> Prop
 | load {x c : Str} {v : Int} : lkS t.cl c = some v -> Sb ls t [.str "load", .str x, .str c] v t.hs
 | take {x s : Str} {a : Dt} {vs : List Int} : lkS t.sh s = some vs -> At a -> Sb ls t [.str "take", .str x, .str s, a] (vs.getD (wo t a % (vs.length : Int)).toNat 0) t.hs
 | hear {x : Str} : Sb ls t [.str "hear", .str x] (ls.getD t.hs 0) (t.hs + 1)
 | copy {x : Str} {a : Dt} : At a -> Sb ls t [.str "copy", .str x, a] (wo t a) t.hs
def lV (R : RunAt ch p rows on ls k n t) {a : Dt} (h : At a) {fd : De -> Option Dt} (hs : δ[0]? = some (some (.ref p.r))) (hd : fd (lo δ ch) = some a) : eM "Plain" "worth" z5 (eV 0) (ah (eD fd) aB) δ ch = some (.dat (.int (wo t a)), ch) := by
 rw [du (aP hs) R.hr (by decide +kernel) (aH (aJ hd) rfl)]
 exact rA R h
def wU (R : RunAt ch p rows on ls k n t) (h0 : ∀ q ∈ t.sh, 0 < q.2.length /\ q.2.length < 300) {l : List Dt} {v : Int} {h' : Nat} (s : Sb ls t l v h') : ∃ ch', q36 [.ref p.r, .dat (.tup l)] ch = some (.dat (.int v), ch') /\ (ch' = ch ∨ ch' = ch.set p.r (po p rows k (h' : Int) n)) /\ RunAt ch' p rows on ls k n { t with hs := h' } := by
 unfold q36
 rw [bC]
 simp only [List.map_cons, List.map_nil, List.length_cons, List.length_nil, List.cons_append, List.nil_append, Nat.reduceAdd, Nat.reduceSub, List.replicate]
 have hv : vB 1 (lo [some (CV.ref p.r), some (.dat (.tup l)), none] ch) = some (.tup l) := cC rfl
 cases s with
 | @copy x a ha =>
  refine ⟨ch, ?_, .inl rfl, R⟩
  rw [d5 (kt hv (by decide +kernel)), aX (lV R ha rfl (rix hv rfl))]
  rfl
 | @load x c v h =>
  refine ⟨ch, ?_, .inl rfl, R⟩
  rw [bD (kt hv (by decide +kernel)), bD (kt hv (by decide +kernel)), d5 (kt hv (by decide +kernel)),
   aX (bX (cD (aP rfl) R.hr rfl) (aJ (rix hv rfl)) R.hc (x := .dat (.int v)) (by show lkC (dI t.cl) (.inr c) = _; rw [ie, h]; rfl))]
  rfl
 | @take x s a vs h ha =>
  refine ⟨ch, ?_, .inl rfl, R⟩
  obtain ⟨q, hm, h1, h2, _⟩ := R.setS h
  have hl := lo_q (row := .tup [.str "take", .str x, .str s, a]) R.hr h2
  have hv2 : vB 1 (lo [some (CV.ref p.r), some (.dat (.tup [.str "take", .str x, .str s, a])), some (.ref q)] ch) = some (.tup [.str "take", .str x, .str s, a]) := cC rfl
  rw [bD (kt hv (by decide +kernel)), bD (kt hv (by decide +kernel)), bD (kt hv (by decide +kernel)), d5 (kt hv (by decide +kernel)),
   av, aM (bX (cD (aP rfl) R.hr rfl) (aJ (d := .str s) (rix hv rfl)) R.hs (x := .ref q) (show ixO (.dK (dP (t.sh.map (·.1)) p.ps)) (.str s) = some (.ref q) from h1)), am]
  show bM (d8 (bt _ [some (.ref p.r), some (.dat (.tup [.str "take", .str x, .str s, a])), some (.ref q)] ch) _) = _
  rw [aX (bX (aP rfl) (kN (lV R ha rfl (rix hv2 rfl)) (aJ (by rw [hl]; exact uY)) (jg h0 h)) h2 (rB (wo t a) (jg h0 h)))]
  rfl
 | @hear x =>
  refine ⟨_, ?_, .inr rfl, R.setR k (t.hs + 1) n⟩
  rw [bD (kt hv (by decide +kernel)), bD (kt hv (by decide +kernel)), bD (kt hv (by decide +kernel)), bD (kt hv (by decide +kernel)),
   aX (by rw [du (aP rfl) R.hr (by decide +kernel) rfl]; exact t7 R)]
  rfl
end
section
variable {ch ch' : CH} {p : Pl} {rows : List Dt} {on : List CV} {ls : List Int} {k : Nat} {n : Int} {t t' : Sta} {δ : Sl}
structure Loc (p : Pl) (ch ch' : CH) : Prop where
 out : ∀ q, q ∉ p.all -> ch'[q]? = ch[q]?
 len : ch'.length = ch.length
def Loc.set {q : Nat} {o : CO} (h : q ∈ p.all) : Loc p ch (ch.set q o) := ⟨fun z hz => gN fun e => by subst e; exact hz h, List.length_set⟩
def Loc.trans {ch1 ch2 ch3 : CH} (a : Loc p ch1 ch2) (b : Loc p ch2 ch3) : Loc p ch1 ch3 := ⟨fun q hq => (b.out q hq).trans (a.out q hq), b.len.trans a.len⟩
structure Wf (m : Nat) (t : Sta) : Prop where
 bn : (t.bx.map (·.1)).Nodup
 bl : t.bx.length <= m
 cn : (t.cl.map (·.1)).Nodup
 cz : t.cl.length < 300
 s0 : ∀ p ∈ t.sh, 0 < p.2.length /\ p.2.length < 300
def wV {f g : De -> Option Bool} {D : De} (h1 : f D = some true) (h2 : g D = some true) : qr f g D = some true := by
 unfold qr
 rw [h1]
 simp only [Option.bind_some, if_true, h2]
def rC {vs : List Int} {i v : Int} (h0 : 0 <= i) (h1 : i < vs.length) : lG (li vs) (.int i) (.dat (.int v)) = some (li (vs.set i.toNat v)) := by
 unfold lG li
 simp only [asI, Option.bind_some]
 unfold ixN
 rw [if_pos h0, List.length_map, if_pos h1]
 simp only [Option.map_some, List.map_set]
def iA (R : RunAt ch p rows on ls k n t) {m : Nat} (w : Wf m t) (hm : m < 300) {x : Str} {y : Str} {l : List Dt} {v : Int} {h' : Nat} (s : Sb ls t (.str y :: .str x :: l) v h')
  (e1 : decide (y = "store") = false) (e2 : decide (y = "lay") = false) (e3 : decide (y = "say") = false) (e4 : decide (y = "if") = false) (e5 : decide (y = "go") = false) :
  ∃ ch', z20 [.ref p.r, .dat (.tup (.str y :: .str x :: l))] ch = some (.dat .non, ch') /\ RunAt ch' p rows on ls k n { t with bx := ptS t.bx x v, hs := h' } /\ Loc p ch ch' := by
 unfold z20
 rw [bC]
 simp only [List.map_cons, List.map_nil, List.length_cons, List.length_nil, List.cons_append, List.nil_append, Nat.reduceAdd, Nat.reduceSub, List.replicate]
 have hv : vB 1 (lo [some (CV.ref p.r), some (.dat (.tup (.str y :: .str x :: l))), none] ch) = some (.tup (.str y :: .str x :: l)) := cC rfl
 obtain ⟨ch1, h1, h2, R1⟩ := wU R w.s0 s
 have hv1 : vB 1 (lo [some (CV.ref p.r), some (.dat (.tup (.str y :: .str x :: l))), none] ch1) = some (.tup (.str y :: .str x :: l)) := cC rfl
 rw [pA (kt hv e1), pA (kt hv e2), pA (kt hv e3), t8 (wV (ktn hv (by rw [e4]; rfl)) (ktn hv (by rw [e5]; rfl)))]
 rw [cw (v := .dat (.int v)) (ch1 := ch1) (by rw [du (aP rfl) R.hr (by decide +kernel) (aH (aJ (bz rfl)) rfl)]; exact h1) (cD (aP rfl) R1.hr rfl) (aJ (d := .str x) (rix hv1 (by rw [uK]; rfl))) R1.hb (jf (l := t.bx) (by have := w.bl; omega) w.bn), gz]
 refine ⟨_, rfl, R1.setB _, ?_⟩
 rcases h2 with rfl | rfl
 · exact Loc.set (by simp [Pl.all])
 · exact (Loc.set (by simp [Pl.all])).trans (Loc.set (by simp [Pl.all]))
def xT (R : RunAt ch p rows on ls k n t) {m : Nat} (w : Wf m t) (hm : m < 300) {row : Dt} (s : Stp ls t row t') : ∃ ch', z20 [.ref p.r, .dat row] ch = some (.dat .non, ch') /\ RunAt ch' p rows on ls k n t' /\ Loc p ch ch' := by
 cases s with
 | load h => exact iA R w hm (.load h) (by decide +kernel) (by decide +kernel) (by decide +kernel) (by decide +kernel) (by decide +kernel)
 | take h ha => exact iA R w hm (.take h ha) (by decide +kernel) (by decide +kernel) (by decide +kernel) (by decide +kernel) (by decide +kernel)
 | hear => exact iA R w hm .hear (by decide +kernel) (by decide +kernel) (by decide +kernel) (by decide +kernel) (by decide +kernel)
 | copy ha => exact iA R w hm (.copy ha) (by decide +kernel) (by decide +kernel) (by decide +kernel) (by decide +kernel) (by decide +kernel)
 | @store c a hc ha =>
  unfold z20
  rw [bC]
  simp only [List.map_cons, List.map_nil, List.length_cons, List.length_nil, List.cons_append, List.nil_append, Nat.reduceAdd, Nat.reduceSub, List.replicate]
  have hv : vB 1 (lo [some (CV.ref p.r), some (.dat (.tup [.str "store", .str c, a])), none] ch) = some (.tup [.str "store", .str c, a]) := cC rfl
  rw [t8 (kt hv (by decide +kernel)), cw (lV R ha rfl (rix hv rfl)) (cD (aP rfl) R.hr rfl) (aJ (d := .str c) (rix hv rfl)) R.hc (jf (l := t.cl) (by have := w.cz; omega) w.cn), gz]
  exact ⟨_, rfl, R.setC _, Loc.set (by simp [Pl.all])⟩
 | @lay s a b vs h ha hb =>
  unfold z20
  rw [bC]
  simp only [List.map_cons, List.map_nil, List.length_cons, List.length_nil, List.cons_append, List.nil_append, Nat.reduceAdd, Nat.reduceSub, List.replicate]
  have hv : vB 1 (lo [some (CV.ref p.r), some (.dat (.tup [.str "lay", .str s, a, b])), none] ch) = some (.tup [.str "lay", .str s, a, b]) := cC rfl
  obtain ⟨q, hq, h1, h2, h3⟩ := R.setS h
  have hl := lo_q (row := .tup [.str "lay", .str s, a, b]) R.hr h2
  have hv2 : vB 1 (lo [some (CV.ref p.r), some (.dat (.tup [.str "lay", .str s, a, b])), some (.ref q)] ch) = some (.tup [.str "lay", .str s, a, b]) := cC rfl
  have hz := jg w.s0 h
  obtain ⟨m0, m1⟩ := gf (wo t a) hz
  rw [pA (kt hv (by decide +kernel)), t8 (kt hv (by decide +kernel)), av, aM (bX (cD (aP rfl) R.hr rfl) (aJ (d := .str s) (rix hv rfl)) R.hs (x := .ref q) (show ixO (.dK (dP (t.sh.map (·.1)) p.ps)) (.str s) = some (.ref q) from h1)), am]
  show ∃ ch', bM (cS _ _ _ [some (.ref p.r), some (.dat (.tup [.str "lay", .str s, a, b])), some (.ref q)] ch) = _ /\ _
  rw [cw (lV R hb rfl (rix hv2 rfl)) (aP rfl) (kN (lV R ha rfl (rix hv2 rfl)) (aJ (by rw [hl]; exact uY)) hz) h2 (rC m0 m1), gz]
  exact ⟨_, rfl, h3 _, Loc.set (by simp [Pl.all, hq])⟩
end
section
variable {ch ch' : CH} {p : Pl} {rows : List Dt} {on : List CV} {ls : List Int} {k : Nat} {n : Int} {t t' : Sta} {δ : Sl}
def Stp.kind {row : Dt} (s : Stp ls t row t') : ∃ y l, row = .tup (.str y :: l) /\ decide (y = "end") = false /\ decide (y = "if") = false := by
 cases s <;> exact ⟨_, _, rfl, by decide +kernel, by decide +kernel⟩
def t9 {vs : List Int} {i : Nat} {v : Int} {sh : List (Str × List Int)} {x : Str} (hl : lkS sh x = some vs) (h : ∀ q ∈ sh, 0 < q.2.length /\ q.2.length < 300) : ∀ q ∈ ptS sh x (vs.set i v), 0 < q.2.length /\ q.2.length < 300 := by
 induction sh with
 | nil => cases hl
 | cons s sh ih =>
  rw [lkS] at hl
  rw [ptS]
  by_cases e : s.1 = x
  · rw [if_pos e] at hl ⊢
    cases hl
    intro q hq
    rcases List.mem_cons.mp hq with rfl | hq
    · have := h s (by simp)
      simpa using this
    · exact h q (by simp [hq])
  · rw [if_neg e] at hl ⊢
    intro q hq
    rcases List.mem_cons.mp hq with rfl | hq
    · exact h _ (by simp)
    · exact ih hl (fun z hz => h z (by simp [hz])) q hq
def Stp.wf {row : Dt} {m : Nat} (s : Stp ls t row t') (w : Wf m t) : Wf (m + 1) t' := by
 cases s with
 | load h => exact ⟨lU w.bn, Nat.le_trans (kL _ _ _) (Nat.succ_le_succ w.bl), w.cn, w.cz, w.s0⟩
 | take h ha => exact ⟨lU w.bn, Nat.le_trans (kL _ _ _) (Nat.succ_le_succ w.bl), w.cn, w.cz, w.s0⟩
 | hear => exact ⟨lU w.bn, Nat.le_trans (kL _ _ _) (Nat.succ_le_succ w.bl), w.cn, w.cz, w.s0⟩
 | copy ha => exact ⟨lU w.bn, Nat.le_trans (kL _ _ _) (Nat.succ_le_succ w.bl), w.cn, w.cz, w.s0⟩
 | @store c a hc ha =>
  refine ⟨w.bn, Nat.le_succ_of_le w.bl, lU w.cn, ?_, w.s0⟩
  have := congrArg List.length (dw c (wo t a) t.cl)
  rw [if_pos hc] at this
  simp only [List.length_map] at this
  dsimp only
  rw [this]
  exact w.cz
 | @lay s a b vs h ha hb => exact ⟨w.bn, Nat.le_succ_of_le w.bl, w.cn, w.cz, t9 h w.s0⟩
def Stp.cl_keys {row : Dt} (s : Stp ls t row t') : t'.cl.map (·.1) = t.cl.map (·.1) := by
 cases s with
 | store hc ha => dsimp only; rw [dw, if_pos hc]
 | load | take | hear | copy | lay => rfl
def Stp.sh_keys {row : Dt} (s : Stp ls t row t') : t'.sh.map (·.1) = t.sh.map (·.1) := by
 cases s with
 | @lay s a b vs h ha hb => dsimp only; rw [dw, if_pos (kM (w := vs) h)]
 | load | take | hear | copy | store => rfl
def Row.stp {row : Dt} (r : Row (t.cl.map (·.1)) (t.sh.map (·.1)) row) : ∃ t', Stp ls t row t' := by
 cases r with
 | load h => obtain ⟨v, e⟩ := g8 h; exact ⟨_, .load e⟩
 | store h ha => exact ⟨_, .store h ha⟩
 | take h ha => obtain ⟨v, e⟩ := g8 h; exact ⟨_, .take e ha⟩
 | lay h ha hb => obtain ⟨v, e⟩ := g8 h; exact ⟨_, .lay e ha hb⟩
 | hear => exact ⟨_, .hear⟩
 | copy ha => exact ⟨_, .copy ha⟩
def rD (R : RunAt ch p rows on ls k n t) : y31 [.ref p.r] ch = some (.dat (.bl false), ch) := by
 unfold y31
 rw [bC]
 simp only [List.map_cons, List.map_nil, List.length_cons, List.length_nil, List.cons_append, List.nil_append, Nat.reduceAdd, Nat.reduceSub, List.replicate]
 rw [aX (v := .dat (.bl false)) (ch1 := ch) (by rw [ib (cD (x := .dat .non) (aP rfl) R.hr rfl) (aJ (d := .non) rfl) (y := .non) (z := .non) rfl rfl (t := .leaf (.bl false)) rfl]; rfl)]
 rfl
def pB (R : RunAt ch p rows on ls k n t) {y : Str} {l : List Dt} (hy : decide (y = "if") = false) {m : Int} (ho : on[k]? = some (.dat (.tup [.int m]))) : q22 [.ref p.r, .dat (.tup (.str y :: l))] ch = some (.dat (.int m), ch) := by
 unfold q22
 rw [bC]
 simp only [List.map_cons, List.map_nil, List.length_cons, List.length_nil, List.cons_append, List.nil_append, Nat.reduceAdd, Nat.reduceSub, List.replicate]
 rw [av, aM (bX (cD (aP rfl) R.hr rfl) (cD (x := .dat (.int k)) (aP rfl) R.hr rfl) R.ho (x := .dat (.tup [.int m])) (by show atI on (k : Int) = _; rw [bG]; exact ho)), am]
 show bM (aq _ _ [some (.ref p.r), some (.dat (.tup (.str y :: l))), some (.dat (.tup [.int m]))] ch) = _
 have hv : vB 1 (lo [some (CV.ref p.r), some (.dat (.tup (.str y :: l))), some (.dat (.tup [.int m]))] ch) = some (.tup (.str y :: l)) := cC rfl
 have hv2 : vB 2 (lo [some (CV.ref p.r), some (.dat (.tup (.str y :: l))), some (.dat (.tup [.int m]))] ch) = some (.tup [.int m]) := cC rfl
 rw [av, dB]
 have e : ∀ g : Ft, lJ (tD (tB2 (gEq false) (toD (d2 au (vB 1) (kD (.int 0)))) (kD (.str "if")))) g [some (CV.ref p.r), some (.dat (.tup (.str y :: l))), some (.dat (.tup [.int m]))] ch = some (false, ch) := fun g => by
  unfold lJ
  rw [ic (kt hv hy)]
  rfl
 rw [e, cV]
 show bM (d8 (some (.nx _ ch)) _) = _
 rw [am, aX (aJ (d := .int m) (by unfold toD d2 kD; rw [hv2]; rfl))]
 rfl
def ua (R : RunAt ch p rows on ls k n t) {m : Nat} (w : Wf m t) (hm : m < 300) {row : Dt} (s : Stp ls t row t') (hrow : rows[k]? = some row) (ho : on[k]? = some (.dat (.tup [.int ((k + 1 : Nat) : Int)]))) :
  ∃ ch', z42 [.ref p.r] ch = some (.dat .non, ch') /\ RunAt ch' p rows on ls (k + 1) (n + 1) t' /\ Loc p ch ch' := by
 unfold z42
 rw [bC]
 simp only [List.map_cons, List.map_nil, List.length_cons, List.length_nil, List.cons_append, List.nil_append, Nat.reduceAdd, Nat.reduceSub, List.replicate]
 obtain ⟨y, l, rfl, k1, k2⟩ := s.kind
 have e0 : eM "Plain" "ended" y31 (eV 0) aB [some (.ref p.r), none] ch = some (.dat (.bl false), ch) := by
  rw [du (aP rfl) R.hr (by decide +kernel) rfl]
  exact rD R
 rw [av, dB, gA e0, cV]
 show ∃ ch', bM (d8 (some (.nx _ ch)) _) = _ /\ _
 rw [am, av, aM (tW (cD (x := .dat (.tup rows)) (aP rfl) R.hr rfl) (cD (x := .dat (.int k)) (aP rfl) R.hr rfl) (e := .tup (.str y :: l)) (by show (atI rows (k : Int)).map T.leaf = _; rw [bG, hrow]; rfl)), am]
 show ∃ ch', bM (aq _ _ [some (.ref p.r), some (.dat (.tup (.str y :: l)))] ch) = _ /\ _
 rw [av, ow (aP rfl) R.hr (by decide) (n := n) rfl (aJ (d := .int 1) rfl), am]
 have R1 := R.setR k t.hs (n + 1)
 show ∃ ch', bM (cg _ _ _ [some (.ref p.r), some (.dat (.tup (.str y :: l)))] (ch.set p.r (po p rows k t.hs (n + 1)))) = _ /\ _
 generalize hc1 : ch.set p.r (po p rows k t.hs (n + 1)) = ch1 at R1
 have hv : vB 1 (lo [some (CV.ref p.r), some (.dat (.tup (.str y :: l)))] ch1) = some (.tup (.str y :: l)) := cC rfl
 obtain ⟨ch2, h2, R2, L2⟩ := xT (t := t) R1 w hm s
 rw [pA (kt hv k1), av, g6 (by rw [du (aP rfl) R1.hr (by decide +kernel) (aH (aJ (bz rfl)) rfl)]; exact h2), am]
 rw [lQ (v := .dat (.int ((k + 1 : Nat) : Int))) (ch1 := ch2) (by rw [du (aP rfl) R2.hr (by decide +kernel) (aH (aJ (bz rfl)) rfl)]; exact pB R2 k2 ho) (aP rfl) R2.hr (by decide), gz]
 refine ⟨_, rfl, R2.setR (k + 1) t'.hs (n + 1), ?_⟩
 have L1 : Loc p ch ch1 := by rw [<- hc1]; exact Loc.set (by simp [Pl.all])
 exact (L1.trans L2).trans (Loc.set (by simp [Pl.all]))
end
def ip {D : De} {l : List Dt} {i : Int} {d : Dt} (h : vB 0 D = some (.tup l)) (hx : atI l i = some d) : toD (d2 au (vB 0) (kD (.int i))) D = some d := by
 unfold toD d2 kD
 rw [h]
 simp only [Option.bind_some, qM, hx, Option.map_some]
 rfl
def ub {D : De} {x : Dt} {l : List Dt} {d : Dt} (h : vB 0 D = some (.tup (x :: l))) (hx : (x :: l)[l.length]? = some d) : toD (d2 au (vB 0) (toD (im (kD (.int 1))))) D = some d := by
 have e : toD (im (kD (.int 1))) D = some (.int (-1)) := rfl
 show (((vB 0 D).bind fun x => (toD (im (kD (.int 1))) D).bind fun y => au x y).map T.d) = _
 rw [h, e]
 simp only [Option.bind_some, qM, qQ, hx, Option.map_some]
 rfl
def kt0 {D : De} {l : List Dt} {x y : Str} {b : Bool} (h : vB 0 D = some (.tup (.str x :: l))) (e : decide (x = y) = b) : tB2 (gEq false) (toD (d2 au (vB 0) (kD (.int 0)))) (kD (.str y)) D = some b := by
 unfold tB2
 rw [show d2 (gEq false) (toD (d2 au (vB 0) (kD (.int 0)))) (kD (.str y)) D = gEq false (.str x) (.str y) by
  show ((toD (d2 au (vB 0) (kD (.int 0))) D).bind fun x => (kD (.str y) D).bind fun z => gEq false x z) = _
  rw [ip (d := .str x) h mP]
  rfl, qL, e]
 rfl
structure Nl where
 (n b c s l : Nat)
 ps : List Nat
def Nl.all (q : Nl) : List Nat := q.n :: q.b :: q.c :: q.s :: q.l :: q.ps
def nd' (q : Nl) (h : Int) : List (Key × CV) := [(.inr "boxes", .ref q.b), (.inr "cells", .ref q.c), (.inr "shelves", .ref q.s), (.inr "letters", .ref q.l), (.inr "heard", .dat (.int h))]
def no (q : Nl) (h : Int) : CO := .dK (nd' q h)
structure NowAt (ch : CH) (q : Nl) (ls : List Int) (t : Sta) : Prop where
 hn : ch[q.n]? = some (no q t.hs)
 hb : ch[q.b]? = some (.dK (dI t.bx))
 hc : ch[q.c]? = some (.dK (dI t.cl))
 hs : ch[q.s]? = some (.dK (dP (t.sh.map (·.1)) q.ps))
 hl : ch[q.l]? = some (li ls)
 hp : ShAt ch q.ps t.sh
 nd : q.all.Nodup
structure Loc2 (ps : List Nat) (ch ch' : CH) : Prop where
 out : ∀ q, q < ch.length -> q ∉ ps -> ch'[q]? = ch[q]?
 len : ch.length <= ch'.length
section
variable {ch ch' : CH} {q : Nl} {ls : List Int} {t t' : Sta} {δ : Sl}
def Loc2.set {ps : List Nat} {i : Nat} {o : CO} (h : i ∈ ps) : Loc2 ps ch (ch.set i o) := ⟨fun z _ hz => gN fun e => by subst e; exact hz h, by rw [List.length_set]; exact nL _⟩
def Loc2.trans {ps : List Nat} {ch1 ch2 ch3 : CH} (a : Loc2 ps ch1 ch2) (b : Loc2 ps ch2 ch3) : Loc2 ps ch1 ch3 := ⟨fun q hq hm => (b.out q (Nat.lt_of_lt_of_le hq a.len) hm).trans (a.out q hq hm), Nat.le_trans a.len b.len⟩
def Loc2.app {ps : List Nat} {g : CH} : Loc2 ps ch (ch ++ g) := ⟨fun q hq _ => List.getElem?_append_left hq, by simp⟩
def ShAt.app {g : CH} : ∀ {ps : List Nat} {sh : List (Str × List Int)}, ShAt ch ps sh -> ShAt (ch ++ g) ps sh
 | [], [], _ => trivial
 | [], _ :: _, h => h.elim
 | _ :: _, [], h => h.elim
 | q :: ps, s :: sh, h => ⟨bm h.1, ShAt.app h.2⟩
def NowAt.app {g : CH} (N : NowAt ch q ls t) : NowAt (ch ++ g) q ls t := ⟨bm N.hn, bm N.hb, bm N.hc, bm N.hs, bm N.hl, N.hp.app, N.nd⟩
def RunAt.app {p : Pl} {rows : List Dt} {on : List CV} {k : Nat} {n : Int} {g : CH} (R : RunAt ch p rows on ls k n t) : RunAt (ch ++ g) p rows on ls k n t := ⟨bm R.hr, bm R.ho, bm R.hi, bm R.hg, bm R.hb, bm R.hc, bm R.hs, R.hp.app, R.nd⟩
def NowAt.frame (N : NowAt ch q ls t) (hf : ∀ z ∈ q.all, ch'[z]? = ch[z]?) : NowAt ch' q ls t where
 hn := by rw [hf _ (by simp [Nl.all])]; exact N.hn
 hb := by rw [hf _ (by simp [Nl.all])]; exact N.hb
 hc := by rw [hf _ (by simp [Nl.all])]; exact N.hc
 hs := by rw [hf _ (by simp [Nl.all])]; exact N.hs
 hl := by rw [hf _ (by simp [Nl.all])]; exact N.hl
 hp := N.hp.frame fun z hz => hf z (by simp [Nl.all, hz])
 nd := N.nd
def NowAt.setN (N : NowAt ch q ls t) (h' : Nat) : NowAt (ch.set q.n (no q (h' : Nat))) q ls { t with hs := h' } := by
 have nd := N.nd
 simp only [Nl.all, List.nodup_cons, List.mem_cons, not_or] at nd
 obtain ⟨⟨n1, n2, n3, n4, n5⟩, nd⟩ := nd
 have hl := (gX N.hn).1
 exact ⟨by simp [hl], by rw [List.getElem?_set_ne n1]; exact N.hb, by rw [List.getElem?_set_ne n2]; exact N.hc, by rw [List.getElem?_set_ne n3]; exact N.hs, by rw [List.getElem?_set_ne n4]; exact N.hl, N.hp.frame fun z hz => cH n5 hz, N.nd⟩
def NowAt.setB (N : NowAt ch q ls t) (l : Al) : NowAt (ch.set q.b (.dK (dI l))) q ls { t with bx := l } := by
 have nd := N.nd
 simp only [Nl.all, List.nodup_cons, List.mem_cons, not_or] at nd
 obtain ⟨⟨n1, n2, n3, n4, n5⟩, ⟨b1, b2, b3, b4⟩, ⟨c1, c2, c3⟩, ⟨s1, s2⟩, l1, nd⟩ := nd
 have hl := (gX N.hb).1
 exact ⟨by rw [List.getElem?_set_ne (Ne.symm n1)]; exact N.hn, by simp [hl], by rw [List.getElem?_set_ne b1]; exact N.hc, by rw [List.getElem?_set_ne b2]; exact N.hs, by rw [List.getElem?_set_ne b3]; exact N.hl, N.hp.frame fun z hz => cH b4 hz, N.nd⟩
def NowAt.setC (N : NowAt ch q ls t) (l : Al) : NowAt (ch.set q.c (.dK (dI l))) q ls { t with cl := l } := by
 have nd := N.nd
 simp only [Nl.all, List.nodup_cons, List.mem_cons, not_or] at nd
 obtain ⟨⟨n1, n2, n3, n4, n5⟩, ⟨b1, b2, b3, b4⟩, ⟨c1, c2, c3⟩, ⟨s1, s2⟩, l1, nd⟩ := nd
 have hl := (gX N.hc).1
 exact ⟨by rw [List.getElem?_set_ne (Ne.symm n2)]; exact N.hn, by rw [List.getElem?_set_ne (Ne.symm b1)]; exact N.hb, by simp [hl], by rw [List.getElem?_set_ne c1]; exact N.hs, by rw [List.getElem?_set_ne c2]; exact N.hl, N.hp.frame fun z hz => cH c3 hz, N.nd⟩
def NowAt.setS (N : NowAt ch q ls t) {x : Str} {vs : List Int} (h : lkS t.sh x = some vs) : ∃ z, z ∈ q.ps /\ lkC (dP (t.sh.map (·.1)) q.ps) (.inr x) = some (.ref z) /\ ch[z]? = some (li vs) ∧
  ∀ ws, NowAt (ch.set z (li ws)) q ls { t with sh := ptS t.sh x ws } := by
 have nd := N.nd
 simp only [Nl.all, List.nodup_cons, List.mem_cons, not_or] at nd
 obtain ⟨⟨n1, n2, n3, n4, n5⟩, ⟨b1, b2, b3, b4⟩, ⟨c1, c2, c3⟩, ⟨s1, s2⟩, l1, nd⟩ := nd
 obtain ⟨z, hm, h1, h2, h3⟩ := N.hp.lk h
 refine ⟨z, hm, h1, h2, fun ws => ?_⟩
 have hk : (ptS t.sh x ws).map (·.1) = t.sh.map (·.1) := by rw [dw, if_pos (kM (w := vs) h)]
 have ne : ∀ {y : Nat}, ¬ y ∈ q.ps -> z ≠ y := fun hy e => hy (e ▸ hm)
 refine ⟨by rw [gN (ne n5)]; exact N.hn, by rw [gN (ne b4)]; exact N.hb, by rw [gN (ne c3)]; exact N.hc, ?_, by rw [gN (ne l1)]; exact N.hl, h3 ws nd, N.nd⟩
 rw [gN (ne s2)]
 dsimp only
 rw [hk]
 exact N.hs
def ent {i : Nat} {x : Str} {c : CV} (N : NowAt ch q ls t) (hs : δ[i]? = some (some (.ref q.n))) (hx : lkC (nd' q t.hs) (.inr x) = some c) : eIx (eV i) (eD (kD (.str x))) δ ch = some (c, ch) := bX (aP hs) (aJ (d := .str x) rfl) N.hn hx
def pC (N : NowAt ch q ls t) {a : Dt} (h : At a) : y20 [.dat a, .ref q.n] ch = some (.dat (.int (wo t a)), ch) := by
 unfold y20
 rw [bC]
 simp only [List.map_cons, List.map_nil, List.length_cons, List.length_nil, List.cons_append, List.nil_append, Nat.reduceAdd, Nat.reduceSub, List.replicate]
 have e0 : ∀ d, vL 0 (lo [some (CV.dat d), some (.ref q.n)] ch) = some d := fun d => bz rfl
 have e1 : ∀ d, vB 0 (lo [some (CV.dat d), some (.ref q.n)] ch) = some d := fun d => cC rfl
 rcases h with ⟨j, _, rfl⟩ | ⟨x, rfl⟩
 · rw [bD (by unfold gn toD cQ; rw [e1]; rfl), aX (aJ (e0 _))]
   rfl
 · rw [d5 (by unfold gn toD cQ; rw [e1]; rfl), aX (kJ (ent N rfl (c := .ref q.b) rfl) N.hb (aJ (e0 _)) (aJ (d := .int 0) rfl) rfl), rg, kH, ie]
   show _ = some (CV.dat (.int ((lkS t.bx x).getD 0)), ch)
   cases lkS t.bx x <;> rfl
def fA (N : NowAt ch q ls t) {a : Dt} (h : At a) {fd : De -> Option Dt} (hs : δ[1]? = some (some (.ref q.n))) (hd : fd (lo δ ch) = some a) : eC y20 (ah (eD fd) (ah (eV 1) aB)) δ ch = some (.dat (.int (wo t a)), ch) := by
 rw [lP (aH (aJ hd) (aH (aP hs) rfl))]
 exact pC N h
end
section
variable {ch ch' : CH} {q : Nl} {ls : List Int} {t t' : Sta} {δ : Sl}
def lo_n {z : Nat} {row : Dt} {f : Option CV} {vs : List Int} (N : NowAt ch q ls t) (hz : ch[z]? = some (li vs)) : ∃ u w, lo [some (.dat row), some (.ref q.n), some (.ref z), f] ch = [some (.leaf row), u, some (.lst (vs.map .int)), w] := by
 have hne : z ≠ q.n := fun e => by rw [e, N.hn] at hz; cases hz
 unfold lo
 cases f with
 | none => exact ⟨_, _, by simp only [loA, hz, Option.bind_some, li, tvO, List.not_mem_nil, if_false, List.mem_singleton, if_neg hne, bI, Option.map_some]; rfl⟩
 | some c => cases c with
  | dat d => exact ⟨_, _, by simp only [loA, hz, Option.bind_some, li, tvO, List.not_mem_nil, if_false, List.mem_singleton, if_neg hne, bI, Option.map_some]; rfl⟩
  | ref j => exact ⟨_, _, by simp only [loA, hz, Option.bind_some, li, tvO, List.not_mem_nil, if_false, List.mem_singleton, if_neg hne, bI, Option.map_some]; rfl⟩
def uZ {r u w : Option T} {vs : List Int} : toD (aN dA (af (vB 2) aF)) [r, u, some (.lst (vs.map .int)), w] = some (.int vs.length) := by
 walk_at "d"
 rw [List.length_map]
def uc (ls : List Int) (h : Nat) : atI (((ls ++ [0]).map Dt.int).map CV.dat) (if (ls.length : Int) < (h : Int) then (ls.length : Int) else (h : Int)) = some (.dat (.int (ls.getD h 0))) := by
 by_cases c : h < ls.length
 · rw [if_neg (by omega), bG, List.map_map, List.getElem?_map, gL c, gQ c, List.getD_eq_getElem?_getD, gQ c]
   rfl
 · have e : (if (ls.length : Int) < (h : Int) then (ls.length : Int) else (h : Int)) = (ls.length : Int) := by split <;> omega
   rw [e, bG, List.map_map, List.getElem?_map, gR (nL _), List.getD_eq_getElem?_getD, List.getElem?_eq_none (l := ls) (by omega)]
   simp
def iB (N : NowAt ch q ls t) {m : Nat} (w : Wf m t) (hm : m < 300) {y x : Str} {l : List Dt} {v : Int} {f : Option CV} :
  cS (eIx (eV 1) (eD (kD (.str "boxes")))) (eD (toD (d2 au (vB 0) (kD (.int 1))))) (eD (vL 3)) [some (.dat (.tup (.str y :: .str x :: l))), some (.ref q.n), f, some (.dat (.int v))] ch = some (.nx [some (.dat (.tup (.str y :: .str x :: l))), some (.ref q.n), f, some (.dat (.int v))] (ch.set q.b (.dK (dI (ptS t.bx x v))))) :=
 cw (aJ (bz rfl)) (ent N rfl (c := .ref q.b) rfl) (aJ (d := .str x) (ip (cC rfl) (by rw [uK]; rfl))) N.hb (jf (l := t.bx) (by have := w.bl; omega) w.bn)
def ud (N : NowAt ch q ls t) {m : Nat} (w : Wf m t) (hm : m < 300) (hls : ls.length < 300) {row : Dt} (s : Stp ls t row t') : ∃ ch', q50 [.dat row, .ref q.n] ch = some (.dat .non, ch') /\ NowAt ch' q ls t' /\ Loc2 q.all ch ch' := by
 unfold q50
 rw [bC]
 simp only [List.map_cons, List.map_nil, List.length_cons, List.length_nil, List.cons_append, List.nil_append, Nat.reduceAdd, Nat.reduceSub, List.replicate]
 have hv : ∀ (f g : Option CV) (c : CH), vB 0 (lo [some (.dat row), some (.ref q.n), f, g] c) = some row := fun f g c => cC rfl
 cases s with
 | @store c a hc ha =>
  rw [d5 (kt0 (hv _ _ _) (by decide +kernel)), av, cw (fA N ha rfl (ip (hv _ _ _) rfl)) (ent N rfl (c := .ref q.c) rfl) (aJ (d := .str c) (ip (hv _ _ _) rfl)) N.hc (jf (l := t.cl) (by have := w.cz; omega) w.cn)]
  exact ⟨_, rfl, N.setC _, Loc2.set (by simp [Nl.all])⟩
 | @lay s a b vs h ha hb =>
  obtain ⟨z, hz, h1, h2, h3⟩ := N.setS h
  have hl := jg w.s0 h
  obtain ⟨m0, m1⟩ := gf (wo t a) hl
  obtain ⟨u, w', e⟩ := lo_n (row := .tup [.str "lay", .str s, a, b]) (f := none) N h2
  rw [bD (kt0 (hv _ _ _) (by decide +kernel)), d5 (kt0 (hv _ _ _) (by decide +kernel)), av,
   aM (bX (ent N rfl (c := .ref q.s) rfl) (aJ (d := .str s) (ip (hv _ _ _) rfl)) N.hs (x := .ref z) (show ixO (.dK (dP (t.sh.map (·.1)) q.ps)) (.str s) = some (.ref z) from h1)), am]
  show ∃ ch', bM (d8 (aq _ _ [some (.dat (.tup [.str "lay", .str s, a, b])), some (.ref q.n), some (.ref z), none] ch) _) = _ /\ _
  rw [av, cw (fA N hb rfl (ip (hv _ _ _) rfl)) (aP rfl) (kN (fA N ha rfl (ip (hv _ _ _) rfl)) (aJ (by rw [e]; exact uZ)) hl) h2 (rC m0 m1)]
  exact ⟨_, rfl, h3 _, Loc2.set (by simp [Nl.all, hz])⟩
 | @copy x a ha =>
  rw [bD (kt0 (hv _ _ _) (by decide +kernel)), bD (kt0 (hv _ _ _) (by decide +kernel)), av, aM (fA N ha rfl (ub (hv _ _ _) rfl)), am]
  show ∃ ch', bM (aq _ _ [some (.dat (.tup [.str "copy", .str x, a])), some (.ref q.n), none, some (.dat (.int (wo t a)))] ch) = _ /\ _
  rw [bD (kt0 (hv _ _ _) (by decide +kernel)), bD (kt0 (hv _ _ _) (by decide +kernel)), bD (kt0 (hv _ _ _) (by decide +kernel)), iB N w hm]
  exact ⟨_, rfl, N.setB _, Loc2.set (by simp [Nl.all])⟩
 | @load x c v h =>
  rw [bD (kt0 (hv _ _ _) (by decide +kernel)), bD (kt0 (hv _ _ _) (by decide +kernel)), av, aM (fA N (a := .str c) (.inr ⟨c, rfl⟩) rfl (ub (hv _ _ _) rfl)), am]
  show ∃ ch', bM (aq _ _ [some (.dat (.tup [.str "load", .str x, .str c])), some (.ref q.n), none, some (.dat (.int (wo t (.str c))))] ch) = _ /\ _
  rw [d5 (kt0 (hv _ _ _) (by decide +kernel)), aM (bX (ent N rfl (c := .ref q.c) rfl) (aJ (d := .str c) (ip (hv _ _ _) rfl)) N.hc (x := .dat (.int v)) (show lkC (dI t.cl) (.inr c) = _ by rw [ie, h]; rfl)), am]
  show ∃ ch', bM (aq _ _ [some (.dat (.tup [.str "load", .str x, .str c])), some (.ref q.n), none, some (.dat (.int v))] ch) = _ /\ _
  rw [bD (kt0 (hv _ _ _) (by decide +kernel)), bD (kt0 (hv _ _ _) (by decide +kernel)), iB N w hm]
  exact ⟨_, rfl, N.setB _, Loc2.set (by simp [Nl.all])⟩
 | @take x s a vs h ha =>
  obtain ⟨z, hz, h1, h2, h3⟩ := N.setS h
  have hl := jg w.s0 h
  obtain ⟨u, w', e⟩ := lo_n (row := .tup [.str "take", .str x, .str s, a]) (f := some (.dat (.int (wo t a)))) N h2
  rw [bD (kt0 (hv _ _ _) (by decide +kernel)), bD (kt0 (hv _ _ _) (by decide +kernel)), av, aM (fA N ha rfl (ub (hv _ _ _) rfl)), am]
  show ∃ ch', bM (aq _ _ [some (.dat (.tup [.str "take", .str x, .str s, a])), some (.ref q.n), none, some (.dat (.int (wo t a)))] ch) = _ /\ _
  rw [bD (kt0 (hv _ _ _) (by decide +kernel)), d5 (kt0 (hv _ _ _) (by decide +kernel)), av, aM (bX (ent N rfl (c := .ref q.s) rfl) (aJ (d := .str s) (ip (hv _ _ _) rfl)) N.hs (x := .ref z) (show ixO (.dK (dP (t.sh.map (·.1)) q.ps)) (.str s) = some (.ref z) from h1)), am]
  show ∃ ch', bM (d8 (bd 3 _ [some (.dat (.tup [.str "take", .str x, .str s, a])), some (.ref q.n), some (.ref z), some (.dat (.int (wo t a)))] ch) _) = _ /\ _
  rw [aM (bX (aP rfl) (kN (fA N ha rfl (ip (hv _ _ _) rfl)) (aJ (by rw [e]; exact uZ)) hl) h2 (rB (wo t a) hl)), am]
  show ∃ ch', bM (aq _ _ [some (.dat (.tup [.str "take", .str x, .str s, a])), some (.ref q.n), some (.ref z), some (.dat (.int (vs.getD (wo t a % (vs.length : Int)).toNat 0)))] ch) = _ /\ _
  rw [bD (kt0 (hv _ _ _) (by decide +kernel)), iB N w hm]
  exact ⟨_, rfl, N.setB _, Loc2.set (by simp [Nl.all])⟩
 | @hear x =>
  rw [bD (kt0 (hv _ _ _) (by decide +kernel)), bD (kt0 (hv _ _ _) (by decide +kernel)), av, aM (fA N (a := .str x) (.inr ⟨x, rfl⟩) rfl (ub (hv _ _ _) rfl)), am]
  show ∃ ch', bM (aq _ _ [some (.dat (.tup [.str "hear", .str x])), some (.ref q.n), none, some (.dat (.int (wo t (.str x))))] ch) = _ /\ _
  rw [bD (kt0 (hv _ _ _) (by decide +kernel)), bD (kt0 (hv _ _ _) (by decide +kernel)), d5 (kt0 (hv _ _ _) (by decide +kernel)), av]
  have N1 : NowAt (ch ++ [.lst (((ls ++ [0]).map Dt.int).map CV.dat)]) q ls t := N.app
  have e1 : e2 bV (eIx (eV 1) (eD (kD (.str "letters")))) (eD (toD (dl (af (kD (.int 0)) aF)))) [some (.dat (.tup [.str "hear", .str x])), some (.ref q.n), none, some (.dat (.int (wo t (.str x))))] ch = some (.ref ch.length, ch ++ [.lst (((ls ++ [0]).map Dt.int).map CV.dat)]) := by
   rw [ib (ent N rfl (c := .ref q.l) rfl) (aJ (d := .lst [.int 0]) rfl) (y := .lst (ls.map .int)) (z := .lst [.int 0]) (by simp only [vw, N.hl, Option.bind_some, li, vwO, bI, Option.map_some]) rfl (n0 (by simp; omega)), List.map_append]
   rfl
  have e2' : eB dA (ah (eIx (eV 1) (eD (kD (.str "letters")))) aB) [some (.dat (.tup [.str "hear", .str x])), some (.ref q.n), none, some (.dat (.int (wo t (.str x))))] (ch ++ [.lst (((ls ++ [0]).map Dt.int).map CV.dat)]) = some (.dat (.int ls.length), ch ++ [.lst (((ls ++ [0]).map Dt.int).map CV.dat)]) := by
   rw [jX (aH (ent N1 rfl (c := .ref q.l) rfl) rfl) (ds := [.lst (ls.map .int)]) (by simp only [vws, vw, N1.hl, Option.bind_some, li, vwO, bI, Option.map_some]) (t := .leaf (.int ls.length)) (by show some (T.leaf (.int ((ls.map Dt.int).length))) = _; rw [List.length_map])]
   rfl
  have e3 : eB tR (ah (eIx (eV 1) (eD (kD (.str "heard")))) (ah (eB dA (ah (eIx (eV 1) (eD (kD (.str "letters")))) aB)) aB)) [some (.dat (.tup [.str "hear", .str x])), some (.ref q.n), none, some (.dat (.int (wo t (.str x))))] (ch ++ [.lst (((ls ++ [0]).map Dt.int).map CV.dat)]) = some (.dat (.int (if (ls.length : Int) < (t.hs : Int) then (ls.length : Int) else (t.hs : Int))), ch ++ [.lst (((ls ++ [0]).map Dt.int).map CV.dat)]) := by
   rw [jX (aH (ent N1 rfl (c := .dat (.int t.hs)) rfl) (aH e2' rfl)) (ds := [.int t.hs, .int ls.length]) rfl rfl]
   rfl
  rw [aM (bX e1 e3 dj (uc ls t.hs)), am]
  show ∃ ch', bM (d8 (cS _ _ _ [some (.dat (.tup [.str "hear", .str x])), some (.ref q.n), none, some (.dat (.int (ls.getD t.hs 0)))] (ch ++ [.lst (((ls ++ [0]).map Dt.int).map CV.dat)])) _) = _ /\ _
  rw [cw (v := .dat (.int ((t.hs + 1 : Nat) : Int))) (ch1 := ch ++ [.lst (((ls ++ [0]).map Dt.int).map CV.dat)]) (by rw [ib (ent N1 rfl (c := .dat (.int t.hs)) rfl) (aJ (d := .int 1) rfl) (y := .int t.hs) (z := .int 1) rfl rfl wl]; rfl) (aP rfl) (aJ (d := .str "heard") rfl) N1.hn (o' := no q ((t.hs + 1 : Nat) : Int)) rfl, am]
  have N2 := N1.setN (t.hs + 1)
  rw [iB N2 ⟨w.bn, w.bl, w.cn, w.cz, w.s0⟩ hm]
  exact ⟨_, rfl, N2.setB _, (Loc2.app.trans (Loc2.set (by simp [Nl.all]))).trans (Loc2.set (by simp [Nl.all]))⟩
end
def oC (vs : List Int) : eqD (.lst (vs.map .int)) (.lst (vs.map .int)) = some true := by
 have h1 : ∀ vs : List Int, eu (vs.map .int) (vs.map .int) = true := fun vs => by
  induction vs with
  | nil => rfl
  | cons v vs ih => simp -implicitDefEqProofs only [List.map_cons, eu, ih, Bool.and_true]; rfl
 have h2 : ∀ vs : List Int, cZ (vs.map .int) = 0 := fun vs => by
  induction vs with
  | nil => rfl
  | cons v vs ih => simp -implicitDefEqProofs only [List.map_cons, cZ, gl, ih]; rfl
 have h3 : ∀ vs : List Int, dz (vs.map .int) (vs.map .int) = true := fun vs => by
  induction vs with
  | nil => rfl
  | cons v vs ih => simp -implicitDefEqProofs only [List.map_cons, dz, peq, ih, Bool.and_true, beq_self_eq_true]
 rw [xK (by rw [h1, h2]; rfl), h3]
def jh (i : Int) : z24 [.int i, .int i] = some (.leaf (.bl true)) := by
 unfold z24
 walk_at "d"
section
variable {ch ch' : CH} {p : Pl} {q : Nl} {rows : List Dt} {on : List CV} {ls : List Int} {k : Nat} {n : Int} {t t' : Sta} {δ : Sl}
def rE {i : Nat} {x : Str} {c : CV} {h : Int} (hn : ch[q.n]? = some (no q h)) (hs : δ[i]? = some (some (.ref q.n))) (hx : lkC (nd' q h) (.inr x) = some c) : eIx (eV i) (eD (kD (.str x))) δ ch = some (c, ch) := bX (aP hs) (aJ (d := .str x) rfl) hn hx
def ue (R : RunAt ch p rows on ls k n t) {x : Str} {v : Int} (h : lkS t.cl x = some v) : z30 [.ref p.r, .dat (.str x)] ch = some (.dat (.int v), ch) := by
 unfold z30
 rw [bC]
 simp only [List.map_cons, List.map_nil, List.length_cons, List.length_nil, List.cons_append, List.nil_append, Nat.reduceAdd, Nat.reduceSub, List.replicate]
 rw [aX (bX (cD (aP rfl) R.hr rfl) (aJ (d := .str x) (bz rfl)) R.hc (x := .dat (.int v)) (show lkC (dI t.cl) (.inr x) = _ by rw [ie, h]; rfl))]
 rfl
def rF (R : RunAt ch p rows on ls k n t) {x : Str} {vs : List Int} (h : lkS t.sh x = some vs) : y39 [.ref p.r, .dat (.str x)] ch = some (.ref ch.length, ch ++ [li vs]) := by
 obtain ⟨z, hz, h1, h2, _⟩ := R.setS h
 unfold y39
 rw [bC]
 simp only [List.map_cons, List.map_nil, List.length_cons, List.length_nil, List.cons_append, List.nil_append, Nat.reduceAdd, Nat.reduceSub, List.replicate]
 rw [aX (v := .ref ch.length) (ch1 := ch ++ [li vs]) (by
  rw [jX (aH (bX (cD (aP rfl) R.hr rfl) (aJ (d := .str x) (bz rfl)) R.hs (x := .ref z) (show ixO (.dK (dP (t.sh.map (·.1)) p.ps)) (.str x) = some (.ref z) from h1)) rfl) (ds := [.lst (vs.map .int)]) (by simp only [vws, vw, h2, Option.bind_some, li, vwO, bI, Option.map_some]) (t := .lst (vs.map .int)) rfl]
  show some (CV.ref ch.length, ch ++ [.lst ((vs.map Dt.int).map CV.dat)]) = _
  rw [List.map_map]
  rfl)]
 rfl
def xU {h : Int} {l : List (Key × CV)} (R : RunAt ch p rows on ls k n t) (hn : ch[q.n]? = some (no q h)) (hc : ch[q.c]? = some (.wk (dI t.cl))) {x : Str} {v : Int} (hx : lkS t.cl x = some v) (h0 : δ[0]? = some (some (.ref p.r))) (h1 : δ[1]? = some (some (.ref q.n))) (h3 : δ[3]? = some (some (.dat (.str x)))) :
  q37 δ ch = some (.nx δ ch) := by
 unfold q37
 have e1 : eM "Plain" "cell" z30 (eV 0) (ah (eD (vL 3)) aB) δ ch = some (.dat (.int v), ch) := by
  rw [du (aP h0) R.hr (by decide +kernel) (aH (aJ (bz h3)) rfl)]
  exact ue R hx
 have e2 : eIx (eIx (eV 1) (eD (kD (.str "cells")))) (eD (vL 3)) δ ch = some (.dat (.int v), ch) := bX (rE hn h1 (c := .ref q.c) rfl) (aJ (d := .str x) (bz h3)) hc (show lkC (dI t.cl) (.inr x) = _ by rw [ie, hx]; rfl)
 have e3 : eU (eX (eCV z24 (ah (eM "Plain" "cell" z30 (eV 0) (ah (eD (vL 3)) aB)) (ah (eIx (eIx (eV 1) (eD (kD (.str "cells")))) (eD (vL 3))) aB)))) δ ch = some (false, ch) := by
  unfold eU
  rw [gA (m8 (aH e1 (aH e2 rfl)) (ds := [.int v, .int v]) rfl (jh v))]
  rfl
 rw [dB, e3, cV]
 rfl
def xV {h : Int} (R : RunAt ch p rows on ls k n t) (hn : ch[q.n]? = some (no q h)) (hb : ch[q.b]? = some (.dK (dI t.bx))) {x : Str} (h0 : δ[0]? = some (some (.ref p.r))) (h1 : δ[1]? = some (some (.ref q.n))) (h3 : δ[3]? = some (some (.dat (.str x)))) :
  z36 δ ch = some (.nx δ ch) := by
 unfold z36
 have e1 : eM "Plain" "box" y24 (eV 0) (ah (eD (vL 3)) aB) δ ch = some (.dat (.int ((lkS t.bx x).getD 0)), ch) := by
  rw [du (aP h0) R.hr (by decide +kernel) (aH (aJ (bz h3)) rfl)]
  exact rn R x
 have e2 : kE (eIx (eV 1) (eD (kD (.str "boxes")))) (eD (vL 3)) (eD (kD (.int 0))) δ ch = some (.dat (.int ((lkS t.bx x).getD 0)), ch) := by
  rw [kJ (rE hn h1 (c := .ref q.b) rfl) hb (aJ (d := .str x) (bz h3)) (aJ (d := .int 0) rfl) rfl, ie]
  cases lkS t.bx x <;> rfl
 have e3 : eU (eX (eCV z24 (ah (eM "Plain" "box" y24 (eV 0) (ah (eD (vL 3)) aB)) (ah (kE (eIx (eV 1) (eD (kD (.str "boxes")))) (eD (vL 3)) (eD (kD (.int 0)))) aB)))) δ ch = some (false, ch) := by
  unfold eU
  rw [gA (m8 (aH e1 (aH e2 rfl)) (ds := [.int _, .int _]) rfl (jh _))]
  rfl
 rw [dB, e3, cV]
 rfl
def lo_4 {r m z : Nat} {b x : Dt} {vs : List Int} (hz : ch[z]? = some (li vs)) (hr : z ≠ r) (hm : z ≠ m) : vB 4 (lo [some (.ref r), some (.ref m), some (.dat b), some (.dat x), some (.ref z)] ch) = some (.lst (vs.map .int)) := by
 unfold lo
 simp only [loA, hz, Option.bind_some, li, tvO, List.mem_cons, List.not_mem_nil, or_false, hr, hm, or_self, if_false, bI, Option.map_some]
 rfl
def xW {h : Int} {b : Dt} {f : Option CV} (R : RunAt ch p rows on ls k n t) (hn : ch[q.n]? = some (no q h)) (hs : ch[q.s]? = some (.wk (dP (t.sh.map (·.1)) q.ps))) (hp : ShAt ch q.ps t.sh) {x : Str} {vs : List Int} (hx : lkS t.sh x = some vs) (hv : vs.length < 300) :
  y36 [some (.ref p.r), some (.ref q.n), some (.dat b), some (.dat (.str x)), f] ch = some (.nx [some (.ref p.r), some (.ref q.n), some (.dat b), some (.dat (.str x)), some (.ref ch.length)] (ch ++ [.lst ((vs.map fun v => CV.dat (.int v)) ++ [.dat (.int 5)])])) := by
 unfold y36
 have hrl := (gX R.hr).1
 have hnl := (gX hn).1
 obtain ⟨z, hz, h1, h2, _⟩ := hp.lk hx
 rw [av, aM (v := .ref ch.length) (ch1 := ch ++ [li vs]) (by rw [du (aP rfl) R.hr (by decide +kernel) (aH (aJ (bz rfl)) rfl)]; exact rF R hx), am]
 show aq _ _ [some (.ref p.r), some (.ref q.n), some (.dat b), some (.dat (.str x)), some (.ref ch.length)] (ch ++ [li vs]) = _
 have hv4 : vB 4 (lo [some (.ref p.r), some (.ref q.n), some (.dat b), some (.dat (.str x)), some (.ref ch.length)] (ch ++ [li vs])) = some (.lst (vs.map .int)) := lo_4 dj (by omega) (by omega)
 have e1 : tD (pf (gn (toD (cQ "list" (vB 4))))) [some (.ref p.r), some (.ref q.n), some (.dat b), some (.dat (.str x)), some (.ref ch.length)] (ch ++ [li vs]) = some (false, ch ++ [li vs]) := ic (by unfold pf gn toD cQ; rw [hv4]; rfl)
 have e2 : eIx (eIx (eV 1) (eD (kD (.str "shelves")))) (eD (vL 3)) [some (.ref p.r), some (.ref q.n), some (.dat b), some (.dat (.str x)), some (.ref ch.length)] (ch ++ [li vs]) = some (.ref z, ch ++ [li vs]) := bX (rE (bm hn) rfl (c := .ref q.s) rfl) (aJ (d := .str x) (bz rfl)) (bm hs) h1
 have e3 : i8 (L2.e2 (gEq true) (eV 4) (eIx (eIx (eV 1) (eD (kD (.str "shelves")))) (eD (vL 3)))) [some (.ref p.r), some (.ref q.n), some (.dat b), some (.dat (.str x)), some (.ref ch.length)] (ch ++ [li vs]) = some (false, ch ++ [li vs]) := rh (by
  rw [ib (aP rfl) e2 (y := .lst (vs.map .int)) (z := .lst (vs.map .int)) (by simp only [vw, dj, Option.bind_some, li, vwO, bI, Option.map_some]) (by simp only [vw, bm h2, Option.bind_some, li, vwO, bI, Option.map_some]) (qK (oC vs))]
  rfl)
 have e4 : qV (tD (pf (gn (toD (cQ "list" (vB 4)))))) (i8 (L2.e2 (gEq true) (eV 4) (eIx (eIx (eV 1) (eD (kD (.str "shelves")))) (eD (vL 3))))) [some (.ref p.r), some (.ref q.n), some (.dat b), some (.dat (.str x)), some (.ref ch.length)] (ch ++ [li vs]) = some (false, ch ++ [li vs]) := by
  unfold qV
  rw [e1]
  exact e3
 rw [av, dB, e4, cV]
 show d8 (some (.nx _ (ch ++ [li vs]))) _ = _
 rw [am]
 unfold lF
 rw [aP rfl, Option.bind_some]
 dsimp only
 rw [aJ (d := .int 5) rfl, Option.bind_some]
 simp only [dj, li, List.length_map]
 rw [if_pos (by have : sizeLine ≥ 1000 := by decide
                omega)]
 simp
end
section
variable {ch ch' : CH} {p : Pl} {q : Nl} {rows : List Dt} {on : List CV} {ls : List Int} {k : Nat} {n : Int} {t t' : Sta} {δ : Sl} {b : Dt} {x f : Option CV}
def sl5 (p : Pl) (q : Nl) (b : Dt) (x f : Option CV) : Sl := [some (.ref p.r), some (.ref q.n), some (.dat b), x, f]
def RunAt.out (R : RunAt ch p rows on ls k n t) {z : Nat} {o : CO} (hz : z ∉ p.all) : RunAt (ch.set z o) p rows on ls k n t := R.frame fun y hy => cH hz hy
def xX (R : RunAt ch p rows on ls k n t) (N : NowAt ch q ls t) (hd : ∀ z ∈ q.all, z ∉ p.all) : ∃ x', fm (eIx (eV 1) (eD (kD (.str "cells")))) [3] (ax 3) q37 (sl5 p q b x f) ch = some (.nx (sl5 p q b x' f) ch) := by
 have nd := N.nd
 simp only [Nl.all, List.nodup_cons, List.mem_cons, not_or] at nd
 have hl := (gX N.hc).1
 have R0 : RunAt (ch.set q.c (.wk (dI t.cl))) p rows on ls k n t := R.out (hd _ (by simp [Nl.all]))
 have hn0 : (ch.set q.c (.wk (dI t.cl)))[q.n]? = some (no q t.hs) := by rw [gN (Ne.symm nd.1.2.1)]; exact N.hn
 have hc0 : (ch.set q.c (.wk (dI t.cl)))[q.c]? = some (.wk (dI t.cl)) := List.getElem?_set_self hl
 obtain ⟨δ2, ch2, e, rfl, x', rfl⟩ := dv (i := 3) (g := q37) (I := fun δ c => c = ch.set q.c (.wk (dI t.cl)) /\ ∃ x, δ = sl5 p q b x f) (fun δ c ⟨_, x, e⟩ => by rw [e]; exact (by decide : 3 < 5)) (ds := (dI t.cl).map fun z => fR z.1) (δ := sl5 p q b x f) (ch := ch.set q.c (.wk (dI t.cl)))
  (fun d hd δ c ⟨ec, x, eδ⟩ => by
   subst ec
   subst eδ
   obtain ⟨y, hy, rfl⟩ := List.mem_map.mp hd
   obtain ⟨z, hz, rfl⟩ := List.mem_map.mp hy
   obtain ⟨v, hv⟩ := g8 (x := z.1) (l := t.cl) (List.mem_map.mpr ⟨z, hz, rfl⟩)
   exact ⟨_, _, xU (l := []) R0 hn0 hc0 hv rfl rfl rfl, rfl, some (.dat (.str z.1)), rfl⟩) ⟨rfl, x, rfl⟩
 refine ⟨x', ?_⟩
 rw [oy (rE N.hn rfl (c := .ref q.c) rfl) N.hc e hc0, List.set_set, lO N.hc]
def xY (R : RunAt ch p rows on ls k n t) (N : NowAt ch q ls t) (hd : ∀ z ∈ q.all, z ∉ p.all) (h0 : ∀ p ∈ t.sh, 0 < p.2.length /\ p.2.length < 300) : ∃ g x' f', fm (eIx (eV 1) (eD (kD (.str "shelves")))) [3] (ax 3) y36 (sl5 p q b x f) ch = some (.nx (sl5 p q b x' f') (ch ++ g)) := by
 have nd := N.nd
 simp only [Nl.all, List.nodup_cons, List.mem_cons, not_or] at nd
 have hl := (gX N.hs).1
 have R0 : RunAt (ch.set q.s (.wk (dP (t.sh.map (·.1)) q.ps))) p rows on ls k n t := R.out (hd _ (by simp [Nl.all]))
 have hn0 : (ch.set q.s (.wk (dP (t.sh.map (·.1)) q.ps)))[q.n]? = some (no q t.hs) := by rw [gN (Ne.symm nd.1.2.2.1)]; exact N.hn
 have hs0 : (ch.set q.s (.wk (dP (t.sh.map (·.1)) q.ps)))[q.s]? = some (.wk (dP (t.sh.map (·.1)) q.ps)) := List.getElem?_set_self hl
 have hp0 : ShAt (ch.set q.s (.wk (dP (t.sh.map (·.1)) q.ps))) q.ps t.sh := N.hp.frame fun z hz => cH nd.2.2.2.1.2 hz
 have hlen : (ch.set q.s (.wk (dP (t.sh.map (·.1)) q.ps))).length = ch.length := List.length_set
 obtain ⟨δ2, ch2, e, g, x', f', rfl, rfl⟩ := dv (i := 3) (g := y36) (I := fun δ c => ∃ g x f, c = ch.set q.s (.wk (dP (t.sh.map (·.1)) q.ps)) ++ g /\ δ = sl5 p q b x f) (fun δ c ⟨_, _, _, _, e⟩ => by rw [e]; exact (by decide : 3 < 5)) (ds := (dP (t.sh.map (·.1)) q.ps).map fun z => fR z.1) (δ := sl5 p q b x f) (ch := ch.set q.s (.wk (dP (t.sh.map (·.1)) q.ps)))
  (fun d hd δ c ⟨g, x, f, ec, eδ⟩ => by
   subst ec
   subst eδ
   obtain ⟨y, hy, rfl⟩ := List.mem_map.mp hd
   obtain ⟨z, hz, rfl⟩ := List.mem_map.mp hy
   have hz1 : z.1 ∈ t.sh.map (·.1) := (List.of_mem_zip hz).1
   obtain ⟨v, hv⟩ := g8 hz1
   have hv3 : v.length < 300 := by
    have key : ∀ l : List (Str × List Int), (∀ p ∈ l, 0 < p.2.length /\ p.2.length < 300) -> lkS l z.1 = some v -> v.length < 300 := fun l => by
     induction l with
     | nil => intro _ h; cases h
     | cons s l ih =>
      intro h h'
      rw [lkS] at h'
      by_cases e : s.1 = z.1
      · rw [if_pos e] at h'; cases h'; exact (h s (by simp)).2
      · rw [if_neg e] at h'; exact ih (fun y hy => h y (by simp [hy])) h'
    exact key _ h0 hv
   exact ⟨_, _, xW R0.app (bm hn0) (bm hs0) hp0.app hv hv3, _, _, _, List.append_assoc _ _ _, rfl⟩) ⟨[], x, f, by simp, rfl⟩
 refine ⟨g, x', f', ?_⟩
 rw [oy (rE N.hn rfl (c := .ref q.s) rfl) N.hs e (bm hs0), List.set_append_left _ _ (by rw [hlen]; exact hl), List.set_set, lO N.hs]
def xZ (R : RunAt ch p rows on ls k n t) (N : NowAt ch q ls t) (bs : List Str) : ∃ x', di (fIt (vL 2)) [3] (ax 3) z36 (sl5 p q (.lst (bs.map .str)) x f) ch = some (.nx (sl5 p q (.lst (bs.map .str)) x' f) ch) := by
 unfold di
 rw [show fIt (vL 2) (lo (sl5 p q (.lst (bs.map .str)) x f) ch) = some (bs.map .str) by unfold fIt; rw [bz (d := .lst (bs.map .str)) rfl]; rfl, Option.bind_some]
 obtain ⟨δ2, ch2, e, rfl, x', rfl⟩ := dv (i := 3) (g := z36) (I := fun δ c => c = ch /\ ∃ x, δ = sl5 p q (.lst (bs.map .str)) x f) (fun δ c ⟨_, x, e⟩ => by rw [e]; exact (by decide : 3 < 5)) (ds := bs.map .str) (δ := sl5 p q (.lst (bs.map .str)) x f) (ch := ch)
  (fun d hd δ c ⟨ec, x, eδ⟩ => by
   subst ec
   subst eδ
   obtain ⟨y, hy, rfl⟩ := List.mem_map.mp hd
   exact ⟨_, _, xV (x := y) R N.hn N.hb rfl rfl rfl, rfl, some (.dat (.str y)), rfl⟩) ⟨rfl, x, rfl⟩
 exact ⟨x', e⟩
def uf (R : RunAt ch p rows on ls k n t) : y35 [.ref p.r] ch = some (.ref ch.length, ch ++ [.lst []]) := by
 unfold y35
 rw [bC]
 simp only [List.map_cons, List.map_nil, List.length_cons, List.length_nil, List.cons_append, List.nil_append, Nat.reduceAdd, Nat.reduceSub, List.replicate]
 rw [aX (v := .ref ch.length) (ch1 := ch ++ [.lst []]) (by
  rw [jX (aH (cD (x := .ref p.g) (aP rfl) R.hr rfl) rfl) (ds := [.lst []]) (by simp only [vws, vw, R.hg, Option.bind_some, vwO, dats, Option.map_some]) (t := .lst []) rfl]
  rfl)]
 rfl
def rG (R : RunAt ch p rows on ls k n t) : q32 [.ref p.r] ch = some (.dat (.int t.hs), ch) := by
 unfold q32
 rw [bC]
 simp only [List.map_cons, List.map_nil, List.length_cons, List.length_nil, List.cons_append, List.nil_append, Nat.reduceAdd, Nat.reduceSub, List.replicate]
 rw [aX (cD (x := .dat (.int t.hs)) (aP rfl) R.hr rfl)]
 rfl
def pD (R : RunAt ch p rows on ls k n t) (N : NowAt ch q ls t) (hd : ∀ z ∈ q.all, z ∉ p.all) (h0 : ∀ p ∈ t.sh, 0 < p.2.length /\ p.2.length < 300) (bs : List Str) : ∃ g, q17 [.ref p.r, .ref q.n, .dat (.lst (bs.map .str))] ch = some (.dat (.bl true), ch ++ g) := by
 unfold q17
 rw [bC]
 show ∃ g, bM (aq _ _ (sl5 p q (.lst (bs.map .str)) none none) ch) = _
 obtain ⟨x1, e1⟩ := xX (b := .lst (bs.map .str)) (x := none) (f := none) R N hd
 obtain ⟨g, x2, f2, e2⟩ := xY (b := .lst (bs.map .str)) (x := x1) (f := none) R N hd h0
 obtain ⟨x3, e3⟩ := xZ (x := x2) (f := f2) (ch := ch ++ g) R.app N.app bs
 rw [av, e1, am, av, e2, am, av, e3, am]
 have R1 : RunAt (ch ++ g) p rows on ls k n t := R.app
 have R2 : RunAt (ch ++ g ++ [.lst []]) p rows on ls k n t := R1.app
 have N2 : NowAt (ch ++ g ++ [.lst []]) q ls t := N.app.app
 refine ⟨g ++ [.lst []], ?_⟩
 have e4 : L2.e2 (gEq false) (eM "Plain" "sent" y35 (eV 0) aB) (eD (toD (dl aF))) (sl5 p q (.lst (bs.map .str)) x3 f2) (ch ++ g) = some (.dat (.bl true), ch ++ g ++ [.lst []]) := by
  rw [ib (by rw [du (aP rfl) R1.hr (by decide +kernel) rfl]; exact uf R1) (aJ (d := .lst []) rfl) (y := .lst []) (z := .lst []) (by simp only [vw, dj, Option.bind_some, vwO, dats, Option.map_some]) rfl (qK (oC []))]
  rfl
 have e5 : eM "Plain" "heard" q32 (eV 0) aB (sl5 p q (.lst (bs.map .str)) x3 f2) (ch ++ g ++ [.lst []]) = some (.dat (.int t.hs), ch ++ g ++ [.lst []]) := by
  rw [du (aP rfl) R2.hr (by decide +kernel) rfl]
  exact rG R2
 rw [aX (v := .dat (.bl true)) (ch1 := ch ++ g ++ [.lst []]) (by
  unfold kz
  rw [e4]
  simp only [Option.bind_some, pw, if_true]
  exact m8 (aH e5 (aH (ent N2 rfl (c := .dat (.int t.hs)) rfl) rfl)) (ds := [.int t.hs, .int t.hs]) rfl (jh _))]
 rw [kH, List.append_assoc]
end
abbrev Hd := Str × Int × Bool
def cL (h : Hd) : List Int := List.replicate h.2.1.toNat 0
def shG : Nat -> List Hd -> CH
 | _, [] => []
 | L, h :: hs => .lst [.dat (.int 0)] :: li (cL h) :: .tup [.dat (.str h.1), .ref (L + 1)] :: shG (L + 3) hs
def shR : Nat -> List Hd -> List CV
 | _, [] => []
 | L, _ :: hs => .ref (L + 2) :: shR (L + 3) hs
def shP : Nat -> List Hd -> List Nat
 | _, [] => []
 | L, _ :: hs => (L + 1) :: shP (L + 3) hs
def sh0 (hs : List Hd) : List (Str × List Int) := hs.map fun h => (h.1, cL h)
def kO : ∀ (L : Nat) (hs : List Hd), ∀ z ∈ shP L hs, L < z /\ z < L + 3 * hs.length
 | _, [], z, hz => by cases hz
 | L, h :: hs, z, hz => by
  rcases List.mem_cons.mp hz with rfl | hz
  · simp only [List.length_cons]; omega
  · have := kO (L + 3) hs z hz
    simp only [List.length_cons]; omega
def rH : ∀ (L : Nat) (hs : List Hd), (shP L hs).Nodup
 | _, [] => List.nodup_nil
 | L, h :: hs => List.nodup_cons.mpr ⟨fun z => by have := kO (L + 3) hs _ z; omega, rH (L + 3) hs⟩
def d6 : ∀ (L : Nat) (hs : List Hd), (shG L hs).length = 3 * hs.length
 | _, [] => rfl
 | L, h :: hs => by simp only [shG, List.length_cons, d6 (L + 3) hs]; omega
def lW (k : Nat) : (List.replicate k [CV.dat (.int 0)]).flatten = (List.replicate k (0 : Int)).map fun v => CV.dat (.int v) := by
 induction k with
 | zero => rfl
 | succ k ih => rw [List.replicate_succ, List.flatten_cons, ih, List.replicate_succ]; rfl
def rJ : ∀ (hs : List Hd) (ch g : CH), ShAt (ch ++ (shG ch.length hs ++ g)) (shP ch.length hs) (sh0 hs) /\ dZ (ch ++ (shG ch.length hs ++ g)) (shR ch.length hs) = some (dP (hs.map (·.1)) (shP ch.length hs))
 | [], ch, g => ⟨trivial, rfl⟩
 | h :: hs, ch, g => by
  obtain ⟨h1, h2⟩ := rJ hs (ch ++ [.lst [.dat (.int 0)], li (cL h), .tup [.dat (.str h.1), .ref (ch.length + 1)]]) g
  have e : ch ++ (shG ch.length (h :: hs) ++ g) = ch ++ [.lst [.dat (.int 0)], li (cL h), .tup [.dat (.str h.1), .ref (ch.length + 1)]] ++ (shG (ch.length + 3) hs ++ g) := by simp [shG]
  have el : (ch ++ [.lst [.dat (.int 0)], li (cL h), .tup [.dat (.str h.1), .ref (ch.length + 1)]]).length = ch.length + 3 := by simp
  rw [el] at h1 h2
  rw [e]
  refine ⟨⟨?_, h1⟩, ?_⟩
  · rw [List.getElem?_append_left (by simp), List.getElem?_append_right (by omega)]
    simp
  · have e2 : (ch ++ [.lst [.dat (.int 0)], li (cL h), .tup [.dat (.str h.1), .ref (ch.length + 1)]] ++ (shG (ch.length + 3) hs ++ g))[ch.length + 2]? = some (.tup [.dat (.str h.1), .ref (ch.length + 1)]) := by
     rw [List.getElem?_append_left (by simp), List.getElem?_append_right (by omega)]
     simp
    simp only [shR, dZ, lK, e2, dU, Option.map_some, Option.bind_some, h2]
    rfl
def rK (h : Hd) (h0 : 0 <= h.2.1) (h1 : h.2.1 <= 300) (ch : CH) : z10 [some (.dat (hdD h))] ch = some (.ref (ch.length + 2), ch ++ [.lst [.dat (.int 0)], li (cL h), .tup [.dat (.str h.1), .ref (ch.length + 1)]]) := by
 unfold z10 eT
 have hv : ∀ c : CH, vB 0 (lo [some (CV.dat (hdD h))] c) = some (hdD h) := fun c => cC rfl
 have e1 : eN (dl (af (kD (.int 0)) aF)) [some (.dat (hdD h))] ch = some (.ref ch.length, ch ++ [.lst [.dat (.int 0)]]) := rfl
 have e2 : eD (toD (d2 au (vB 0) (kD (.int 1)))) [some (.dat (hdD h))] (ch ++ [.lst [.dat (.int 0)]]) = some (.dat (.int h.2.1), ch ++ [.lst [.dat (.int 0)]]) := aJ (ip (hv _) rfl)
 have e3 : lL (eN (dl (af (kD (.int 0)) aF))) (eD (toD (d2 au (vB 0) (kD (.int 1))))) [some (.dat (hdD h))] ch = some (.ref (ch.length + 1), ch ++ [.lst [.dat (.int 0)], li (cL h)]) := by
  unfold lL
  rw [e1, Option.bind_some]
  dsimp only
  rw [e2, Option.bind_some]
  simp only [dj]
  rw [if_pos ⟨h0, by omega, by have : sizeLine ≥ 1000 := by decide
                               simp; omega⟩, lW]
  simp [li, cL]
 rw [aH (aJ (d := .str h.1) (ip (hv _) rfl)) (aH e3 rfl), Option.bind_some]
 dsimp only
 rw [if_pos (by have : sizeLine ≥ 1000 := by decide
                simp; omega)]
 simp
def oE : ∀ (hs : List Hd) (ch : CH), (∀ h ∈ hs, 0 <= h.2.1 /\ h.2.1 <= 300) -> fj [0] (ax 0) bv z10 [none] (hs.map hdD) ch = some (shR ch.length hs, ch ++ shG ch.length hs)
 | [], ch, _ => by simp [fj, shR, shG]
 | h :: hs, ch, hh => by
  have ih := oE hs (ch ++ [.lst [.dat (.int 0)], li (cL h), .tup [.dat (.str h.1), .ref (ch.length + 1)]]) fun z hz => hh z (by simp [hz])
  rw [show (ch ++ [CO.lst [.dat (.int 0)], li (cL h), .tup [.dat (.str h.1), .ref (ch.length + 1)]]).length = ch.length + 3 by simp] at ih
  rw [List.map_cons]
  show ((ax 0 (hdD h) (lo [none] ch)).bind fun δ1 => (bv (lo (mgS [0] [none] δ1) ch)).bind fun b => if b then (z10 (mgS [0] [none] δ1) ch).bind fun p => (fj [0] (ax 0) bv z10 [none] (hs.map hdD) p.2).map fun q => (p.1 :: q.1, q.2) else fj [0] (ax 0) bv z10 [none] (hs.map hdD) ch) = _
  unfold ax
  rw [Option.bind_some, lR (by decide)]
  show ((z10 [some (.dat (hdD h))] ch).bind fun p => (fj [0] (ax 0) bv z10 [none] (hs.map hdD) p.2).map fun q => (p.1 :: q.1, q.2)) = _
  rw [rK h (hh h (by simp)).1 (hh h (by simp)).2, Option.bind_some]
  dsimp only
  rw [ih]
  simp [shR, shG]
def ji {P : Dt -> Dt -> Prop} : ∀ {ds ys : List Dt} {k : Nat} {d : Dt}, Paired P ds ys -> ds[k]? = some d -> ∃ y, ys[k]? = some y /\ P d y
 | _, _, 0, _, .cons h _, e => by cases e; exact ⟨_, rfl, h⟩
 | _, _, k + 1, _, .cons _ t, e => by
  obtain ⟨y, e', h⟩ := ji (k := k) t (by simpa using e)
  exact ⟨y, by simpa using e', h⟩
def jj {P : Dt -> Dt -> Prop} : ∀ {ds ys : List Dt} {y : Dt}, Paired P ds ys -> y ∈ ys -> ∃ d, d ∈ ds /\ P d y
 | _, _, _, .cons h t, e => by
  rcases List.mem_cons.mp e with rfl | e
  · exact ⟨_, List.mem_cons_self, h⟩
  · obtain ⟨d, hd, q⟩ := jj t e
    exact ⟨d, List.mem_cons_of_mem _ hd, q⟩
def rL {l : List Dt} {d : Dt} (h : d ∈ cR 0 l) : ∃ (k : Nat) (e : Dt), e ∈ l /\ d = .tup [.int k, e] := by
 obtain ⟨k, hk, rfl⟩ := List.mem_iff_getElem.mp h
 have e : (cR 0 l)[k]? = some (cR 0 l)[k] := gQ hk
 rw [fJ] at e
 obtain ⟨x, hx, q⟩ := mS e
 exact ⟨0 + k, x, List.mem_of_getElem? hx, q.symm⟩
def ug {cs ss : List Str} {r : Dt} (h : Row cs ss r) (k : Int) : q47 [.int k, r] = some (.leaf (.tup [.int (k + 1)])) := by
 unfold q47
 cases h <;> walk_at "k"
def uh {a : Dt} (k : Int) : q47 [.int k, .tup [.str "end", a]] = some (.leaf (.tup [])) := by
 unfold q47
 walk_at "k"
def ui {cs ss : List Str} {rr : List Dt} {a p q : Dt} (hl : rr.length <= 900) (h : ∀ r ∈ rr, Row cs ss r) : ∃ ws, fu [.tup [p, q, .tup (rr ++ [.tup [.str "end", a]])]] = some (.lst ws) /\ ∀ k : Nat, k < rr.length -> ws[k]? = some (.tup [.int ((k : Int) + 1)]) := by
 obtain ⟨ws, e, hp⟩ := gu (bb := fO 2 (aY (ax 0) (aY (ax 1) fN))) (ft := bv) (fe := z75) (ds := cR 0 (rr ++ [.tup [.str "end", a]])) (δ := [none, none]) (P := fun d y => ∃ (k : Nat) (r : Dt), d = .tup [.int k, r] /\ (Row cs ss r -> y = .tup [.int ((k : Int) + 1)])) fun d hd => by
  obtain ⟨k, r, hr, rfl⟩ := rL hd
  rcases List.mem_append.mp hr with hr | hr
  · refine ⟨[some (.leaf (.int k)), some (.leaf r)], _, rfl, rfl, ?_, k, r, rfl, fun _ => rfl⟩
    unfold z75
    walk_at "d"
    rw [ug (h r hr)]
    rfl
  · cases List.mem_singleton.mp hr
    refine ⟨[some (.leaf (.int k)), some (.leaf (.tup [.str "end", a]))], .tup [], rfl, rfl, ?_, k, _, rfl, fun z => by cases z⟩
    unfold z75
    walk_at "d"
    rw [show Str.ofString "end" = ("end" : Str) from rfl, uh]
    rfl
 have hlen : ws.length = rr.length + 1 := by rw [<- Paired.length hp, gW]; simp
 refine ⟨ws, ?_, fun k hk => ?_⟩
 · unfold fu
   walk_at "d"
   show (wu (Option.map Out.rt ((some (cR 0 (rr ++ [.tup [.str "end", a]]))).bind _))) = _
   rw [Option.bind_some, e, Option.bind_some, ga (by omega)]
   rfl
 · have hr : (rr ++ [.tup [.str "end", a]])[k]? = some rr[k] := by rw [List.getElem?_append_left hk]; simp [hk]
   have ee : (cR 0 (rr ++ [.tup [.str "end", a]]))[k]? = some (.tup [.int ((0 + k : Nat) : Int), rr[k]]) := by rw [fJ, hr]; rfl
   obtain ⟨y, ey, k', r', q, hy⟩ := ji hp ee
   injection q with q
   injection q with q1 q2
   injection q2 with q2
   injection q1 with q1
   subst q2
   have : k' = k := by omega
   subst this
   rw [ey, hy (h _ (List.getElem_mem hk))]
def lX : ∀ (ch : CH) (hs : List Hd), dZ ch (hs.map fun h => .dat (.tup [.str h.1, .int h.2.1])) = some (dI (hs.map fun h => (h.1, h.2.1)))
 | _, [] => rfl
 | ch, h :: hs => by
  have ih := lX ch hs
  simp only [List.map_cons, dZ, lK, dU, Option.map_some, Option.bind_some, ih]
  rfl
def mk (base : CH) (ns : List Str) (l : List CV) (G : CH) : CH := base ++ .ins "Plain" ns l :: G
def u1 {base : CH} {ns : List Str} {l : List CV} {G : CH} : (mk base ns l G)[base.length]? = some (.ins "Plain" ns l) := by simp [mk]
def fB {base : CH} {ns : List Str} {l : List CV} {G : CH} : (mk base ns l G).length = base.length + 1 + G.length := by simp [mk]; omega
def dD {base : CH} {ns : List Str} {l : List CV} {G g : CH} : mk base ns l G ++ g = mk base ns l (G ++ g) := by simp [mk]
def wW {base : CH} {ns ns' : List Str} {l l' : List CV} {G : CH} : (mk base ns l G).set base.length (.ins "Plain" ns' l') = mk base ns' l' G := by simp [mk]
def m9 {base : CH} {ns : List Str} {l : List CV} {G : CH} {i : Nat} {o : CO} (h : G[i]? = some o) : (mk base ns l G)[base.length + 1 + i]? = some o := by
 unfold mk
 rw [gR (by omega), show base.length + 1 + i - base.length = i + 1 by omega, List.getElem?_cons_succ]
 exact h
def wX {base : CH} {ns : List Str} {l : List CV} {G : CH} {i : Nat} {o : CO} (h : base[i]? = some o) : (mk base ns l G)[i]? = some o := bm h
def wY {base : CH} {ns : List Str} {l : List CV} {G G' : CH} {f : Str} {fe : Fg} {δ : Sl} {v : CV} (hs : δ[0]? = some (some (.ref base.length))) (hn : ns.length < 1000) (he : fe δ (mk base ns l G) = some (v, mk base ns l G')) :
  cu "Plain" f (eV 0) fe δ (mk base ns l G) = some (.nx δ (mk base (bO ns l f v).1 (bO ns l f v).2 G')) := by
 rw [lQ he (aP hs) u1 hn, wW]
section
variable {ch : CH} {δ : Sl} {ft : De -> Option T}
def gE {d : Dt} (h : ft (lo δ ch) = some (.leaf d)) : eN ft δ ch = some (.dat d, ch) := by
 unfold eN
 rw [h]
 rfl
def kP {l : List Dt} (h : ft (lo δ ch) = some (.lst l)) : eN ft δ ch = some (.ref ch.length, ch ++ [.lst (l.map .dat)]) := by
 unfold eN
 rw [h]
 rfl
def lY {fa : Fg} {i : Nat} {c1 : CH} {l : List CV} {ps : List (Key × CV)} (h1 : fa δ ch = some (.ref i, c1)) (h2 : c1[i]? = some (.lst l)) (h3 : dZ c1 l = some ps) (h4 : (ps.map (·.1)).Nodup) : ia fa δ ch = some (.ref c1.length, c1 ++ [.dK ps]) := by
 unfold ia
 rw [h1, Option.bind_some]
 simp only [h2, h3, Option.bind_some]
 rw [if_pos h4]
end
def prog (cs ss : List Hd) (rows : List Dt) : Dt := .tup [.tup (cs.map hdD), .tup (ss.map hdD), .tup rows]
def Lt (base : CH) (L : CV) (ls : List Int) : Prop := L = .dat (.lst (ls.map .int)) ∨ ∃ i, L = .ref i /\ base[i]? = some (li ls)
def cA {base : CH} {ns : List Str} {l : List CV} {G G' : CH} {f : Str} {fe : Fg} {δ : Sl} {v : CV} (hs : δ[0]? = some (some (.ref base.length))) (he : fe δ (mk base ns l G) = some (v, mk base ns l G')) (hn : ns.length < 1000) (hp : bO ns l f v = (ns ++ [f], l ++ [v])) :
  cu "Plain" f (eV 0) fe δ (mk base ns l G) = some (.nx δ (mk base (ns ++ [f]) (l ++ [v]) G')) := by
 rw [wY hs hn he, hp]
def pl0 (r m : Nat) (ss : List Hd) : Pl := ⟨r, r + 1, r + 2, r + 3, r + 4, r + 6, r + 8 + 3 * m, shP (r + 7) ss⟩
def ce0 (cs : List Hd) : Al := cs.map fun h => (h.1, h.2.1)
def t0 (cs ss : List Hd) : Sta := ⟨[], ce0 cs, sh0 ss, 0⟩
def wZ (r : Nat) (ss : List Hd) : (pl0 r ss.length ss).all.Nodup := by
 have h := kO (r + 7) ss
 have n1 : ∀ z, z <= r + 7 -> z ∉ shP (r + 7) ss := fun z hz hm => by have := h z hm; omega
 have n2 : r + 8 + 3 * ss.length ∉ shP (r + 7) ss := fun hm => by have := h _ hm; omega
 simp only [Pl.all, pl0, List.nodup_cons, List.mem_cons, not_or]
 exact ⟨⟨by omega, by omega, by omega, by omega, by omega, by omega, n1 _ (by omega)⟩, ⟨by omega, by omega, by omega, by omega, by omega, n1 _ (by omega)⟩, ⟨by omega, by omega, by omega, by omega, n1 _ (by omega)⟩, ⟨by omega, by omega, by omega, n1 _ (by omega)⟩, ⟨by omega, by omega, n1 _ (by omega)⟩, ⟨by omega, n1 _ (by omega)⟩, n2, rH _ _⟩
def rM (r : Nat) (ss : List Hd) : ∀ z ∈ (pl0 r ss.length ss).all, r <= z /\ z <= r + 8 + 3 * ss.length := by
 intro z hz
 simp only [Pl.all, pl0, List.mem_cons] at hz
 rcases hz with rfl | rfl | rfl | rfl | rfl | rfl | rfl | hz
 any_goals omega
 have := kO (r + 7) ss z hz
 omega
noncomputable def gI (ws : List Dt) (ls : List Int) (cs ss : List Hd) (r : Nat) : CH :=
 [.lst (ws.map .dat)] ++ [li ls] ++ [.lst []] ++ [.dK []] ++ [.lst (cs.map fun h => .dat (.tup [.str h.1, .int h.2.1]))] ++ [.dK (dI (ce0 cs))] ++ (shG (r + 7) ss ++ [.lst (shR (r + 7) ss)]) ++ [.dK (dP (ss.map (·.1)) (shP (r + 7) ss))]
def oF {base : CH} {L : CV} {ls : List Int} {cs ss : List Hd} {rows ws : List Dt} (hL : Lt base L ls) (hw : fu [prog cs ss rows] = some (.lst ws)) (hc : (cs.map (·.1)).Nodup) (hs : (ss.map (·.1)).Nodup) (hcl : cs.length <= 300) (hsl : ss.length <= 300) (hz : ∀ h ∈ ss, 0 <= h.2.1 /\ h.2.1 <= 300) :
  y17 [.ref base.length, .dat (prog cs ss rows), L] (base ++ [.ins "Plain" [] []]) = some (.dat .non, mk base fns (pv (pl0 base.length ss.length ss) rows 0 0 0) (gI ws ls cs ss base.length)) := by
 unfold y17
 rw [bC]
 show bM (aq _ _ [some (.ref base.length), some (.dat (prog cs ss rows)), some L] (mk base [] [] [])) = _
 have hv : ∀ c : CH, vB 1 (lo [some (CV.ref base.length), some (.dat (prog cs ss rows)), some L] c) = some (prog cs ss rows) := fun c => cC rfl
 have hv' : ∀ c : CH, vL 1 (lo [some (CV.ref base.length), some (.dat (prog cs ss rows)), some L] c) = some (prog cs ss rows) := fun c => bz rfl
 rw [av, cA rfl (gE (d := .tup rows) (by unfold d2; rw [hv]; rfl)) (by decide) rfl, am]
 have ew : ∀ c : CH, aN fu (af (vL 1) aF) (lo [some (CV.ref base.length), some (.dat (prog cs ss rows)), some L] c) = some (.lst ws) := fun c => by
  show ((af (vL 1) aF (lo [some (CV.ref base.length), some (.dat (prog cs ss rows)), some L] c)).bind fu) = _
  rw [show af (vL 1) aF (lo [some (CV.ref base.length), some (.dat (prog cs ss rows)), some L] c) = some [prog cs ss rows] by unfold af; rw [hv']; rfl]
  exact hw
 rw [av, cA rfl (by rw [kP (ew _), dD]) (by decide) rfl, am]
 have hin : ∀ (ns : List Str) (l : List CV) (G : CH), eB df (ah (eV 2) aB) [some (CV.ref base.length), some (.dat (prog cs ss rows)), some L] (mk base ns l G) = some (.ref (mk base ns l G).length, mk base ns l (G ++ [li ls])) := fun ns l G => by
  have hvw : vws (mk base ns l G) [L] = some [.lst (ls.map .int)] := by
   rcases hL with rfl | ⟨i, rfl, hi⟩
   · rfl
   · simp only [vws, vw, wX hi, Option.bind_some, li, vwO, bI, Option.map_some]
  rw [jX (aH (aP rfl) rfl) hvw (t := .lst (ls.map .int)) rfl]
  show some (CV.ref (mk base ns l G).length, mk base ns l G ++ [.lst ((ls.map Dt.int).map CV.dat)]) = _
  rw [dD, List.map_map]
  rfl
 rw [av, cA rfl (hin _ _ _) (by decide) rfl, am]
 have hou : ∀ (ns : List Str) (l : List CV) (G : CH), eN (dl aF) [some (CV.ref base.length), some (.dat (prog cs ss rows)), some L] (mk base ns l G) = some (.ref (mk base ns l G).length, mk base ns l (G ++ [.lst []])) := fun ns l G => by rw [<- dD]; rfl
 have hbx : ∀ (ns : List Str) (l : List CV) (G : CH), eN dg [some (CV.ref base.length), some (.dat (prog cs ss rows)), some L] (mk base ns l G) = some (.ref (mk base ns l G).length, mk base ns l (G ++ [.dK []])) := fun ns l G => by rw [<- dD]; rfl
 rw [av, cA rfl (hou _ _ _) (by decide) rfl, am]
 rw [av, cA rfl (hbx _ _ _) (by decide) rfl, am]
 have hpl : ∀ c : CH, cj [none] (fIt (toD (d2 au (vB 1) (kD (.int 0))))) (ax 0) bv q35 (lo [some (CV.ref base.length), some (.dat (prog cs ss rows)), some L] c) = some (.lst (cs.map fun h => .tup [.str h.1, .int h.2.1])) := fun c => by
  have e1 : fIt (toD (d2 au (vB 1) (kD (.int 0)))) (lo [some (CV.ref base.length), some (.dat (prog cs ss rows)), some L] c) = some (cs.map hdD) := by
   unfold fIt
   rw [rix (d := .tup (cs.map hdD)) (hv c) rfl]
   rfl
  have e2 := dN (bb := ax 0) (ft := bv) (fe := q35) (ds := cs.map hdD) (δ := dC [none] (lo [some (CV.ref base.length), some (.dat (prog cs ss rows)), some L] c)) (f := fun d => match d with
   | .tup [a, b, _] => .tup [a, b]
   | d => d) fun d hd => by
   obtain ⟨h, _, rfl⟩ := List.mem_map.mp hd
   exact ⟨_, rfl, rfl, rfl⟩
  unfold cj
  rw [e1, Option.bind_some, e2, Option.bind_some, if_pos (by have : sizeLine ≥ 1000 := by decide
                                                             simp; omega), List.map_map]
  rfl
 have hcd : ∀ (ns : List Str) (l : List CV) (G : CH), ia (eN (cj [none] (fIt (toD (d2 au (vB 1) (kD (.int 0))))) (ax 0) bv q35)) [some (CV.ref base.length), some (.dat (prog cs ss rows)), some L] (mk base ns l G) = some (.ref (base.length + 1 + G.length + 1), mk base ns l (G ++ [.lst (cs.map fun h => .dat (.tup [.str h.1, .int h.2.1]))] ++ [.dK (dI (ce0 cs))])) := fun ns l G => by
  have e1 := kP (ch := mk base ns l G) (hpl _)
  rw [List.map_map, dD] at e1
  rw [lY e1 (by rw [fB]; exact m9 (by simp)) (l := cs.map fun h => .dat (.tup [.str h.1, .int h.2.1])) (lX _ cs) (uX (by rw [List.map_map]; exact hc)), dD, fB]
  simp only [List.length_append, List.length_singleton]
  rfl
 rw [av, cA rfl (hcd _ _ _) (by decide) rfl, am]
 have hsd : ∀ (ns : List Str) (l : List CV) (G : CH), G.length = 6 -> ia (jd [none] (fIt (toD (d2 au (vB 1) (kD (.int 1))))) [0] (ax 0) bv z10) [some (CV.ref base.length), some (.dat (prog cs ss rows)), some L] (mk base ns l G) = some (.ref (base.length + 8 + 3 * ss.length), mk base ns l (G ++ (shG (base.length + 7) ss ++ [.lst (shR (base.length + 7) ss)]) ++ [.dK (dP (ss.map (·.1)) (shP (base.length + 7) ss))])) := fun ns l G hG => by
  have hlen : (mk base ns l G).length = base.length + 7 := by rw [fB, hG]
  have hr : (shR (base.length + 7) ss).length = ss.length := by
   have key : ∀ (L : Nat) (hs : List Hd), (shR L hs).length = hs.length := fun L hs => by
    induction hs generalizing L with
    | nil => rfl
    | cons h hs ih => simp [shR, ih]
   exact key _ _
  have e1 : jd [none] (fIt (toD (d2 au (vB 1) (kD (.int 1))))) [0] (ax 0) bv z10 [some (CV.ref base.length), some (.dat (prog cs ss rows)), some L] (mk base ns l G) = some (.ref (base.length + 7 + 3 * ss.length), mk base ns l (G ++ (shG (base.length + 7) ss ++ [.lst (shR (base.length + 7) ss)]))) := by
   unfold jd
   rw [show fIt (toD (d2 au (vB 1) (kD (.int 1)))) (lo [some (CV.ref base.length), some (.dat (prog cs ss rows)), some L] (mk base ns l G)) = some (ss.map hdD) by
    unfold fIt
    rw [rix (d := .tup (ss.map hdD)) (hv _) rfl]
    rfl, Option.bind_some]
   show (fj [0] (ax 0) bv z10 [none] (ss.map hdD) (mk base ns l G)).bind _ = _
   rw [oE ss _ hz, Option.bind_some, hlen]
   dsimp only
   rw [if_pos (by have : sizeLine ≥ 1000 := by decide
                  omega), List.length_append, d6, hlen, List.append_assoc, dD]
  have e2 := (rJ ss (mk base ns l G) [.lst (shR (base.length + 7) ss)]).2
  rw [hlen, dD] at e2
  rw [lY e1 (l := shR (base.length + 7) ss) ?_ e2 ?_, dD, fB]
  · simp only [List.length_append, List.length_singleton, d6, hG]
    rw [show base.length + 1 + (6 + (3 * ss.length + 1)) = base.length + 8 + 3 * ss.length by omega]
  · rw [show base.length + 7 + 3 * ss.length = base.length + 1 + (6 + 3 * ss.length) by omega]
    apply m9
    rw [gR (by omega), gR (by rw [d6]; omega), d6]
    simp [hG]
  · have hk : ∀ (L : Nat) (hs : List Hd), (dP (hs.map (·.1)) (shP L hs)).map (·.1) = hs.map fun h => (.inr h.1 : Key) := fun L hs => by
     induction hs generalizing L with
     | nil => rfl
     | cons h hs ih => have := ih (L + 3); simp only [dP, List.map_cons, shP, List.zip_cons_cons] at this ⊢; rw [this]
    rw [hk]
    exact List.pairwise_map.mpr ((List.pairwise_map.mp hs).imp fun h z => h (Sum.inr.inj z))
 rw [av, cA rfl (hsd _ _ _ (by simp)) (by decide) rfl, am]
 rw [av, cA rfl (gE (d := .int 0) rfl) (by decide) rfl, am]
 rw [av, cA rfl (gE (d := .int 0) rfl) (by decide) rfl, am]
 rw [av, cA rfl (gE (d := .int 0) rfl) (by decide) rfl, am]
 rw [cA rfl (gE (d := .non) rfl) (by decide) rfl, gz]
 simp only [fB]
 rfl
def lZ {base : CH} {ls : List Int} {cs ss : List Hd} {rows ws : List Dt} : RunAt (mk base fns (pv (pl0 base.length ss.length ss) rows 0 0 0) (gI ws ls cs ss base.length)) (pl0 base.length ss.length ss) rows (ws.map .dat) ls 0 0 (t0 cs ss) := by
 have at' : ∀ {i : Nat} {o : CO}, (gI ws ls cs ss base.length)[i]? = some o -> (mk base fns (pv (pl0 base.length ss.length ss) rows 0 0 0) (gI ws ls cs ss base.length))[base.length + 1 + i]? = some o := fun h => m9 h
 have hd : (sh0 ss).map (·.1) = ss.map (·.1) := by simp [sh0]
 refine ⟨u1, at' (i := 0) rfl, at' (i := 1) rfl, at' (i := 2) rfl, at' (i := 3) rfl, at' (i := 5) rfl, ?_, ?_, wZ _ _⟩
 · have := at' (i := 7 + 3 * ss.length) (o := .dK (dP (ss.map (·.1)) (shP (base.length + 7) ss))) (by
    unfold gI
    rw [List.getElem?_append_right (by simp [d6]; omega)]
    simp [d6]
    rw [show 7 + 3 * ss.length - (3 * ss.length + 1 + 1 + 1 + 1 + 1 + 1 + 1) = 0 by omega]
    rfl)
   rw [show base.length + 1 + (7 + 3 * ss.length) = (pl0 base.length ss.length ss).s by simp [pl0]; omega] at this
   rw [this]
   show _ = some (CO.dK (dP ((sh0 ss).map (·.1)) (shP (base.length + 7) ss)))
   rw [hd]
 · have h := (rJ ss (mk base fns (pv (pl0 base.length ss.length ss) rows 0 0 0) ([.lst (ws.map .dat)] ++ [li ls] ++ [.lst []] ++ [.dK []] ++ [.lst (cs.map fun h => .dat (.tup [.str h.1, .int h.2.1]))] ++ [.dK (dI (ce0 cs))])) ([.lst (shR (base.length + 7) ss)] ++ [.dK (dP (ss.map (·.1)) (shP (base.length + 7) ss))])).1
   rw [dD, fB] at h
   simp only [List.length_append, List.length_singleton] at h
   have e : gI ws ls cs ss base.length = [.lst (ws.map .dat)] ++ [li ls] ++ [.lst []] ++ [.dK []] ++ [.lst (cs.map fun h => .dat (.tup [.str h.1, .int h.2.1]))] ++ [.dK (dI (ce0 cs))] ++ (shG (base.length + 7) ss ++ ([.lst (shR (base.length + 7) ss)] ++ [.dK (dP (ss.map (·.1)) (shP (base.length + 7) ss))])) := by simp [gI]
   rw [e]
   exact h
section
variable {ch : CH} {δ : Sl} {d : Dt}
def mgS3 {i j k : Nat} {a b c : Dt} (hij : i ≠ j) (hik : i ≠ k) (hjk : j ≠ k) (hi : i < δ.length) (hj : j < δ.length) (hk : k < δ.length) : mgS [i, j, k] δ ((((lo δ ch).set i (some (.leaf a))).set j (some (.leaf b))).set k (some (.leaf c))) = ((δ.set i (some (.dat a))).set j (some (.dat b))).set k (some (.dat c)) := by
 have h2 : (lo δ ch).length = δ.length := fL ch [] δ
 apply List.ext_getElem?
 intro m
 unfold mgS
 rw [List.getElem?_mapIdx]
 by_cases ek : k = m
 · subst ek
   rw [List.getElem?_set_self (by simpa [h2] using hk), List.getElem?_set_self (by simpa [h2] using hk), List.getElem?_eq_getElem hk]
   simp
 · rw [gN ek, gN ek]
   by_cases ej : j = m
   · subst ej
     rw [List.getElem?_set_self (by simpa [h2] using hj), List.getElem?_set_self (by simpa [h2] using hj), List.getElem?_eq_getElem hj]
     simp
   · rw [gN ej, gN ej]
     by_cases ei : i = m
     · subst ei
       rw [List.getElem?_set_self (by simpa [h2] using hi), List.getElem?_set_self (by simpa [h2] using hi), List.getElem?_eq_getElem hi]
       simp
     · rw [gN ei, gN ei]
       have e1 : ¬ m = i := fun z => ei z.symm
       have e2 : ¬ m = j := fun z => ej z.symm
       have e3 : ¬ m = k := fun z => ek z.symm
       cases h : δ[m]? with
       | none => rfl
       | some x => simp [e1, e2, e3]
end
def rN {α : Type} {x : Str} {v : α} : ∀ {l : List (Str × α)}, x ∉ l.map (·.1) -> ptS l x v = l ++ [(x, v)]
 | [], _ => rfl
 | p :: l, h => by
  rw [ptS, if_neg (fun e => h (by simp [e])), rN (fun z => h (by simp only [List.map_cons]; exact List.mem_cons_of_mem _ z))]
  rfl
structure Keeps (m : Nat) (c c' : CH) : Prop where
 out : ∀ i, i < m -> c'[i]? = c[i]?
 len : c.length <= c'.length
def Keeps.refl {m : Nat} {c : CH} : Keeps m c c := ⟨fun _ _ => rfl, nL _⟩
def Keeps.trans {m : Nat} {a b c : CH} (h : Keeps m a b) (h' : Keeps m b c) : Keeps m a c := ⟨fun i hi => (h'.out i hi).trans (h.out i hi), Nat.le_trans h.len h'.len⟩
def Keeps.set {m i : Nat} {c : CH} {o : CO} (h : m <= i) : Keeps m c (c.set i o) := ⟨fun j hj => gN (by omega), by rw [List.length_set]; exact nL _⟩
def Keeps.app {m : Nat} {c g : CH} (h : m <= c.length) : Keeps m c (c ++ g) := ⟨fun j hj => List.getElem?_append_left (by omega), by simp⟩
def sl8 (A B C : Dt) (n : Nat) (x4 x5 x6 x7 : Option CV) : Sl := [some (.dat A), some (.dat B), some (.dat C), some (.ref n), x4, x5, x6, x7]
def u2 {i j k : Nat} {g : Fs} {h : Hd} {r : List Dt} {δ δ2 : Sl} {ch ch2 : CH} (hij : i ≠ j) (hik : i ≠ k) (hjk : j ≠ k) (hi : i < δ.length) (hj : j < δ.length) (hk : k < δ.length)
  (e : g (((δ.set i (some (.dat (.str h.1)))).set j (some (.dat (.int h.2.1)))).set k (some (.dat (.bl h.2.2)))) ch = some (.nx δ2 ch2)) :
  dW [i, j, k] (fO 3 (aY (ax i) (aY (ax j) (aY (ax k) fN)))) g (hdD h :: r) δ ch = dW [i, j, k] (fO 3 (aY (ax i) (aY (ax j) (aY (ax k) fN)))) g r δ2 ch2 := by
 show ((fO 3 (aY (ax i) (aY (ax j) (aY (ax k) fN))) (hdD h) (lo δ ch)).bind fun δ1 => (g (mgS [i, j, k] δ δ1) ch).bind fun o => _) = _
 rw [show fO 3 (aY (ax i) (aY (ax j) (aY (ax k) fN))) (hdD h) (lo δ ch) = some ((((lo δ ch).set i (some (.leaf (.str h.1)))).set j (some (.leaf (.int h.2.1)))).set k (some (.leaf (.bl h.2.2)))) from rfl, Option.bind_some, mgS3 hij hik hjk hi hj hk, e]
 rfl
def ma {A B C : Dt} {q : Nl} {ls : List Int} {m : Nat} (hm : m <= q.c) : ∀ {hs : List Hd} {done : Al} {sh : List (Str × List Int)} {c : CH} {x4 x5 x6 x7 : Option CV}, NowAt c q ls ⟨[], done, sh, 0⟩ -> (done.map (·.1) ++ hs.map (·.1)).Nodup -> done.length + hs.length < 400 →
  ∃ c' y4 y5 y6, dW [4, 5, 6] (fO 3 (aY (ax 4) (aY (ax 5) (aY (ax 6) fN)))) z31 (hs.map hdD) (sl8 A B C q.n x4 x5 x6 x7) c = some (.nx (sl8 A B C q.n y4 y5 y6 x7) c') /\ NowAt c' q ls ⟨[], done ++ ce0 hs, sh, 0⟩ /\ Keeps m c c'
 | [], done, sh, c, x4, x5, x6, x7, N, _, _ => ⟨c, x4, x5, x6, rfl, by simpa [ce0] using N, Keeps.refl⟩
 | h :: hs, done, sh, c, x4, x5, x6, x7, N, nd, hl => by
  have hn : h.1 ∉ done.map (·.1) := fun z => by
   have := (List.nodup_append.mp nd).2.2 _ z h.1 (by simp)
   exact this rfl
  have e : z31 (sl8 A B C q.n (some (.dat (.str h.1))) (some (.dat (.int h.2.1))) (some (.dat (.bl h.2.2))) x7) c = some (.nx (sl8 A B C q.n (some (.dat (.str h.1))) (some (.dat (.int h.2.1))) (some (.dat (.bl h.2.2))) x7) (c.set q.c (.dK (dI (done ++ [(h.1, h.2.1)]))))) := by
   unfold z31
   rw [<- rN hn]
   exact cw (aJ (bz rfl)) (ent N rfl (c := .ref q.c) rfl) (aJ (d := .str h.1) (bz rfl)) N.hc (jf (l := done) (by simp only [List.length_cons] at hl; omega) (List.nodup_append.mp nd).1)
  obtain ⟨c', y4, y5, y6, e', N', K'⟩ := ma hm (hs := hs) (x4 := some (.dat (.str h.1))) (x5 := some (.dat (.int h.2.1))) (x6 := some (.dat (.bl h.2.2))) (x7 := x7) (N.setC (done ++ [(h.1, h.2.1)])) (by simpa [List.append_assoc] using nd) (by simp only [List.length_append, List.length_cons, List.length_nil] at hl ⊢; omega)
  refine ⟨c', y4, y5, y6, ?_, by simpa [ce0, List.append_assoc] using N', (Keeps.set hm).trans K'⟩
  rw [List.map_cons, u2 (by decide) (by decide) (by decide) (by show 4 < 8; decide) (by show 5 < 8; decide) (by show 6 < 8; decide) e]
  exact e'
def ShAt.snoc {c : CH} {z : Nat} {x : Str} {vs : List Int} (hz : c[z]? = some (li vs)) : ∀ {ps : List Nat} {sh : List (Str × List Int)}, ShAt c ps sh -> ShAt c (ps ++ [z]) (sh ++ [(x, vs)])
 | [], [], _ => ⟨hz, trivial⟩
 | [], _ :: _, h => h.elim
 | _ :: _, [], h => h.elim
 | _ :: _, _ :: _, h => ⟨h.1, ShAt.snoc hz h.2⟩
def md {α β : Type} {a : α} {b : β} : ∀ {l : List α} {m : List β}, l.length = m.length -> (l ++ [a]).zip (m ++ [b]) = l.zip m ++ [(a, b)]
 | [], [], _ => rfl
 | [], _ :: _, h => by cases h
 | _ :: _, [], h => by cases h
 | x :: l, y :: m, h => by simp [md (l := l) (m := m) (by simpa using h)]
def w6 {ns : List Str} {ps : List Nat} {x : Str} {z : Nat} (hl : ns.length = ps.length) (hn : x ∉ ns) (nd : ns.Nodup) (hz : ns.length < 500) : lG (.dK (dP ns ps)) (.str x) (.ref z) = some (.dK (dP (ns ++ [x]) (ps ++ [z]))) := by
 have hk : (dP ns ps).map (·.1) = ns.map fun y => (.inr y : Key) := by
  have key : ∀ (ns : List Str) (ps : List Nat), ns.length = ps.length -> (dP ns ps).map (·.1) = ns.map fun y => (.inr y : Key) := fun ns => by
   induction ns with
   | nil => intro ps _; rfl
   | cons n ns ih =>
    intro ps h
    cases ps with
    | nil => cases h
    | cons p ps =>
     have := ih ps (by simpa using h)
     simp only [dP, List.zip_cons_cons, List.map_cons] at this ⊢
     rw [this]
  exact key ns ps hl
 have hput : ∀ l : List (Key × CV), (.inr x : Key) ∉ l.map (·.1) -> gw l (.inr x) (.ref z) = l ++ [(.inr x, .ref z)] := fun l => by
  induction l with
  | nil => intro _; rfl
  | cons p l ih =>
   intro h
   rw [gw, if_neg (fun e => h (by simp [e])), ih (fun w => h (by simp only [List.map_cons]; exact List.mem_cons_of_mem _ w))]
   rfl
 unfold lG
 simp only [dU, Option.bind_some]
 rw [if_pos ⟨by have : (dP ns ps).length = ns.length := by rw [<- List.length_map (f := (·.1)), hk, List.length_map]
                have h2 : sizeLine ≥ 1000 := by decide
                omega, by rw [hk]; exact List.pairwise_map.mpr (nd.imp fun h w => h (Sum.inr.inj w))⟩, hput _ (by
  rw [hk]
  intro w
  obtain ⟨y, hy, e⟩ := List.mem_map.mp w
  exact hn (Sum.inr.inj e ▸ hy))]
 unfold dP
 rw [md hl, List.map_append]
 rfl
def NowAt.lt {c : CH} {q : Nl} {ls : List Int} {t : Sta} (N : NowAt c q ls t) : ∀ z ∈ q.all, z < c.length := by
 have sh : ∀ {ps : List Nat} {s : List (Str × List Int)}, ShAt c ps s -> ∀ z ∈ ps, z < c.length := fun {ps} => by
  induction ps with
  | nil => intro s _ z hz; cases hz
  | cons p ps ih =>
   intro s h z hz
   cases s with
   | nil => exact h.elim
   | cons a s =>
    rcases List.mem_cons.mp hz with rfl | hz
    · exact (gX h.1).1
    · exact ih h.2 z hz
 intro z hz
 simp only [Nl.all, List.mem_cons] at hz
 rcases hz with rfl | rfl | rfl | rfl | rfl | hz
 · exact (gX N.hn).1
 · exact (gX N.hb).1
 · exact (gX N.hc).1
 · exact (gX N.hs).1
 · exact (gX N.hl).1
 · exact sh N.hp z hz
def Nl.more (q : Nl) (z : Nat) : Nl := { q with ps := q.ps ++ [z] }
def NowAt.grow {c : CH} {q : Nl} {ls : List Int} {t : Sta} (N : NowAt c q ls t) (o : CO) (x : Str) (vs : List Int) : NowAt ((c ++ [o, li vs]).set q.s (.dK (dP (t.sh.map (·.1) ++ [x]) (q.ps ++ [c.length + 1])))) (q.more (c.length + 1)) ls { t with sh := t.sh ++ [(x, vs)] } := by
 have hlt := N.lt
 have nd := N.nd
 have nd' := N.nd
 simp only [Nl.all, List.nodup_cons, List.mem_cons, not_or] at nd
 obtain ⟨⟨n1, n2, n3, n4, n5⟩, ⟨b1, b2, b3, b4⟩, ⟨c1, c2, c3⟩, ⟨s1, s2⟩, l1, nd⟩ := nd
 have N1 : NowAt (c ++ [o, li vs]) q ls t := N.app
 have hsl : q.s < (c ++ [o, li vs]).length := (gX N1.hs).1
 have hnew : c.length + 1 ∉ q.all := fun z => by have := hlt _ z; omega
 have hs' : q.s ≠ c.length + 1 := fun e => hnew (by rw [<- e]; simp [Nl.all])
 have hz : ((c ++ [o, li vs]).set q.s (.dK (dP (t.sh.map (·.1) ++ [x]) (q.ps ++ [c.length + 1]))))[c.length + 1]? = some (li vs) := by
  rw [gN hs', gR (by omega)]
  simp
 refine ⟨(gN (Ne.symm n3)).trans N1.hn, (gN (Ne.symm b2)).trans N1.hb, (gN (Ne.symm c1)).trans N1.hc, ?_, (gN s1).trans N1.hl, ShAt.snoc hz (N1.hp.frame fun z hz => cH s2 hz), ?_⟩
 · show ((c ++ [o, li vs]).set q.s _)[q.s]? = _
   rw [List.getElem?_set_self hsl, List.map_append]
   rfl
 · have e : (q.more (c.length + 1)).all = q.all ++ [c.length + 1] := by simp [Nl.all, Nl.more]
   rw [e]
   exact List.nodup_append.mpr ⟨nd', by simp, fun a ha b hb e => by rw [List.mem_singleton.mp hb] at e; exact hnew (e ▸ ha)⟩
def jk {A B C : Dt} {ls : List Int} {cl : Al} {m : Nat} : ∀ {hs : List Hd} {q : Nl} {done : List (Str × List Int)} {c : CH} {x4 x5 x6 x7 : Option CV}, NowAt c q ls ⟨[], cl, done, 0⟩ -> (∀ z ∈ q.all, m <= z) -> (done.map (·.1) ++ hs.map (·.1)).Nodup -> done.length + hs.length < 400 -> (∀ h ∈ hs, 0 <= h.2.1 /\ h.2.1 <= 300) →
  ∃ q' c' y4 y6 y7, dW [4, 7, 6] (fO 3 (aY (ax 4) (aY (ax 7) (aY (ax 6) fN)))) z32 (hs.map hdD) (sl8 A B C q.n x4 x5 x6 x7) c = some (.nx (sl8 A B C q'.n y4 x5 y6 y7) c') /\ q'.n = q.n /\ NowAt c' q' ls ⟨[], cl, done ++ sh0 hs, 0⟩ /\ Keeps m c c' /\ ∀ z ∈ q'.all, m <= z
 | [], q, done, c, x4, x5, x6, x7, N, hm, _, _, _ => ⟨q, c, x4, x6, x7, rfl, rfl, by simpa [sh0] using N, Keeps.refl, hm⟩
 | h :: hs, q, done, c, x4, x5, x6, x7, N, hm, nd, hl, hz => by
  have hlt := N.lt
  have hn : h.1 ∉ done.map (·.1) := fun z => by
   have := (List.nodup_append.mp nd).2.2 _ z h.1 (by simp)
   exact this rfl
  have hml : m <= c.length := Nat.le_of_lt (Nat.lt_of_le_of_lt (hm q.n (by simp [Nl.all])) (hlt q.n (by simp [Nl.all])))
  have N1 : NowAt (c ++ [.lst [.dat (.int 0)], li (cL h)]) q ls ⟨[], cl, done, 0⟩ := N.app
  obtain ⟨hz0, hz1⟩ := hz h (by simp)
  have e1 : lL (eN (dl (af (kD (.int 0)) aF))) (eD (vL 7)) (sl8 A B C q.n (some (.dat (.str h.1))) x5 (some (.dat (.bl h.2.2))) (some (.dat (.int h.2.1)))) c = some (.ref (c.length + 1), c ++ [.lst [.dat (.int 0)], li (cL h)]) := by
   unfold lL
   rw [show eN (dl (af (kD (.int 0)) aF)) (sl8 A B C q.n (some (.dat (.str h.1))) x5 (some (.dat (.bl h.2.2))) (some (.dat (.int h.2.1)))) c = some (.ref c.length, c ++ [.lst [.dat (.int 0)]]) from rfl, Option.bind_some]
   dsimp only
   rw [aJ (d := .int h.2.1) (bz rfl), Option.bind_some]
   simp only [dj]
   rw [if_pos ⟨hz0, by omega, by have : sizeLine ≥ 1000 := by decide
                                 simp; omega⟩, lW]
   simp [li, cL]
  have e : z32 (sl8 A B C q.n (some (.dat (.str h.1))) x5 (some (.dat (.bl h.2.2))) (some (.dat (.int h.2.1)))) c = some (.nx (sl8 A B C q.n (some (.dat (.str h.1))) x5 (some (.dat (.bl h.2.2))) (some (.dat (.int h.2.1)))) ((c ++ [.lst [.dat (.int 0)], li (cL h)]).set q.s (.dK (dP (done.map (·.1) ++ [h.1]) (q.ps ++ [c.length + 1]))))) := by
   unfold z32
   exact cw e1 (ent N1 rfl (c := .ref q.s) rfl) (aJ (d := .str h.1) (bz rfl)) N1.hs (w6 (by rw [List.length_map]; exact N.hp.len.symm) hn (List.nodup_append.mp nd).1 (by rw [List.length_map]; simp only [List.length_cons] at hl; show done.length < 500; omega))
  obtain ⟨q', c', y4, y6, y7, e', en, N', K', hm'⟩ := jk (A := A) (B := B) (C := C) (m := m) (hs := hs) (x4 := some (.dat (.str h.1))) (x5 := x5) (x6 := some (.dat (.bl h.2.2))) (x7 := some (.dat (.int h.2.1))) (N.grow (.lst [.dat (.int 0)]) h.1 (cL h)) (fun z hz => by
      have e : (q.more (c.length + 1)).all = q.all ++ [c.length + 1] := by simp [Nl.all, Nl.more]
      rw [e] at hz
      rcases List.mem_append.mp hz with hz | hz
      · exact hm z hz
      · rw [List.mem_singleton.mp hz]; omega) (by simpa [List.append_assoc] using nd) (by simp only [List.length_append, List.length_cons, List.length_nil] at hl ⊢; omega) (fun z hz' => hz z (by simp [hz']))
  refine ⟨q', c', y4, y6, y7, ?_, en, by simpa [sh0, List.append_assoc] using N', ((Keeps.app hml).trans (Keeps.set (hm _ (by simp [Nl.all])))).trans K', hm'⟩
  rw [List.map_cons, u2 (by decide) (by decide) (by decide) (by show 4 < 8; decide) (by show 7 < 8; decide) (by show 6 < 8; decide) e]
  exact e'
def cM {fk fv : Fg} {r : List (Fg × Fg)} {δ : Sl} {ch ch1 ch2 : CH} {d : Dt} {k : Key} {v : CV} {ps : List (Key × CV)} (hk : fk δ ch = some (.dat d, ch)) (hkd : dU d = some k) (hv : fv δ ch = some (v, ch1)) (hr : ge r δ ch1 = some (ps, ch2)) : ge ((fk, fv) :: r) δ ch = some ((k, v) :: ps, ch2) := by
 show ((fk δ ch).bind fun p => match p.1 with
  | .dat d => (dU d).bind fun k => (fv δ p.2).bind fun q => (ge r δ q.2).map fun z => ((k, q.1) :: z.1, z.2)
  | _ => none) = _
 rw [hk, Option.bind_some]
 simp only [hkd, hv, hr, Option.bind_some, Option.map_some]
def me {ch : CH} {ls : List Int} {cs ss : List Hd} (hc : (cs.map (·.1)).Nodup) (hs : (ss.map (·.1)).Nodup) (hcl : cs.length < 300) (hsl : ss.length < 300) (hz : ∀ h ∈ ss, 0 <= h.2.1 /\ h.2.1 <= 300) :
  ∃ q c', q29 [.dat (.lst (cs.map hdD)), .dat (.lst (ss.map hdD)), .dat (.lst (ls.map .int))] ch = some (.ref q.n, c') /\ NowAt c' q ls (t0 cs ss) /\ Keeps ch.length ch c' /\ ∀ z ∈ q.all, ch.length <= z := by
 unfold q29
 rw [bC]
 let q0 : Nl := ⟨ch.length, ch.length + 1, ch.length + 2, ch.length + 3, ch.length + 4, []⟩
 let A := Dt.lst (cs.map hdD)
 let B := Dt.lst (ss.map hdD)
 let C := Dt.lst (ls.map Dt.int)
 show ∃ q c', bM (aq _ _ [some (.dat A), some (.dat B), some (.dat C), none, none, none, none, none] ch) = _ /\ _
 have ed : lM [((eD (kD (.str "boxes"))), (eN dg)), ((eD (kD (.str "cells"))), (eN dg)), ((eD (kD (.str "shelves"))), (eN dg)), ((eD (kD (.str "letters"))), (eN (aN df (af (vB 2) aF)))), ((eD (kD (.str "heard"))), (eD (kD (.int 0))))] [some (.dat A), some (.dat B), some (.dat C), none, none, none, none, none] ch
     = some (.ref ch.length, ch ++ [no q0 0, .dK [], .dK [], .dK [], li ls]) := by
  have e1 : eN (aN df (af (vB 2) aF)) [some (.dat A), some (.dat B), some (.dat C), none, none, none, none, none] (ch ++ [.dK []] ++ [.dK []] ++ [.dK []] ++ [.dK []]) = some (.ref (ch.length + 4), ch ++ [.dK []] ++ [.dK []] ++ [.dK []] ++ [.dK []] ++ [li ls]) := by
   rw [kP (l := ls.map .int) (by show ((af (vB 2) aF (lo _ _)).bind df) = _; unfold af; rw [cC (d := C) rfl]; rfl), List.map_map]
   simp [li]
  have e2 := cM (δ := [some (.dat A), some (.dat B), some (.dat C), none, none, none, none, none]) (fk := eD (kD (.str "boxes"))) (ch := ch ++ [.dK []]) (d := .str "boxes") rfl rfl (show eN dg _ _ = some (.ref (ch ++ [CO.dK []]).length, ch ++ [.dK []] ++ [.dK []]) from rfl)
   (cM (fk := eD (kD (.str "cells"))) (d := .str "cells") rfl rfl (show eN dg _ _ = some (.ref (ch ++ [CO.dK []] ++ [CO.dK []]).length, ch ++ [.dK []] ++ [.dK []] ++ [.dK []]) from rfl)
   (cM (fk := eD (kD (.str "shelves"))) (d := .str "shelves") rfl rfl (show eN dg _ _ = some (.ref (ch ++ [CO.dK []] ++ [CO.dK []] ++ [CO.dK []]).length, ch ++ [.dK []] ++ [.dK []] ++ [.dK []] ++ [.dK []]) from rfl)
   (cM (fk := eD (kD (.str "letters"))) (d := .str "letters") rfl rfl e1 (cM (fk := eD (kD (.str "heard"))) (fv := eD (kD (.int 0))) (d := .str "heard") (v := .dat (.int 0)) (r := []) rfl rfl rfl rfl))))
  unfold lM
  rw [e2, Option.bind_some]
  dsimp only
  rw [show (ch ++ [CO.dK []] ++ [.dK []] ++ [.dK []] ++ [.dK []] ++ [li ls])[ch.length]? = some (.dK []) by simp]
  dsimp only
  rw [if_pos ⟨by simp, by simp only [List.map_cons, List.map_nil]; decide +kernel⟩]
  simp [no, nd', q0]
 have N0 : NowAt (ch ++ [no q0 0, .dK [], .dK [], .dK [], li ls]) q0 ls ⟨[], [], [], 0⟩ := by
  have g : ∀ {i : Nat} {o : CO}, ([no q0 0, .dK [], .dK [], .dK [], li ls] : CH)[i]? = some o -> (ch ++ [no q0 0, .dK [], .dK [], .dK [], li ls])[ch.length + i]? = some o := fun {i o} h => by
   rw [gR (by omega), show ch.length + i - ch.length = i by omega]
   exact h
  exact ⟨g (i := 0) rfl, g (i := 1) rfl, g (i := 2) rfl, g (i := 3) rfl, g (i := 4) rfl, trivial, by simp [Nl.all, q0]⟩
 rw [av, aM ed, am]
 show ∃ q c', bM (aq _ _ (sl8 A B C q0.n none none none none) (ch ++ [no q0 0, .dK [], .dK [], .dK [], li ls])) = _ /\ _
 obtain ⟨c1, y4, y5, y6, e1, N1, K1⟩ := ma (A := A) (B := B) (C := C) (m := ch.length) (show ch.length <= q0.c by simp [q0]) (hs := cs) (x4 := none) (x5 := none) (x6 := none) (x7 := none) N0 (by simpa using hc) (by simp; omega)
 have hi : ∀ (x4 x5 x6 x7 : Option CV) (c : CH), fIt (vL 0) (lo (sl8 A B C q0.n x4 x5 x6 x7) c) = some (cs.map hdD) := fun x4 x5 x6 x7 c => by unfold fIt; rw [bz (d := A) rfl]; rfl
 have hi2 : ∀ (x4 x5 x6 x7 : Option CV) (c : CH), fIt (vL 1) (lo (sl8 A B C q0.n x4 x5 x6 x7) c) = some (ss.map hdD) := fun x4 x5 x6 x7 c => by unfold fIt; rw [bz (d := B) rfl]; rfl
 obtain ⟨q', c2, z4, z6, z7, e2, en, N2, K2, hge⟩ := jk (A := A) (B := B) (C := C) (m := ch.length) (hs := ss) (x4 := y4) (x5 := y5) (x6 := y6) (x7 := none) N1 (by simp [Nl.all, q0]) (by simpa using hs) (by simp; omega) hz
 rw [av, show ∀ c, di (fIt (vL 0)) [4, 5, 6] (fO 3 (aY (ax 4) (aY (ax 5) (aY (ax 6) fN)))) z31 (sl8 A B C q0.n none none none none) c = dW [4, 5, 6] (fO 3 (aY (ax 4) (aY (ax 5) (aY (ax 6) fN)))) z31 (cs.map hdD) (sl8 A B C q0.n none none none none) c from fun c => by unfold di; rw [hi]; rfl, e1, am]
 rw [av, show ∀ c, di (fIt (vL 1)) [4, 7, 6] (fO 3 (aY (ax 4) (aY (ax 7) (aY (ax 6) fN)))) z32 (sl8 A B C q0.n y4 y5 y6 none) c = dW [4, 7, 6] (fO 3 (aY (ax 4) (aY (ax 7) (aY (ax 6) fN)))) z32 (ss.map hdD) (sl8 A B C q0.n y4 y5 y6 none) c from fun c => by unfold di; rw [hi2]; rfl, e2, am]
 refine ⟨q', c2, ?_, by simpa [t0] using N2, ((Keeps.app (Nat.le_refl _)).trans K1).trans K2, hge⟩
 rw [aX (aP (v := .ref q'.n) rfl)]
 rfl
def vb (n : Int) : Int := (je n).choose
def u3 (n : Int) : q16 [.int n] = some (.leaf (.int (vb n))) := (je n).choose_spec.1
def nmD (nm : List Str) : Dt := .lst (nm.map .str)
def inD (vs : List Int) : Dt := .lst (vs.map .int)
def jY (nm : List Str) (vs : List Int) (k : Nat) : Hd := (nm.getD k "", vb (vs.getD k 0), decide (vs.getD k 0 / 5 % 3 = 0))
def fC (nm : List Str) (vs : List Int) (k : Nat) : Hd := (nm.getD (8 + k) "", 1 + vs.getD (8 + k) 0 % 8, decide (vs.getD (8 + k) 0 / 8 % 3 = 0))
def w8 (nm : List Str) (vs : List Int) (k : Nat) (hk : k < nm.length) (hv : k < vs.length) : y60 [some (.leaf (.int (0 + (k : Int)))), some (.leaf (nmD nm)), some (.leaf (inD vs))] = some (hdD (jY nm vs k)) := by
 unfold y60 nmD inD
 rw [Int.zero_add]
 walk_at "d"
 rw [cy Dt.str nm k hk "", cy Dt.int vs k hv 0]
 walk_at "d"
 rw [u3]
 walk_at "d"
 rfl
def uj (nm : List Str) (vs : List Int) (k : Nat) (hk : 8 + k < nm.length) (hv : 8 + k < vs.length) : z61 [some (.leaf (.int (0 + (k : Int)))), some (.leaf (nmD nm)), some (.leaf (inD vs))] = some (hdD (fC nm vs k)) := by
 unfold z61 nmD inD
 rw [Int.zero_add]
 walk_at "d"
 rw [show (8 : Int) + (k : Int) = ((8 + k : Nat) : Int) from rfl, cy Dt.str nm (8 + k) hk "", cy Dt.int vs (8 + k) hv 0]
 walk_at "d"
 rfl
def jl {fe : De -> Option Dt} {δ0 : De} {m : Nat} {f : Nat -> Hd} (h : ∀ k < m, fe (δ0.set 0 (some (.leaf (.int (0 + (k : Int)))))) = some (hdD (f k))) : dJ (ax 0) bv fe δ0 (bK 0 m) = some (((List.range m).map f).map hdD) := by
 rw [dN (f := fun d => match d with
  | .int k => hdD (f k.toNat)
  | d => d) fun d hd => by
  obtain ⟨i, hi, rfl⟩ := mem_range hd
  refine ⟨_, rfl, rfl, ?_⟩
  rw [h i hi]
  show some (hdD (f i)) = some (hdD (f (0 + (i : Int)).toNat))
  rw [show (0 + (i : Int)).toNat = i by omega]]
 congr 1
 apply List.ext_getElem?
 intro j
 simp only [List.getElem?_map, bK]
 by_cases hj : j < m
 · simp [hj]
 · simp [hj]
def q114 (nm : List Str) (o m : Nat) (h : o + m <= nm.length) : (List.range m).map (fun k => nm.getD (o + k) "") = (nm.drop o).take m := by
 apply List.ext_getElem?
 intro j
 rw [List.getElem?_map, List.getElem?_take]
 by_cases hj : j < m
 · rw [if_pos hj, List.getElem?_drop, List.getElem?_range hj, gQ (show o + j < nm.length by omega)]
   simp [show o + j < nm.length by omega]
 · rw [if_neg hj, List.getElem?_eq_none (by simp; omega)]
   rfl
section
variable {c c' : CH} {p pb : Pl} {q : Nl} {rows : List Dt} {on : List CV} {ls : List Int} {k kb : Nat} {n nb : Int} {t t' tb : Sta}
def ShAt.lt {c : CH} : ∀ {ps : List Nat} {s : List (Str × List Int)}, ShAt c ps s -> ∀ z ∈ ps, z < c.length
 | [], _, _, z, hz => by cases hz
 | _ :: _, [], h, _, _ => h.elim
 | p :: ps, a :: s, h, z, hz => by
  rcases List.mem_cons.mp hz with rfl | hz
  · exact (gX h.1).1
  · exact ShAt.lt h.2 z hz
def RunAt.lt (R : RunAt c p rows on ls k n t) : ∀ z ∈ p.all, z < c.length := by
 intro z hz
 simp only [Pl.all, List.mem_cons] at hz
 rcases hz with rfl | rfl | rfl | rfl | rfl | rfl | rfl | hz
 · exact (gX R.hr).1
 · exact (gX R.ho).1
 · exact (gX R.hi).1
 · exact (gX R.hg).1
 · exact (gX R.hb).1
 · exact (gX R.hc).1
 · exact (gX R.hs).1
 · exact R.hp.lt z hz
def Dis (a b : List Nat) : Prop := ∀ z ∈ a, z ∉ b
def Dis.symm {a b : List Nat} (h : Dis a b) : Dis b a := fun z hz hb => h z hb hz
noncomputable def sl15 (D : Nat -> Dt) (i9 r rb m : Nat) (x f : Option CV) : Sl := [some (.dat (D 0)), some (.dat (D 1)), some (.dat (D 2)), some (.dat (D 3)), some (.dat (D 4)), some (.dat (D 5)), some (.dat (D 6)), some (.dat (D 7)), some (.dat (D 8)), some (.ref i9), some (.ref r), some (.ref rb), some (.ref m), x, f]
def g9 {D : Nat -> Dt} {i9 rb m : Nat} {x f : Option CV} {bs : List Str} {δ : Sl} {i j : Nat} (hi : δ[i]? = some (some (.ref p.r))) (hj : δ[j]? = some (some (.ref q.n))) (h5 : δ[5]? = some (some (.dat (.lst (bs.map .str))))) (R : RunAt c p rows on ls k n t) (N : NowAt c q ls t) (hd : Dis q.all p.all) (h0 : ∀ p ∈ t.sh, 0 < p.2.length /\ p.2.length < 300) :
  ∃ g, eC q17 (ah (eV i) (ah (eV j) (ah (eD (vL 5)) aB))) δ c = some (.dat (.bl true), c ++ g) := by
 obtain ⟨g, e⟩ := pD R N hd h0 bs
 exact ⟨g, by rw [lP (aH (aP hi) (aH (aP hj) (aH (aJ (bz h5)) rfl)))]; exact e⟩
def uk {D : Nat -> Dt} {i9 : Nat} {f : Option CV} {bs : List Str} {row : Dt} {m : Nat} (h5 : D 5 = .lst (bs.map .str)) (R : RunAt c p rows on ls k n t) (N : NowAt c q ls t) (B : RunAt c pb rows on ls kb nb tb) (d1 : Dis q.all p.all) (d2 : Dis p.all pb.all) (d3 : Dis q.all pb.all) (w : Wf m t) (hm : m < 200) (hls : ls.length < 300)
  (s : Stp ls t row t') (hrow : rows[k]? = some row) (ho : on[k]? = some (.dat (.tup [.int ((k + 1 : Nat) : Int)]))) :
  ∃ c', q61 (sl15 D i9 p.r pb.r q.n (some (.dat row)) f) c = some (.nx (sl15 D i9 p.r pb.r q.n (some (.dat row)) f) c') /\ RunAt c' p rows on ls (k + 1) (n + 1) t' /\ NowAt c' q ls t' /\ RunAt c' pb rows on ls kb nb tb := by
 obtain ⟨g, e1⟩ := g9 (D := D) (i9 := i9) (rb := 0) (m := 0) (x := none) (f := none) (δ := sl15 D i9 p.r pb.r q.n (some (.dat row)) f) (i := 10) (j := 12) rfl rfl (by rw [<- h5]; rfl) R N d1 w.s0
 have R1 : RunAt (c ++ g) p rows on ls k n t := R.app
 have N1 : NowAt (c ++ g) q ls t := N.app
 have B1 : RunAt (c ++ g) pb rows on ls kb nb tb := B.app
 obtain ⟨c2, e2, R2, L2⟩ := ua R1 w (by omega) s hrow ho
 have N2 : NowAt c2 q ls t := N1.frame fun z hz => L2.out z (d1 z hz)
 have B2 : RunAt c2 pb rows on ls kb nb tb := B1.frame fun z hz => L2.out z (d2.symm z hz)
 obtain ⟨c3, e3, N3, L3⟩ := ud N2 w (by omega) hls s
 have R3 : RunAt c3 p rows on ls (k + 1) (n + 1) t' := R2.frame fun z hz => L3.out z (R2.lt z hz) (d1.symm z hz)
 have B3 : RunAt c3 pb rows on ls kb nb tb := B2.frame fun z hz => L3.out z (B2.lt z hz) (d3.symm z hz)
 refine ⟨c3, ?_, R3, N3, B3⟩
 unfold q61
 rw [av, dB, show eU (eX (eC q17 (ah (eV 10) (ah (eV 12) (ah (eD (vL 5)) aB))))) (sl15 D i9 p.r pb.r q.n (some (.dat row)) f) c = some (false, c ++ g) by unfold eU; rw [gA e1]; rfl, cV]
 show d8 (some (.nx _ (c ++ g))) _ = _
 rw [am, av, g6 (by rw [du (aP rfl) R1.hr (by decide +kernel) rfl]; exact e2), am, g6 (by rw [lP (aH (aJ (bz rfl)) (aH (aP rfl) rfl))]; exact e3)]
def oG {D : Nat -> Dt} {i9 : Nat} {f : Option CV} {bs : List Str} {cs ss : List Str} (h5 : D 5 = .lst (bs.map .str)) (d1 : Dis q.all p.all) (d2 : Dis p.all pb.all) (d3 : Dis q.all pb.all) (hls : ls.length < 300) :
  ∀ {rest : List Dt} {k : Nat} {n : Int} {t : Sta} {c : CH} {x : Option CV} {m : Nat}, RunAt c p rows on ls k n t -> NowAt c q ls t -> RunAt c pb rows on ls kb nb tb -> Wf m t -> m + rest.length < 200 -> t.cl.map (·.1) = cs -> t.sh.map (·.1) = ss -> (∀ r ∈ rest, Row cs ss r) -> (∀ i r, rest[i]? = some r -> rows[k + i]? = some r /\ on[k + i]? = some (.dat (.tup [.int ((k + i + 1 : Nat) : Int)]))) →
  ∃ c' x' k' n' t', dW [13] (ax 13) q61 rest (sl15 D i9 p.r pb.r q.n x f) c = some (.nx (sl15 D i9 p.r pb.r q.n x' f) c') /\ RunAt c' p rows on ls k' n' t' /\ NowAt c' q ls t' /\ RunAt c' pb rows on ls kb nb tb /\ (∀ p ∈ t'.sh, 0 < p.2.length /\ p.2.length < 300)
 | [], k, n, t, c, x, m, R, N, B, w, _, _, _, _, _ => ⟨c, x, k, n, t, rfl, R, N, B, w.s0⟩
 | r :: rest, k, n, t, c, x, m, R, N, B, w, hm, hc, hs, hr, ha => by
  have hr0 : Row (t.cl.map (·.1)) (t.sh.map (·.1)) r := by rw [hc, hs]; exact hr r (by simp)
  obtain ⟨t', s⟩ := hr0.stp (ls := ls)
  obtain ⟨h1, h2⟩ := ha 0 r rfl
  obtain ⟨c1, e1, R1, N1, B1⟩ := uk (i9 := i9) (f := f) (D := D) h5 R N B d1 d2 d3 w (by omega) hls s (by simpa using h1) (by simpa using h2)
  simp only [List.length_cons] at hm
  obtain ⟨c2, x2, k2, n2, t2, e2, h⟩ := oG h5 d1 d2 d3 hls (i9 := i9) (f := f) (D := D) (rest := rest) (x := some (.dat r)) R1 N1 B1 (s.wf w) (by omega) (by rw [s.cl_keys]; exact hc) (by rw [s.sh_keys]; exact hs) (fun z hz => hr z (by simp [hz])) (fun i z hz => by
   have := ha (i + 1) z (by simpa using hz)
   rw [show k + (i + 1) = k + 1 + i by omega] at this
   exact this)
  refine ⟨c2, x2, k2, n2, t2, ?_, h⟩
  rw [ox (δ2 := sl15 D i9 p.r pb.r q.n (some (.dat r)) f) (ch2 := c1) (by show 13 < 15; decide) e1]
  exact e2
end
def rO {cn : Str} {g : Fd} {fs : Fgs} {δ : Sl} {ch ch1 ch2 : CH} {cs : List CV} (h1 : fs δ ch = some (cs, ch1)) (h2 : g (.ref ch1.length :: cs) (ch1 ++ [.ins cn [] []]) = some (.dat .non, ch2)) (h3 : ch1.length < ch2.length) : eMk cn g fs δ ch = some (.ref ch1.length, ch2) := by
 unfold eMk
 rw [h1, Option.bind_some]
 dsimp only
 rw [h2, Option.bind_some]
 dsimp only
 rw [if_pos h3]
noncomputable def sd (D : Nat -> Dt) (x9 x10 x11 x12 x13 x14 : Option CV) : Sl := [some (.dat (D 0)), some (.dat (D 1)), some (.dat (D 2)), some (.dat (D 3)), some (.dat (D 4)), some (.dat (D 5)), some (.dat (D 6)), some (.dat (D 7)), some (.dat (D 8)), x9, x10, x11, x12, x13, x14]
def rP {c : CH} {p : Pl} {rows : List Dt} {on : List CV} {ls : List Int} {k : Nat} {n : Int} {t : Sta} (R : RunAt c p rows on ls k n t) : q26 [.ref p.r] c = some (.dat (.int k), c) := by
 unfold q26
 rw [bC]
 simp only [List.map_cons, List.map_nil, List.length_cons, List.length_nil, List.cons_append, List.nil_append, Nat.reduceAdd, Nat.reduceSub, List.replicate]
 rw [aX (cD (x := .dat (.int k)) (aP rfl) R.hr rfl)]
 rfl
def rQ {base : CH} {ns : List Str} {l : List CV} {G : CH} : base.length < (mk base ns l G).length := by rw [fB]; omega
def RunAt.keep {c c' : CH} {p : Pl} {rows : List Dt} {on : List CV} {ls : List Int} {k : Nat} {n : Int} {t : Sta} (R : RunAt c p rows on ls k n t) (K : Keeps c.length c c') : RunAt c' p rows on ls k n t := R.frame fun z hz => K.out z (R.lt z hz)
def NowAt.keep {c c' : CH} {q : Nl} {ls : List Int} {t : Sta} (N : NowAt c q ls t) (K : Keeps c.length c c') : NowAt c' q ls t := N.frame fun z hz => K.out z (N.lt z hz)
def ul {D : Nat -> Dt} {cs ss : List Hd} {bs : List Str} {ls : List Int} {rr : List Dt} (h3 : D 3 = .lst (cs.map hdD)) (h4 : D 4 = .lst (ss.map hdD)) (h5 : D 5 = .lst (bs.map .str)) (h6 : D 6 = .lst (ls.map .int)) (h7 : D 7 = .lst rr) (h8 : D 8 = prog cs ss (rr ++ [.tup [.str "end", .int 3]]))
  (hc : (cs.map (·.1)).Nodup) (hs : (ss.map (·.1)).Nodup) (hcl : cs.length < 100) (hsl : ss.length < 100) (hz : ∀ h ∈ ss, 0 < h.2.1 /\ h.2.1 <= 100) (hls : ls.length < 100) (hrl : rr.length < 100) (hr : ∀ r ∈ rr, Row (cs.map (·.1)) (ss.map (·.1)) r) :
  ∃ c, bM (aq (bd 9 (eN (aN df (af (vB 6) aF))))
  (aq (bd 10 (eMk "Plain" y17 (ah (eD (vL 8)) (ah (eV 9) aB))))
  (aq (jV (eV 9))
  (aq (bd 11 (eMk "Plain" y17 (ah (eD (vL 8)) (ah (eD (vL 6)) aB))))
  (aq (bd 12 (eC q29 (ah (eD (vL 3)) (ah (eD (vL 4)) (ah (eD (vL 6)) aB)))))
  (aq (di (fIt (vL 7)) [13] (ax 13) q61)
  (aq (bd 14 (eC q29 (ah (eD (vL 3)) (ah (eD (vL 4)) (ah (eD (vL 6)) aB)))))
  (bt (kz (eC q17 (ah (eV 10) (ah (eV 12) (ah (eD (vL 5)) aB)))) (kz (eC q17 (ah (eV 11) (ah (eV 14) (ah (eD (vL 5)) aB)))) (e2 (gEq false) (eM "Plain" "stands" q26 (eV 11) aB) (eD (kD (.int 0)))))))))))))
   (sd D none none none none none none) []) = some (.dat (.bl true), c) := by
 obtain ⟨ws, hw, hon⟩ := ui (cs := cs.map (·.1)) (ss := ss.map (·.1)) (rr := rr) (a := .int 3) (p := .tup (cs.map hdD)) (q := .tup (ss.map hdD)) (by omega) hr
 have hz' : ∀ h ∈ ss, 0 <= h.2.1 /\ h.2.1 <= 300 := fun h hh => by have := hz h hh; omega
 have a3 : ∀ {x9 x10 x11 x12 x13 x14 : Option CV} {c : CH}, eD (vL 3) (sd D x9 x10 x11 x12 x13 x14) c = some (.dat (.lst (cs.map hdD)), c) := by intros; rw [<- h3]; exact aJ (bz rfl)
 have a4 : ∀ {x9 x10 x11 x12 x13 x14 : Option CV} {c : CH}, eD (vL 4) (sd D x9 x10 x11 x12 x13 x14) c = some (.dat (.lst (ss.map hdD)), c) := by intros; rw [<- h4]; exact aJ (bz rfl)
 have a6 : ∀ {x9 x10 x11 x12 x13 x14 : Option CV} {c : CH}, eD (vL 6) (sd D x9 x10 x11 x12 x13 x14) c = some (.dat (.lst (ls.map .int)), c) := by intros; rw [<- h6]; exact aJ (bz rfl)
 have a8 : ∀ {x9 x10 x11 x12 x13 x14 : Option CV} {c : CH}, eD (vL 8) (sd D x9 x10 x11 x12 x13 x14) c = some (.dat (prog cs ss (rr ++ [.tup [.str "end", .int 3]])), c) := by intros; rw [<- h8]; exact aJ (bz rfl)
 have e9 : eN (aN df (af (vB 6) aF)) (sd D none none none none none none) [] = some (.ref 0, [li ls]) := by
  rw [kP (l := ls.map .int) (by show ((af (vB 6) aF (lo _ _)).bind df) = _; unfold af; rw [cC (d := D 6) rfl, h6]; rfl), List.map_map]
  rfl
 rw [av, aM e9, am]
 show ∃ c, bM (aq _ _ (sd D (some (.ref 0)) none none none none none) [li ls]) = _
 have i1 := oF (base := [li ls]) (L := .ref 0) (ls := ls) (.inr ⟨0, rfl, rfl⟩) hw hc hs (by omega) (by omega) hz'
 have R1 := lZ (base := [li ls]) (ls := ls) (cs := cs) (ss := ss) (rows := rr ++ [.tup [.str "end", .int 3]]) (ws := ws)
 rw [av, aM (rO (aH a8 (aH (aP rfl) rfl)) i1 rQ), am]
 generalize hc1 : mk [li ls] fns (pv (pl0 [li ls].length ss.length ss) (rr ++ [.tup [.str "end", .int 3]]) 0 0 0) (gI ws ls cs ss [li ls].length) = c1 at R1
 have hp1 := rM [li ls].length ss
 have hlen1 : c1.length = 1 + 1 + (gI ws ls cs ss 1).length := by rw [<- hc1, fB]; rfl
 generalize hpp : pl0 [li ls].length ss.length ss = p at R1 hp1
 have hr1 : p.r = [li ls].length := by rw [<- hpp]; rfl
 have c10 : c1[0]? = some (li ls) := by rw [<- hc1]; rfl
 show ∃ c, bM (aq _ _ (sd D (some (.ref 0)) (some (.ref [li ls].length)) none none none none) c1) = _
 rw [<- hr1, av, show jV (eV 9) (sd D (some (.ref 0)) (some (.ref p.r)) none none none none) c1 = some (.nx (sd D (some (.ref 0)) (some (.ref p.r)) none none none none) (c1.set 0 (.lst []))) by
  unfold jV
  rw [aP (v := .ref 0) rfl, Option.bind_some]
  simp only [c10, li], am]
 have R2 : RunAt (c1.set 0 (.lst [])) p _ _ ls 0 0 (t0 cs ss) := R1.out (fun z => by have := hp1 0 z; simp at this)
 generalize c1.set 0 (.lst []) = c2 at R2
 have i2 := oF (base := c2) (L := .dat (.lst (ls.map .int))) (ls := ls) (.inl rfl) hw hc hs (by omega) (by omega) hz'
 have B3 := lZ (base := c2) (ls := ls) (cs := cs) (ss := ss) (rows := rr ++ [.tup [.str "end", .int 3]]) (ws := ws)
 have hp2 := rM c2.length ss
 have R3 : RunAt (mk c2 fns (pv (pl0 c2.length ss.length ss) (rr ++ [.tup [.str "end", .int 3]]) 0 0 0) (gI ws ls cs ss c2.length)) p _ _ ls 0 0 (t0 cs ss) := R2.app
 rw [av, aM (rO (aH a8 (aH a6 rfl)) i2 rQ), am]
 have hr2 : (pl0 c2.length ss.length ss).r = c2.length := rfl
 generalize mk c2 fns (pv (pl0 c2.length ss.length ss) (rr ++ [.tup [.str "end", .int 3]]) 0 0 0) (gI ws ls cs ss c2.length) = c3 at B3 R3
 have hplt := R2.lt
 have d2 : Dis p.all (pl0 c2.length ss.length ss).all := fun z hz hb => by have := hplt z hz; have := (hp2 z hb).1; omega
 generalize pl0 c2.length ss.length ss = pb at B3 hp2 hr2 d2
 show ∃ c, bM (aq _ _ (sd D (some (.ref 0)) (some (.ref p.r)) (some (.ref c2.length)) none none none) c3) = _
 rw [<- hr2]
 obtain ⟨q, c4, e4, N4, K4, hq⟩ := me (ch := c3) (ls := ls) hc hs (by omega) (by omega) hz'
 rw [av, aM (by rw [lP (aH a3 (aH a4 (aH a6 rfl)))]; exact e4), am]
 show ∃ c, bM (aq _ _ (sd D (some (.ref 0)) (some (.ref p.r)) (some (.ref pb.r)) (some (.ref q.n)) none none) c4) = _
 have R4 := R3.keep K4
 have B4 := B3.keep K4
 have d1 : Dis q.all p.all := fun z hz hb => by have := hq z hz; have := R3.lt z hb; omega
 have d3 : Dis q.all pb.all := fun z hz hb => by have := hq z hz; have := B3.lt z hb; omega
 have w0 : Wf 0 (t0 cs ss) := ⟨List.nodup_nil, Nat.le_refl _, by rw [show (t0 cs ss).cl.map (·.1) = cs.map (·.1) by simp [t0, ce0]]; exact hc, by simp [t0, ce0]; omega, fun h hh => by
  obtain ⟨x, hx, rfl⟩ := List.mem_map.mp hh
  have := hz x hx
  simp only [cL, List.length_replicate]
  omega⟩
 obtain ⟨c5, x5, k5, n5, t5, e5, R5, N5, B5, w5⟩ := oG (D := D) (i9 := 0) (f := none) (x := none) h5 d1 d2 d3 (by omega) (rest := rr) R4 N4 B4 w0 (by omega) (show (t0 cs ss).cl.map (·.1) = cs.map (·.1) by simp [t0, ce0]) (show (t0 cs ss).sh.map (·.1) = ss.map (·.1) by simp [t0, sh0]) hr (fun i r hi => by
  have hil : i < rr.length := (gX hi).1
  rw [Nat.zero_add]
  refine ⟨by rw [gL hil]; exact hi, ?_⟩
  rw [List.getElem?_map, hon i hil]
  rfl)
 rw [av, show di (fIt (vL 7)) [13] (ax 13) q61 (sd D (some (.ref 0)) (some (.ref p.r)) (some (.ref pb.r)) (some (.ref q.n)) none none) c4 = some (.nx (sl15 D 0 p.r pb.r q.n x5 none) c5) by
  unfold di
  rw [show fIt (vL 7) (lo (sd D (some (.ref 0)) (some (.ref p.r)) (some (.ref pb.r)) (some (.ref q.n)) none none) c4) = some rr by unfold fIt; rw [bz (d := D 7) rfl, h7]; rfl, Option.bind_some]
  exact e5, am]
 obtain ⟨q2, c6, e6, N6, K6, hq2⟩ := me (ch := c5) (ls := ls) hc hs (by omega) (by omega) hz'
 show ∃ c, bM (aq _ _ (sd D (some (.ref 0)) (some (.ref p.r)) (some (.ref pb.r)) (some (.ref q.n)) x5 none) c5) = _
 rw [av, aM (by rw [lP (aH a3 (aH a4 (aH a6 rfl)))]; exact e6), am]
 show ∃ c, bM (bt _ (sd D (some (.ref 0)) (some (.ref p.r)) (some (.ref pb.r)) (some (.ref q.n)) x5 (some (.ref q2.n))) c6) = _
 have R6 := R5.keep K6
 have B6 := B5.keep K6
 have N6' := N5.keep K6
 have d4 : Dis q2.all pb.all := fun z hz hb => by have := hq2 z hz; have := B5.lt z hb; omega
 obtain ⟨g1, f1⟩ := g9 (D := D) (i9 := 0) (rb := 0) (m := 0) (x := none) (f := none) (bs := bs) (δ := sd D (some (.ref 0)) (some (.ref p.r)) (some (.ref pb.r)) (some (.ref q.n)) x5 (some (.ref q2.n))) (i := 10) (j := 12) rfl rfl (by rw [<- h5]; rfl) R6 N6' d1 w5
 have B7 : RunAt (c6 ++ g1) pb _ _ ls 0 0 (t0 cs ss) := B6.app
 have N7 : NowAt (c6 ++ g1) q2 ls (t0 cs ss) := N6.app
 obtain ⟨g2, f2⟩ := g9 (D := D) (i9 := 0) (rb := 0) (m := 0) (x := none) (f := none) (bs := bs) (δ := sd D (some (.ref 0)) (some (.ref p.r)) (some (.ref pb.r)) (some (.ref q.n)) x5 (some (.ref q2.n))) (i := 11) (j := 14) rfl rfl (by rw [<- h5]; rfl) B7 N7 d4 w0.s0
 have B8 : RunAt (c6 ++ g1 ++ g2) pb _ _ ls 0 0 (t0 cs ss) := B7.app
 have f3 : e2 (gEq false) (eM "Plain" "stands" q26 (eV 11) aB) (eD (kD (.int 0))) (sd D (some (.ref 0)) (some (.ref p.r)) (some (.ref pb.r)) (some (.ref q.n)) x5 (some (.ref q2.n))) (c6 ++ g1 ++ g2) = some (.dat (.bl true), c6 ++ g1 ++ g2) := by
  rw [ib (by rw [du (aP rfl) B8.hr (by decide +kernel) rfl]; exact rP B8) (aJ (d := .int 0) rfl) (y := .int ((0 : Nat) : Int)) (z := .int 0) rfl rfl wq]
  rfl
 refine ⟨c6 ++ g1 ++ g2, ?_⟩
 rw [aX (v := .dat (.bl true)) (ch1 := c6 ++ g1 ++ g2) (by
  unfold kz
  rw [f1]
  simp only [Option.bind_some, pw, if_true]
  rw [f2]
  simp only [Option.bind_some, pw, if_true]
  exact f3)]
 rfl
def oH {α : Type} (f : α -> Dt) (l : List α) (a b : Nat) (h : b <= l.length) (hab : a <= b) : gSl (.lst (l.map f)) (some (a : Int)) (some (b : Int)) = some (.lst (((l.drop a).take (b - a)).map f)) := by
 show some (T.lst (L2.sV (l.map f) (some (a : Int)) (some (b : Int)))) = _
 unfold L2.sV
 rw [HT.x8, HT.x8, List.length_map, Nat.min_eq_left h, Nat.min_eq_left (show a <= l.length by omega), List.map_take, List.map_drop]
def um {α : Type} (f : α -> Dt) (l : List α) (a b : Int) : ∃ m : List α, gSl (.lst (l.map f)) (some a) (some b) = some (.lst (m.map f)) /\ m.length <= l.length := by
 refine ⟨(l.drop (HT.sIx (l.map f).length 0 (some a))).take (HT.sIx (l.map f).length (l.map f).length (some b) - HT.sIx (l.map f).length 0 (some a)), ?_, ?_⟩
 · show some (T.lst (L2.sV (l.map f) (some a) (some b))) = _
   unfold L2.sV
   rw [List.map_take, List.map_drop]
 · simp only [List.length_take, List.length_drop]
   omega
def oI {hs : List Hd} (h : 0 < hs.length) : ∃ x : Str, (atI (hs.map hdD) (-1)).map T.leaf = some (.leaf (hdD (hs.getLast (by intro e; rw [e] at h; cases h)))) := by
 refine ⟨"", ?_⟩
 have hne : hs ≠ [] := fun e => by rw [e] at h; cases h
 have : atI (hs.map hdD) (-1) = (hs.map hdD)[hs.length - 1]? := by
  cases hs with
  | nil => cases h
  | cons a l => rw [List.map_cons, qQ]; simp
 rw [this, List.getElem?_map, <- List.getLast?_eq_getElem?, List.getLast?_eq_some_getLast hne]
 rfl
def sq (l : List Dt) : Sl := l.map (fun d => some (.dat d)) ++ List.replicate (15 - l.length) none
def mf {ch : CH} {u : List Nat} : ∀ n : Nat, loA ch u (List.replicate n none) = List.replicate n none
 | 0 => rfl
 | n + 1 => by rw [List.replicate_succ, List.replicate_succ, loA, mf n]
def u4 {ch : CH} (l : List Dt) : lo (sq l) ch = l.map (fun d => some (.leaf d)) ++ List.replicate (15 - l.length) none := by
 have key : ∀ (l : List Dt) (n : Nat) (u : List Nat), loA ch u (l.map (fun d => some (CV.dat d)) ++ List.replicate n none) = l.map (fun d => some (T.leaf d)) ++ List.replicate n none := fun l n => by
  induction l with
  | nil => intro u; exact mf n
  | cons d l ih => intro u; simp only [List.map_cons, List.cons_append, loA, ih]
 exact key l _ []
def gF {fd : De -> Option Dt} {l : List Dt} {d : Dt} {ch : CH} (h : fd (l.map (fun d => some (.leaf d)) ++ List.replicate (15 - l.length) none) = some d) : eD fd (sq l) ch = some (.dat d, ch) := aJ (by rw [u4]; exact h)
def fE {f : De -> Option Dt} {fs : De -> Option (List Dt)} {E : De} {d : Dt} {ds : List Dt} (h1 : f E = some d) (h2 : fs E = some ds) : af f fs E = some (d :: ds) := by
 unfold af
 rw [h1, h2]
 rfl
def oJ {E : De} : aF E = some [] := rfl
def uo {fs : De -> Option (List Dt)} {E : De} {a b : Dt} (h : fs E = some [a, b]) : toD (dl fs) E = some (.lst [a, b]) := by
 unfold toD dl
 rw [h]
 rfl
def up {fs : De -> Option (List Dt)} {E : De} {a b c : Dt} (h : fs E = some [a, b, c]) : toD (cI fs) E = some (.tup [a, b, c]) := by
 unfold toD cI
 rw [h]
 rfl
def main (ns : List Int) (h : ns.length <= 63) : ∃ ch', oz [.dat (.lst (ns.map .int))] [] = some (.dat (.bl true), ch') := by
 obtain ⟨nm, en, hnl, hnd⟩ := rm (ns.getD 0 0)
 obtain ⟨vs, ev, hvl, _⟩ := g7 (ns.getD 1 0) 16 (by decide)
 have c0 : q14 [.lst (ns.map .int), .int 0] = some (.leaf (.int (ns.getD 0 0))) := kK ns 0
 have c1 : q14 [.lst (ns.map .int), .int 1] = some (.leaf (.int (ns.getD 1 0))) := kK ns 1
 have c2 : q14 [.lst (ns.map .int), .int 2] = some (.leaf (.int (ns.getD 2 0))) := kK ns 2
 rw [show ((16 : Nat) : Int) = 16 from rfl] at ev
 have x12 : atI (vs.map Dt.int) 12 = some (.int (vs.getD 12 0)) := cy Dt.int vs 12 (by omega) 0
 have x13 : atI (vs.map Dt.int) 13 = some (.int (vs.getD 13 0)) := cy Dt.int vs 13 (by omega) 0
 have x14 : atI (vs.map Dt.int) 14 = some (.int (vs.getD 14 0)) := cy Dt.int vs 14 (by omega) 0
 have x15 : atI (vs.map Dt.int) 15 = some (.int (vs.getD 15 0)) := cy Dt.int vs 15 (by omega) 0
 rw [wv] at x12
 have m12 := gf (vs.getD 12 0) (m := 8) (by decide)
 have m13 := gf (vs.getD 13 0) (m := 4) (by decide)
 have m15 := gf (vs.getD 15 0) (m := 13) (by decide)
 rw [show ((8 : Nat) : Int) = 8 from rfl] at m12
 rw [show ((4 : Nat) : Int) = 4 from rfl] at m13
 rw [show ((13 : Nat) : Int) = 13 from rfl] at m15
 generalize vs.getD 12 0 = v12 at x12 m12
 generalize vs.getD 13 0 = v13 at x13 m13
 generalize vs.getD 14 0 = v14 at x14
 generalize vs.getD 15 0 = v15 at x15 m15
 obtain ⟨m3, hm3⟩ : ∃ m : Nat, 1 + v12 % 8 = (m : Int) := ⟨(1 + v12 % 8).toNat, by omega⟩
 obtain ⟨m4, hm4⟩ : ∃ m : Nat, 1 + v13 % 4 = (m : Int) := ⟨(1 + v13 % 4).toNat, by omega⟩
 obtain ⟨m6, hm6⟩ : ∃ m : Nat, v15 % 13 = (m : Int) := ⟨(v15 % 13).toNat, by omega⟩
 have ec := jl (fe := y60) (δ0 := [none, some (.leaf (nmD nm)), some (.leaf (inD vs))]) (m := m3) (f := jY nm vs) fun k hk => w8 nm vs k (by omega) (by omega)
 have es := jl (fe := z61) (δ0 := [none, some (.leaf (nmD nm)), some (.leaf (inD vs))]) (m := m4) (f := fC nm vs) fun k hk => uj nm vs k (by omega) (by omega)
 have hcn : ((List.range m3).map (jY nm vs)).map (·.1) = (nm.drop 0).take m3 := by rw [<- q114 nm 0 m3 (by omega), List.map_map]; simp [jY, Function.comp_def]
 have hsn : ((List.range m4).map (fC nm vs)).map (·.1) = (nm.drop 8).take m4 := by rw [<- q114 nm 8 m4 (by omega), List.map_map]; simp [fC, Function.comp_def]
 have hcl : ((List.range m3).map (jY nm vs)).length = m3 := by simp
 have hsl : ((List.range m4).map (fC nm vs)).length = m4 := by simp
 have hsz : ∀ h ∈ (List.range m4).map (fC nm vs), 0 < h.2.1 /\ h.2.1 <= 100 := fun h hh => by
  obtain ⟨k, _, rfl⟩ := List.mem_map.mp hh
  have := gf (vs.getD (8 + k) 0) (m := 8) (by decide)
  simp only [fC]
  omega
 generalize hcs : (List.range m3).map (jY nm vs) = cs at ec hcn hcl
 generalize hss : (List.range m4).map (fC nm vs) = ss at es hsn hsl hsz
 obtain ⟨l0, el, hll, _⟩ := g7 (ns.getD 2 0) m6 (by omega)
 obtain ⟨mm, em, hml⟩ := um Dt.int ns 4 44
 have eb1 : gSl (.lst (nm.map .str)) (some 12) (some 16) = some (.lst (((nm.drop 12).take 4).map .str)) := oH Dt.str nm 12 16 (by omega) (by decide)
 have eb2 : gSl (.lst (nm.map .str)) (some 12) (some 14) = some (.lst (((nm.drop 12).take 2).map .str)) := oH Dt.str nm 12 14 (by omega) (by decide)
 have hl4 : ((nm.drop 12).take 4).length = 4 := by simp; omega
 unfold oz
 rw [bC]
 show ∃ ch', bM (aq _ _ (sq [.lst (ns.map .int)]) []) = _
 have e1 : eD (toD (aN q38 (af (toD (aN q14 (af (vL 0) (af (kD (.int 0)) aF)))) (af (kD (.int 20)) aF)))) (sq [.lst (ns.map .int)]) [] = some (.dat (.lst (nm.map .str)), []) := gF (by
  simp only [List.map_cons, List.map_nil, List.cons_append, List.nil_append, List.length_cons, List.length_nil, List.replicate, Nat.reduceAdd, Nat.reduceSub]
  walk_at "d"
  rw [c0]
  walk_at "d"
  rw [en]
  walk_at "d")
 rw [av, aM e1, am]
 show ∃ ch', bM (aq _ _ (sq [.lst (ns.map .int), .lst (nm.map .str)]) []) = _
 have e2 : eD (toD (aN q19 (af (toD (aN q14 (af (vL 0) (af (kD (.int 1)) aF)))) (af (kD (.int 16)) aF)))) (sq [.lst (ns.map .int), .lst (nm.map .str)]) [] = some (.dat (.lst (vs.map .int)), []) := gF (by
  simp only [List.map_cons, List.map_nil, List.cons_append, List.nil_append, List.length_cons, List.length_nil, List.replicate, Nat.reduceAdd, Nat.reduceSub]
  walk_at "d"
  rw [c1]
  walk_at "d"
  rw [ev]
  walk_at "d")
 rw [av, aM e2, am]
 show ∃ ch', bM (aq _ _ (sq [.lst (ns.map .int), .lst (nm.map .str), .lst (vs.map .int)]) []) = _
 have e3 : eD (toD (cj [none, some 1, some 2] (ij jo (af (toD (d2 bV (kD (.int 1)) (toD (d2 bE (toD (d2 au (vB 2) (kD (.int 12)))) (kD (.int 8)))))) aF)) (ax 0) bv y60)) (sq [.lst (ns.map .int), .lst (nm.map .str), .lst (vs.map .int)]) [] = some (.dat (.lst (cs.map hdD)), []) := gF (by
  simp only [List.map_cons, List.map_nil, List.cons_append, List.nil_append, List.length_cons, List.length_nil, List.replicate, Nat.reduceAdd, Nat.reduceSub]
  walk_at "d"
  rw [x12]
  walk_at "d"
  rw [hm3, iZ (eS (by omega) (by omega)), Option.bind_some, Int.toNat_natCast]
  show ((dJ (ax 0) bv y60 [none, some (.leaf (nmD nm)), some (.leaf (inD vs))] (bK 0 m3)).bind _).map _ = _
  rw [ec, Option.bind_some, ga (by rw [List.length_map]; omega)]
  rfl)
 rw [av, aM e3, am]
 show ∃ ch', bM (aq _ _ (sq [.lst (ns.map .int), .lst (nm.map .str), .lst (vs.map .int), .lst (cs.map hdD)]) []) = _
 have e4 : eD (toD (cj [none, some 1, some 2] (ij jo (af (toD (d2 bV (kD (.int 1)) (toD (d2 bE (toD (d2 au (vB 2) (kD (.int 13)))) (kD (.int 4)))))) aF)) (ax 0) bv z61)) (sq [.lst (ns.map .int), .lst (nm.map .str), .lst (vs.map .int), .lst (cs.map hdD)]) [] = some (.dat (.lst (ss.map hdD)), []) := gF (by
  simp only [List.map_cons, List.map_nil, List.cons_append, List.nil_append, List.length_cons, List.length_nil, List.replicate, Nat.reduceAdd, Nat.reduceSub]
  walk_at "d"
  rw [x13]
  walk_at "d"
  rw [hm4, iZ (eS (by omega) (by omega)), Option.bind_some, Int.toNat_natCast]
  show ((dJ (ax 0) bv z61 [none, some (.leaf (nmD nm)), some (.leaf (inD vs))] (bK 0 m4)).bind _).map _ = _
  rw [es, Option.bind_some, ga (by rw [List.length_map]; omega)]
  rfl)
 rw [av, aM e4, am]
 show ∃ ch', bM (aq _ _ (sq [.lst (ns.map .int), .lst (nm.map .str), .lst (vs.map .int), .lst (cs.map hdD), .lst (ss.map hdD)]) []) = _
 have e5 : eD (toD (vSl (vB 1) (cK (kD (.int 12))) (cK (kD (.int 16))))) (sq [.lst (ns.map .int), .lst (nm.map .str), .lst (vs.map .int), .lst (cs.map hdD), .lst (ss.map hdD)]) [] = some (.dat (.lst (((nm.drop 12).take 4).map .str)), []) := gF (by
  simp only [List.map_cons, List.map_nil, List.cons_append, List.nil_append, List.length_cons, List.length_nil, List.replicate, Nat.reduceAdd, Nat.reduceSub]
  show ((gSl (.lst (nm.map .str)) (some 12) (some 16)).map T.d) = _
  rw [eb1]
  rfl)
 rw [av, aM e5, am]
 show ∃ ch', bM (aq _ _ (sq [.lst (ns.map .int), .lst (nm.map .str), .lst (vs.map .int), .lst (cs.map hdD), .lst (ss.map hdD), .lst (((nm.drop 12).take 4).map .str)]) []) = _
 have hif : ∃ bs : List Str, 0 < bs.length /\ cg (tD (tB2 (gEq false) (toD (d2 bE (toD (d2 au (vB 2) (kD (.int 14)))) (kD (.int 2)))) (kD (.int 0)))) (bd 5 (eD (toD (d2 bV (toD (vSl (vB 1) (cK (kD (.int 12))) (cK (kD (.int 14))))) (toD (dl (af (toD (d2 au (toD (d2 au (vB 3) (toD (im (kD (.int 1)))))) (kD (.int 0)))) (af (toD (d2 au (toD (d2 au (vB 4) (toD (im (kD (.int 1)))))) (kD (.int 0)))) aF)))))))) ce (sq [.lst (ns.map .int), .lst (nm.map .str), .lst (vs.map .int), .lst (cs.map hdD), .lst (ss.map hdD), .lst (((nm.drop 12).take 4).map .str)]) [] = some (.nx (sq [.lst (ns.map .int), .lst (nm.map .str), .lst (vs.map .int), .lst (cs.map hdD), .lst (ss.map hdD), .lst (bs.map .str)]) []) := by
  have ht : tB2 (gEq false) (toD (d2 bE (toD (d2 au (vB 2) (kD (.int 14)))) (kD (.int 2)))) (kD (.int 0)) (lo (sq [.lst (ns.map .int), .lst (nm.map .str), .lst (vs.map .int), .lst (cs.map hdD), .lst (ss.map hdD), .lst (((nm.drop 12).take 4).map .str)]) []) = some (decide (v14 % 2 = 0)) := by
   rw [u4]
   simp only [List.map_cons, List.map_nil, List.cons_append, List.nil_append, List.length_cons, List.length_nil, List.replicate, Nat.reduceAdd, Nat.reduceSub]
   walk_at "d"
   rw [x14]
   walk_at "d"
  by_cases h14 : v14 % 2 = 0
  · obtain ⟨_, ec1⟩ := oI (hs := cs) (by omega)
    obtain ⟨_, es1⟩ := oI (hs := ss) (by omega)
    refine ⟨(nm.drop 12).take 2 ++ [(cs.getLast (by intro e; rw [e] at hcl; simp at hcl; omega)).1, (ss.getLast (by intro e; rw [e] at hsl; simp at hsl; omega)).1], by simp, ?_⟩
    rw [t8 (by rw [ht]; simp [h14]), aM (v := .dat (.lst (((nm.drop 12).take 2 ++ [(cs.getLast (by intro e; rw [e] at hcl; simp at hcl; omega)).1, (ss.getLast (by intro e; rw [e] at hsl; simp at hsl; omega)).1]).map .str))) (ch1 := []) (gF (by
     simp only [List.map_cons, List.map_nil, List.cons_append, List.nil_append, List.length_cons, List.length_nil, List.replicate, Nat.reduceAdd, Nat.reduceSub]
     have g1 : au (.lst (cs.map hdD)) (.int (-1)) = _ := ec1
     have g2 : au (.lst (ss.map hdD)) (.int (-1)) = _ := es1
     have k1 : ∀ r : De, toD (d2 au (toD (d2 au (vB 3) (toD (im (kD (.int 1)))))) (kD (.int 0))) (some (.leaf (.lst (ns.map .int))) :: some (.leaf (.lst (nm.map .str))) :: some (.leaf (.lst (vs.map .int))) :: some (.leaf (.lst (cs.map hdD))) :: r) = some (.str (cs.getLast (by intro e; rw [e] at hcl; simp at hcl; omega)).1) := fun r => by
      show ((((au (.lst (cs.map hdD)) (.int (-1))).map T.d).bind fun x => au x (.int 0)).map T.d) = _
      rw [g1]
      rfl
     have k2 : ∀ r : De, toD (d2 au (toD (d2 au (vB 4) (toD (im (kD (.int 1)))))) (kD (.int 0))) (some (.leaf (.lst (ns.map .int))) :: some (.leaf (.lst (nm.map .str))) :: some (.leaf (.lst (vs.map .int))) :: some (.leaf (.lst (cs.map hdD))) :: some (.leaf (.lst (ss.map hdD))) :: r) = some (.str (ss.getLast (by intro e; rw [e] at hsl; simp at hsl; omega)).1) := fun r => by
      show ((((au (.lst (ss.map hdD)) (.int (-1))).map T.d).bind fun x => au x (.int 0)).map T.d) = _
      rw [g2]
      rfl
     have k3 := uo (fE (k1 _) (fE (k2 [some (.leaf (.lst (((nm.drop 12).take 4).map .str))), none, none, none, none, none, none, none, none, none]) oJ))
     show ((((gSl (.lst (nm.map .str)) (some 12) (some 14)).map T.d).bind fun x => (toD (dl (af _ (af _ aF))) _).bind fun y => bV x y).map T.d) = _
     rw [eb2, k3]
     show (bV (.lst (((nm.drop 12).take 2).map .str)) (.lst [_, _])).map T.d = _
     rw [n0 (by simp; omega), List.map_append]
     rfl))]
    rfl
  · exact ⟨(nm.drop 12).take 4, by omega, by rw [pA (by rw [ht]; simp [h14])]; rfl⟩
 obtain ⟨bs, hbl, hif⟩ := hif
 rw [av, hif, am]
 have e6 : eD (toD (cj [none] (fIt (toD (aN q19 (af (toD (aN q14 (af (vL 0) (af (kD (.int 2)) aF)))) (af (toD (d2 bE (toD (d2 au (vB 2) (kD (.int 15)))) (kD (.int 13)))) aF))))) (ax 0) bv y113)) (sq [.lst (ns.map .int), .lst (nm.map .str), .lst (vs.map .int), .lst (cs.map hdD), .lst (ss.map hdD), .lst (bs.map .str)]) [] = some (.dat (.lst ((l0.map vb).map .int)), []) := gF (by
  simp only [List.map_cons, List.map_nil, List.cons_append, List.nil_append, List.length_cons, List.length_nil, List.replicate, Nat.reduceAdd, Nat.reduceSub]
  walk_at "d"
  rw [c2]
  walk_at "d"
  rw [x15]
  walk_at "d"
  rw [hm6, el]
  walk_at "d"
  rw [dN (f := fun d => match d with
   | .int n => .int (vb n)
   | d => d) fun d hd => by
   obtain ⟨n, _, rfl⟩ := List.mem_map.mp hd
   refine ⟨_, rfl, rfl, ?_⟩
   show ((q16 [.int n]).map T.d) = _
   rw [u3]
   rfl, Option.bind_some, ga (by simp; omega), List.map_map, List.map_map]
  rfl)
 rw [av, aM e6, am]
 show ∃ ch', bM (aq _ _ (sq [.lst (ns.map .int), .lst (nm.map .str), .lst (vs.map .int), .lst (cs.map hdD), .lst (ss.map hdD), .lst (bs.map .str), .lst ((l0.map vb).map .int)]) []) = _
 obtain ⟨rr, er, hp⟩ := gu (bb := ax 0) (ft := bv) (fe := wO) (ds := mm.map .int) (δ := [none, some (.leaf (.lst (cs.map hdD))), some (.leaf (.lst (ss.map hdD))), some (.leaf (.lst (bs.map .str)))]) (P := fun _ y => Row (cs.map (·.1)) (ss.map (·.1)) y) fun d hd => by
  obtain ⟨n, _, rfl⟩ := List.mem_map.mp hd
  obtain ⟨r, e, hr⟩ := wT n bs cs ss hbl (by omega) (by omega)
  refine ⟨_, r, rfl, rfl, ?_, hr⟩
  show ((y48 [.int n, .lst (bs.map .str), .lst (cs.map hdD), .lst (ss.map hdD)]).map T.d) = _
  rw [e]
  rfl
 have hrl : rr.length = mm.length := by rw [<- Paired.length hp, List.length_map]
 have e7 : eD (toD (cj [none, some 3, some 4, some 5] (fIt (toD (vSl (vB 0) (cK (kD (.int 4))) (cK (kD (.int 44)))))) (ax 0) bv wO)) (sq [.lst (ns.map .int), .lst (nm.map .str), .lst (vs.map .int), .lst (cs.map hdD), .lst (ss.map hdD), .lst (bs.map .str), .lst ((l0.map vb).map .int)]) [] = some (.dat (.lst rr), []) := gF (by
  simp only [List.map_cons, List.map_nil, List.cons_append, List.nil_append, List.length_cons, List.length_nil, List.replicate, Nat.reduceAdd, Nat.reduceSub]
  walk_at "d"
  rw [em]
  walk_at "d"
  rw [er, Option.bind_some, ga (by omega)]
  rfl)
 rw [av, aM e7, am]
 show ∃ ch', bM (aq _ _ (sq [.lst (ns.map .int), .lst (nm.map .str), .lst (vs.map .int), .lst (cs.map hdD), .lst (ss.map hdD), .lst (bs.map .str), .lst ((l0.map vb).map .int), .lst rr]) []) = _
 have gAddT_ok : i7 (.tup rr) (.tup [.tup [.str "end", .int 3]]) = some (.leaf (.tup (rr ++ [.tup [.str "end", .int 3]]))) := by
  cases rr with
  | nil => rfl
  | cons d l => exact if_pos ⟨hZ (by simp at hrl ⊢; omega), by simp, by simp⟩
 have e8 : eD (toD (cI (af (toD (aN de (af (vB 3) aF))) (af (toD (aN de (af (vB 4) aF))) (af (toD (d2 i7 (toD (aN de (af (vB 7) aF))) (toD (cI (af (toD (cI (af (kD (.str "end")) (af (kD (.int 3)) aF)))) aF))))) aF))))) (sq [.lst (ns.map .int), .lst (nm.map .str), .lst (vs.map .int), .lst (cs.map hdD), .lst (ss.map hdD), .lst (bs.map .str), .lst ((l0.map vb).map .int), .lst rr]) [] = some (.dat (prog cs ss (rr ++ [.tup [.str "end", .int 3]])), []) := gF (by
  simp only [List.map_cons, List.map_nil, List.cons_append, List.nil_append, List.length_cons, List.length_nil, List.replicate, Nat.reduceAdd, Nat.reduceSub]
  have q3 : toD (d2 i7 (toD (aN de (af (vB 7) aF))) (toD (cI (af (toD (cI (af (kD (.str "end")) (af (kD (.int 3)) aF)))) aF)))) [some (T.leaf (.lst (ns.map .int))), some (.leaf (.lst (nm.map .str))), some (.leaf (.lst (vs.map .int))), some (.leaf (.lst (cs.map hdD))), some (.leaf (.lst (ss.map hdD))), some (.leaf (.lst (bs.map .str))), some (.leaf (.lst ((l0.map vb).map .int))), some (.leaf (.lst rr)), none, none, none, none, none, none, none] = some (.tup (rr ++ [.tup [.str "end", .int 3]])) := by
   show (i7 (.tup rr) (.tup [.tup [.str "end", .int 3]])).map T.d = _
   rw [gAddT_ok]
   rfl
  have q := fE (f := toD (aN de (af (vB 3) aF))) (d := .tup (cs.map hdD)) rfl (fE (f := toD (aN de (af (vB 4) aF))) (d := .tup (ss.map hdD)) rfl (fE q3 oJ))
  exact up q)
 rw [av, aM e8, am]
 let D : Nat -> Dt := fun i => ([.lst (ns.map .int), .lst (nm.map .str), .lst (vs.map .int), .lst (cs.map hdD), .lst (ss.map hdD), .lst (bs.map .str), .lst ((l0.map vb).map .int), .lst rr, prog cs ss (rr ++ [.tup [.str "end", .int 3]])] : List Dt).getD i .non
 have hmem : ∀ r ∈ rr, Row (cs.map (·.1)) (ss.map (·.1)) r := fun r hr => by obtain ⟨_, _, q⟩ := jj hp hr; exact q
 have sub : ∀ (o m : Nat), ((nm.drop o).take m).Nodup := fun o m => hnd.sublist ((List.take_sublist _ _).trans (List.drop_sublist _ _))
 exact ul (D := D) (cs := cs) (ss := ss) (bs := bs) (ls := l0.map vb) (rr := rr) rfl rfl rfl rfl rfl rfl (by rw [hcn]; exact sub _ _) (by rw [hsn]; exact sub _ _) (by omega) (by omega) hsz (by simp; omega) (by omega) hmem
def kQ (K : PySem.W.Frag) : Sp := fun vs H Q _ => ∃ (a : Addr) (ns : List Int), vs = [.ref a] /\ SqL K H a (ns.map V.int) /\ ns.length <= 63 /\ sC H /\ ∀ H', Q (.bl true) H'
def w9 {K : PySem.W.Frag} {vs : List V} {H : Hp} {Q : VK} {E : XK} (h : kQ K vs H Q E) : spG K 1 oz vs H Q E := by
 obtain ⟨a, ns, rfl, hS, hl, hO, q⟩ := h
 obtain ⟨ch', hm⟩ := main ns hl
 refine ⟨H, fun _ => a, [.dat (.lst (ns.map .int))], [], .dat (.bl true), ch', ⟨Same.refl H, fun i j hi => absurd hi (Nat.not_lt_zero _), fun i hi => absurd hi (Nat.not_lt_zero _), fun i o h => by simp at h⟩, rfl, ⟨_, [], rfl, ?_, rfl⟩, hm, fun v F' H' ρ' _ o => ?_⟩
 · show Rep K H (.lst (ns.map .int)) (.ref a)
   simp only [Rep]
   exact ⟨a, _, rfl, hS, Reps.map (fun _ => dR) ns⟩
 · have o : Rep K F' (.bl true) v := o
   simp only [Rep] at o
   subst o
   exact q H'
def all_mk {l : PySem.W.OpenLaw} {w : World} {K : PySem.W.Frag} {h : Heap} {mg : Str -> Option Value} {fa : Addr} (X : K.In h) (G : h.Ns mainGlobals mg) (hfa : mg "law" = some (.ref fa))
  {C_Plain : Addr} (ac_Plain : PySem.W.nsIn K mainGlobals "Plain" = some (some (.ref C_Plain))) (pg_Plain : PySem.W.plainGet K C_Plain Str.empty = true) (hd_Plain : PySem.W.hasDictIn K C_Plain = true) (po_Plain : PySem.W.plainOver K C_Plain = true) (sa_Plain : PySem.W.findIn K (.ref C_Plain) "__setattr__" = some (some (.builtin "object.__setattr__")))
  (mk_Plain : PySem.W.makesIn K C_Plain = true) (kc_Plain : PySem.W.keepIn K (.ref C_Plain) = true)
  (nf_Plain_boxes : PySem.W.findIn K (.ref C_Plain) "boxes" = some none)
  (nf_Plain_cells : PySem.W.findIn K (.ref C_Plain) "cells" = some none)
  (nf_Plain_done : PySem.W.findIn K (.ref C_Plain) "done" = some none)
  (nf_Plain_hears : PySem.W.findIn K (.ref C_Plain) "hears" = some none)
  (nf_Plain_incoming : PySem.W.findIn K (.ref C_Plain) "incoming" = some none)
  (nf_Plain_onward : PySem.W.findIn K (.ref C_Plain) "onward" = some none)
  (nf_Plain_outgoing : PySem.W.findIn K (.ref C_Plain) "outgoing" = some none)
  (nf_Plain_place : PySem.W.findIn K (.ref C_Plain) "place" = some none)
  (nf_Plain_result : PySem.W.findIn K (.ref C_Plain) "result" = some none)
  (nf_Plain_rows : PySem.W.findIn K (.ref C_Plain) "rows" = some none)
  (nf_Plain_shelves : PySem.W.findIn K (.ref C_Plain) "shelves" = some none)
  {f0 f1 f2 f3 f4 f5 f6 f7 f8 f9 f10 f11 f12 f13 f14 f15 f16 f17 f18 f19 f20 f21 f22 f23 f24 f25 f26 f27 f28 f29 : Addr} {od0 an0 od1 an1 od2 an2 od3 an3 od4 an4 od5 an5 od6 an6 od7 an7 od8 an8 od9 an9 od10 an10 od11 an11 od12 an12 od13 an13 od14 an14 od15 an15 od16 an16 od17 an17 od18 an18 od19 an19 od20 an20 od21 an21 od22 an22 od23 an23 od24 an24 od25 an25 od26 an26 od27 an27 od28 an28 od29 an29 : Option Addr} {sl0 sl1 sl2 sl3 sl4 sl5 sl6 sl7 sl8 sl9 sl10 sl11 sl12 sl13 sl14 sl15 sl16 sl17 sl18 sl19 sl20 sl21 sl22 sl23 sl24 sl25 sl26 sl27 sl28 sl29 : Array (Option Value)} {oc0 kV0 dc0 pm0 cd0 ct0 oc1 kV1 dc1 pm1 cd1 ct1 oc2 kV2 dc2 pm2 cd2 ct2 oc3 kV3 dc3 pm3 cd3 ct3 oc4 kV4 dc4 pm4 cd4 ct4 oc5 kV5 dc5 pm5 cd5 ct5 oc6 kV6 dc6 pm6 cd6 ct6 oc7 kV7 dc7 pm7 cd7 ct7 oc8 kV8 dc8 pm8 cd8 ct8 oc9 kV9 dc9 pm9 cd9 ct9 oc10 kV10 dc10 pm10 cd10 ct10 oc11 kV11 dc11 pm11 cd11 ct11 oc12 kV12 dc12 pm12 cd12 ct12 oc13 kV13 dc13 pm13 cd13 ct13 oc14 kV14 dc14 pm14 cd14 ct14 oc15 kV15 dc15 pm15 cd15 ct15 oc16 kV16 dc16 pm16 cd16 ct16 oc17 kV17 dc17 pm17 cd17 ct17 oc18 kV18 dc18 pm18 cd18 ct18 oc19 kV19 dc19 pm19 cd19 ct19 oc20 kV20 dc20 pm20 cd20 ct20 oc21 kV21 dc21 pm21 cd21 ct21 oc22 kV22 dc22 pm22 cd22 ct22 oc23 kV23 dc23 pm23 cd23 ct23 oc24 kV24 dc24 pm24 cd24 ct24 oc25 kV25 dc25 pm25 cd25 ct25 oc26 kV26 dc26 pm26 cd26 ct26 oc27 kV27 dc27 pm27 cd27 ct27 oc28 kV28 dc28 pm28 cd28 ct28 oc29 kV29 dc29 pm29 cd29 ct29 : Value}
  (a0 : PySem.W.nsIn K mainGlobals "_law_names" = some (some (.ref f0)))
  (l0 : K.lookup f0 = some ⟨oc0, od0, .func (PySem.W.fnOf "_law_names" "_law_names" (aK y2) (aE y2) (ab y2) .none kV0 dc0 pm0 an0 cd0 ct0), sl0⟩) (c0 : PySem.W.codeIn K cd0 "_law_names" = true) (k0 : PySem.W.keepIn K (.ref f0) = true)
  (a1 : PySem.W.nsIn K mainGlobals "_law_stream" = some (some (.ref f1)))
  (l1 : K.lookup f1 = some ⟨oc1, od1, .func (PySem.W.fnOf "_law_stream" "_law_stream" (aK y13) (aE y13) (ab y13) .none kV1 dc1 pm1 an1 cd1 ct1), sl1⟩) (c1 : PySem.W.codeIn K cd1 "_law_stream" = true) (k1 : PySem.W.keepIn K (.ref f1) = true)
  (a2 : PySem.W.nsIn K mainGlobals "ways_of" = some (some (.ref f2)))
  (l2 : K.lookup f2 = some ⟨oc2, od2, .func (PySem.W.fnOf "ways_of" "ways_of" (aK q41) (aE q41) (ab q41) .none kV2 dc2 pm2 an2 cd2 ct2), sl2⟩) (c2 : PySem.W.codeIn K cd2 "ways_of" = true) (k2 : PySem.W.keepIn K (.ref f2) = true)
  (a3 : PySem.W.nsIn K mainGlobals "ways" = some (some (.ref f3)))
  (l3 : K.lookup f3 = some ⟨oc3, od3, .func (PySem.W.fnOf "ways" "ways" (aK cx) (aE cx) (ab cx) .none kV3 dc3 pm3 an3 cd3 ct3), sl3⟩) (c3 : PySem.W.codeIn K cd3 "ways" = true) (k3 : PySem.W.keepIn K (.ref f3) = true)
  (a4 : PySem.W.findIn K (.ref C_Plain) "__init__" = some (some (.ref f4))) (i4 : PySem.W.isFn K (.ref f4) = true)
  (l4 : K.lookup f4 = some ⟨oc4, od4, .func (PySem.W.fnOf "__init__" "Plain.__init__" (aK y3) (aE y3) (ab y3) .none kV4 dc4 pm4 an4 cd4 ct4), sl4⟩) (c4 : PySem.W.codeIn K cd4 "Plain.__init__" = true) (k4 : PySem.W.keepIn K (.ref f4) = true)
  (a5 : PySem.W.nsIn K mainGlobals "_law_begun" = some (some (.ref f5)))
  (l5 : K.lookup f5 = some ⟨oc5, od5, .func (PySem.W.fnOf "_law_begun" "_law_begun" (aK y8) (aE y8) (ab y8) .none kV5 dc5 pm5 an5 cd5 ct5), sl5⟩) (c5 : PySem.W.codeIn K cd5 "_law_begun" = true) (k5 : PySem.W.keepIn K (.ref f5) = true)
  (a6 : PySem.W.nsIn K mainGlobals "_law_cell_at" = some (some (.ref f6)))
  (l6 : K.lookup f6 = some ⟨oc6, od6, .func (PySem.W.fnOf "_law_cell_at" "_law_cell_at" (aK z19) (aE z19) (ab z19) .none kV6 dc6 pm6 an6 cd6 ct6), sl6⟩) (c6 : PySem.W.codeIn K cd6 "_law_cell_at" = true) (k6 : PySem.W.keepIn K (.ref f6) = true)
  (a7 : PySem.W.nsIn K mainGlobals "_law_value_by" = some (some (.ref f7)))
  (l7 : K.lookup f7 = some ⟨oc7, od7, .func (PySem.W.fnOf "_law_value_by" "_law_value_by" (aK z25) (aE z25) (ab z25) .none kV7 dc7 pm7 an7 cd7 ct7), sl7⟩) (c7 : PySem.W.codeIn K cd7 "_law_value_by" = true) (k7 : PySem.W.keepIn K (.ref f7) = true)
  (a8 : PySem.W.nsIn K mainGlobals "_law_atom" = some (some (.ref f8)))
  (l8 : K.lookup f8 = some ⟨oc8, od8, .func (PySem.W.fnOf "_law_atom" "_law_atom" (aK q24) (aE q24) (ab q24) .none kV8 dc8 pm8 an8 cd8 ct8), sl8⟩) (c8 : PySem.W.codeIn K cd8 "_law_atom" = true) (k8 : PySem.W.keepIn K (.ref f8) = true)
  (a9 : PySem.W.nsIn K mainGlobals "_law_row" = some (some (.ref f9)))
  (l9 : K.lookup f9 = some ⟨oc9, od9, .func (PySem.W.fnOf "_law_row" "_law_row" (aK y12) (aE y12) (ab y12) .none kV9 dc9 pm9 an9 cd9 ct9), sl9⟩) (c9 : PySem.W.codeIn K cd9 "_law_row" = true) (k9 : PySem.W.keepIn K (.ref f9) = true)
  (a10 : PySem.W.findIn K (.ref C_Plain) "ended" = some (some (.ref f10))) (i10 : PySem.W.isFn K (.ref f10) = true)
  (l10 : K.lookup f10 = some ⟨oc10, od10, .func (PySem.W.fnOf "ended" "Plain.ended" (aK y22) (aE y22) (ab y22) .none kV10 dc10 pm10 an10 cd10 ct10), sl10⟩) (c10 : PySem.W.codeIn K cd10 "Plain.ended" = true) (k10 : PySem.W.keepIn K (.ref f10) = true)
  (a11 : PySem.W.findIn K (.ref C_Plain) "box" = some (some (.ref f11))) (i11 : PySem.W.isFn K (.ref f11) = true)
  (l11 : K.lookup f11 = some ⟨oc11, od11, .func (PySem.W.fnOf "box" "Plain.box" (aK y25) (aE y25) (ab y25) .none kV11 dc11 pm11 an11 cd11 ct11), sl11⟩) (c11 : PySem.W.codeIn K cd11 "Plain.box" = true) (k11 : PySem.W.keepIn K (.ref f11) = true)
  (a12 : PySem.W.findIn K (.ref C_Plain) "worth" = some (some (.ref f12))) (i12 : PySem.W.isFn K (.ref f12) = true)
  (l12 : K.lookup f12 = some ⟨oc12, od12, .func (PySem.W.fnOf "worth" "Plain.worth" (aK y15) (aE y15) (ab y15) .none kV12 dc12 pm12 an12 cd12 ct12), sl12⟩) (c12 : PySem.W.codeIn K cd12 "Plain.worth" = true) (k12 : PySem.W.keepIn K (.ref f12) = true)
  (a13 : PySem.W.findIn K (.ref C_Plain) "next_letter" = some (some (.ref f13))) (i13 : PySem.W.isFn K (.ref f13) = true)
  (l13 : K.lookup f13 = some ⟨oc13, od13, .func (PySem.W.fnOf "next_letter" "Plain.next_letter" (aK z11) (aE z11) (ab z11) .none kV13 dc13 pm13 an13 cd13 ct13), sl13⟩) (c13 : PySem.W.codeIn K cd13 "Plain.next_letter" = true) (k13 : PySem.W.keepIn K (.ref f13) = true)
  (a14 : PySem.W.nsIn K mainGlobals "number_of" = some (some (.ref f14)))
  (l14 : K.lookup f14 = some ⟨oc14, od14, .func (PySem.W.fnOf "number_of" "number_of" (aK y28) (aE y28) (ab y28) .none kV14 dc14 pm14 an14 cd14 ct14), sl14⟩) (c14 : PySem.W.codeIn K cd14 "number_of" = true) (k14 : PySem.W.keepIn K (.ref f14) = true)
  (a15 : PySem.W.nsIn K mainGlobals "value" = some (some (.ref f15)))
  (l15 : K.lookup f15 = some ⟨oc15, od15, .func (PySem.W.fnOf "value" "value" (aK z39) (aE z39) (ab z39) .none kV15 dc15 pm15 an15 cd15 ct15), sl15⟩) (c15 : PySem.W.codeIn K cd15 "value" = true) (k15 : PySem.W.keepIn K (.ref f15) = true)
  (a16 : PySem.W.findIn K (.ref C_Plain) "set_by" = some (some (.ref f16))) (i16 : PySem.W.isFn K (.ref f16) = true)
  (l16 : K.lookup f16 = some ⟨oc16, od16, .func (PySem.W.fnOf "set_by" "Plain.set_by" (aK z13) (aE z13) (ab z13) .none kV16 dc16 pm16 an16 cd16 ct16), sl16⟩) (c16 : PySem.W.codeIn K cd16 "Plain.set_by" = true) (k16 : PySem.W.keepIn K (.ref f16) = true)
  (a17 : PySem.W.findIn K (.ref C_Plain) "do_row" = some (some (.ref f17))) (i17 : PySem.W.isFn K (.ref f17) = true)
  (l17 : K.lookup f17 = some ⟨oc17, od17, .func (PySem.W.fnOf "do_row" "Plain.do_row" (aK z14) (aE z14) (ab z14) .none kV17 dc17 pm17 an17 cd17 ct17), sl17⟩) (c17 : PySem.W.codeIn K cd17 "Plain.do_row" = true) (k17 : PySem.W.keepIn K (.ref f17) = true)
  (a18 : PySem.W.findIn K (.ref C_Plain) "place_behind" = some (some (.ref f18))) (i18 : PySem.W.isFn K (.ref f18) = true)
  (l18 : K.lookup f18 = some ⟨oc18, od18, .func (PySem.W.fnOf "place_behind" "Plain.place_behind" (aK z9) (aE z9) (ab z9) .none kV18 dc18 pm18 an18 cd18 ct18), sl18⟩) (c18 : PySem.W.codeIn K cd18 "Plain.place_behind" = true) (k18 : PySem.W.keepIn K (.ref f18) = true)
  (a19 : PySem.W.findIn K (.ref C_Plain) "step" = some (some (.ref f19))) (i19 : PySem.W.isFn K (.ref f19) = true)
  (l19 : K.lookup f19 = some ⟨oc19, od19, .func (PySem.W.fnOf "step" "Plain.step" (aK y18) (aE y18) (ab y18) .none kV19 dc19 pm19 an19 cd19 ct19), sl19⟩) (c19 : PySem.W.codeIn K cd19 "Plain.step" = true) (k19 : PySem.W.keepIn K (.ref f19) = true)
  (a20 : PySem.W.nsIn K mainGlobals "_law_worth" = some (some (.ref f20)))
  (l20 : K.lookup f20 = some ⟨oc20, od20, .func (PySem.W.fnOf "_law_worth" "_law_worth" (aK q21) (aE q21) (ab q21) .none kV20 dc20 pm20 an20 cd20 ct20), sl20⟩) (c20 : PySem.W.codeIn K cd20 "_law_worth" = true) (k20 : PySem.W.keepIn K (.ref f20) = true)
  (a21 : PySem.W.nsIn K mainGlobals "_law_done" = some (some (.ref f21)))
  (l21 : K.lookup f21 = some ⟨oc21, od21, .func (PySem.W.fnOf "_law_done" "_law_done" (aK q15) (aE q15) (ab q15) .none kV21 dc21 pm21 an21 cd21 ct21), sl21⟩) (c21 : PySem.W.codeIn K cd21 "_law_done" = true) (k21 : PySem.W.keepIn K (.ref f21) = true)
  (a22 : PySem.W.findIn K (.ref C_Plain) "shelf" = some (some (.ref f22))) (i22 : PySem.W.isFn K (.ref f22) = true)
  (l22 : K.lookup f22 = some ⟨oc22, od22, .func (PySem.W.fnOf "shelf" "Plain.shelf" (aK z17) (aE z17) (ab z17) .none kV22 dc22 pm22 an22 cd22 ct22), sl22⟩) (c22 : PySem.W.codeIn K cd22 "Plain.shelf" = true) (k22 : PySem.W.keepIn K (.ref f22) = true)
  (a23 : PySem.W.nsIn K mainGlobals "_law_whole" = some (some (.ref f23)))
  (l23 : K.lookup f23 = some ⟨oc23, od23, .func (PySem.W.fnOf "_law_whole" "_law_whole" (aK q18) (aE q18) (ab q18) .none kV23 dc23 pm23 an23 cd23 ct23), sl23⟩) (c23 : PySem.W.codeIn K cd23 "_law_whole" = true) (k23 : PySem.W.keepIn K (.ref f23) = true)
  (a24 : PySem.W.findIn K (.ref C_Plain) "sent" = some (some (.ref f24))) (i24 : PySem.W.isFn K (.ref f24) = true)
  (l24 : K.lookup f24 = some ⟨oc24, od24, .func (PySem.W.fnOf "sent" "Plain.sent" (aK z21) (aE z21) (ab z21) .none kV24 dc24 pm24 an24 cd24 ct24), sl24⟩) (c24 : PySem.W.codeIn K cd24 "Plain.sent" = true) (k24 : PySem.W.keepIn K (.ref f24) = true)
  (a25 : PySem.W.findIn K (.ref C_Plain) "heard" = some (some (.ref f25))) (i25 : PySem.W.isFn K (.ref f25) = true)
  (l25 : K.lookup f25 = some ⟨oc25, od25, .func (PySem.W.fnOf "heard" "Plain.heard" (aK y23) (aE y23) (ab y23) .none kV25 dc25 pm25 an25 cd25 ct25), sl25⟩) (c25 : PySem.W.codeIn K cd25 "Plain.heard" = true) (k25 : PySem.W.keepIn K (.ref f25) = true)
  (a26 : PySem.W.findIn K (.ref C_Plain) "cell" = some (some (.ref f26))) (i26 : PySem.W.isFn K (.ref f26) = true)
  (l26 : K.lookup f26 = some ⟨oc26, od26, .func (PySem.W.fnOf "cell" "Plain.cell" (aK y21) (aE y21) (ab y21) .none kV26 dc26 pm26 an26 cd26 ct26), sl26⟩) (c26 : PySem.W.codeIn K cd26 "Plain.cell" = true) (k26 : PySem.W.keepIn K (.ref f26) = true)
  (a27 : PySem.W.nsIn K mainGlobals "_law_stands" = some (some (.ref f27)))
  (l27 : K.lookup f27 = some ⟨oc27, od27, .func (PySem.W.fnOf "_law_stands" "_law_stands" (aK z12) (aE z12) (ab z12) .none kV27 dc27 pm27 an27 cd27 ct27), sl27⟩) (c27 : PySem.W.codeIn K cd27 "_law_stands" = true) (k27 : PySem.W.keepIn K (.ref f27) = true)
  (a28 : PySem.W.findIn K (.ref C_Plain) "stands" = some (some (.ref f28))) (i28 : PySem.W.isFn K (.ref f28) = true)
  (l28 : K.lookup f28 = some ⟨oc28, od28, .func (PySem.W.fnOf "stands" "Plain.stands" (aK q20) (aE q20) (ab q20) .none kV28 dc28 pm28 an28 cd28 ct28), sl28⟩) (c28 : PySem.W.codeIn K cd28 "Plain.stands" = true) (k28 : PySem.W.keepIn K (.ref f28) = true)
  (a29 : PySem.W.nsIn K mainGlobals "law" = some (some (.ref f29)))
  (l29 : K.lookup f29 = some ⟨oc29, od29, .func (PySem.W.fnOf "law" "law" (aK aC) (aE aC) (ab aC) .none kV29 dc29 pm29 an29 cd29 ct29), sl29⟩) (c29 : PySem.W.codeIn K cd29 "law" = true) (k29 : PySem.W.keepIn K (.ref f29) = true)
  (z_bool : PySem.W.nsIn K mainGlobals "bool" = some none)
  (z_dict : PySem.W.nsIn K mainGlobals "dict" = some none)
  (z_enumerate : PySem.W.nsIn K mainGlobals "enumerate" = some none)
  (z_int : PySem.W.nsIn K mainGlobals "int" = some none)
  (z_isinstance : PySem.W.nsIn K mainGlobals "isinstance" = some none)
  (z_len : PySem.W.nsIn K mainGlobals "len" = some none)
  (z_list : PySem.W.nsIn K mainGlobals "list" = some none)
  (z_min : PySem.W.nsIn K mainGlobals "min" = some none)
  (z_range : PySem.W.nsIn K mainGlobals "range" = some none)
  (z_str : PySem.W.nsIn K mainGlobals "str" = some none)
  (z_tuple : PySem.W.nsIn K mainGlobals "tuple" = some none)
  {u_WIDE : Value} (b_WIDE : PySem.W.nsIn K mainGlobals "WIDE" = some (some u_WIDE)) (r_WIDE : RelV (.int 1099511627776) u_WIDE)
  (x_str_NoneType : PySem.W.kitOne K (.type "NoneType") (.type "str") = some false)
  (x_str_bool : PySem.W.kitOne K (.type "bool") (.type "str") = some false)
  (x_str_int : PySem.W.kitOne K (.type "int") (.type "str") = some false)
  (x_str_str : PySem.W.kitOne K (.type "str") (.type "str") = some true)
  (x_str_tuple : PySem.W.kitOne K (.type "tuple") (.type "str") = some false)
  (x_str_list : PySem.W.kitOne K (.type "list") (.type "str") = some false)
  (x_str_dict : PySem.W.kitOne K (.type "dict") (.type "str") = some false)
  (x_bool_NoneType : PySem.W.kitOne K (.type "NoneType") (.type "bool") = some false)
  (x_bool_bool : PySem.W.kitOne K (.type "bool") (.type "bool") = some true)
  (x_bool_int : PySem.W.kitOne K (.type "int") (.type "bool") = some false)
  (x_bool_str : PySem.W.kitOne K (.type "str") (.type "bool") = some false)
  (x_bool_tuple : PySem.W.kitOne K (.type "tuple") (.type "bool") = some false)
  (x_bool_list : PySem.W.kitOne K (.type "list") (.type "bool") = some false)
  (x_bool_dict : PySem.W.kitOne K (.type "dict") (.type "bool") = some false)
  (x_int_NoneType : PySem.W.kitOne K (.type "NoneType") (.type "int") = some false)
  (x_int_bool : PySem.W.kitOne K (.type "bool") (.type "int") = some true)
  (x_int_int : PySem.W.kitOne K (.type "int") (.type "int") = some true)
  (x_int_str : PySem.W.kitOne K (.type "str") (.type "int") = some false)
  (x_int_tuple : PySem.W.kitOne K (.type "tuple") (.type "int") = some false)
  (x_int_list : PySem.W.kitOne K (.type "list") (.type "int") = some false)
  (x_int_dict : PySem.W.kitOne K (.type "dict") (.type "int") = some false)
  (x_list_NoneType : PySem.W.kitOne K (.type "NoneType") (.type "list") = some false)
  (x_list_bool : PySem.W.kitOne K (.type "bool") (.type "list") = some false)
  (x_list_int : PySem.W.kitOne K (.type "int") (.type "list") = some false)
  (x_list_str : PySem.W.kitOne K (.type "str") (.type "list") = some false)
  (x_list_tuple : PySem.W.kitOne K (.type "tuple") (.type "list") = some false)
  (x_list_list : PySem.W.kitOne K (.type "list") (.type "list") = some true)
  (x_list_dict : PySem.W.kitOne K (.type "dict") (.type "list") = some false)
  : ∃ fd : FuncData, (∀ (s : Shared) (v : Value), BindsTo s fd ⟨[v], []⟩ [("_law_script", v)]) /\ ∀ base : Heap, K.In base -> base.Ns mainGlobals mg -> FnOk l.prog w K mg base CX0 6 fa fd ["_law_script"] (kQ K) := by
 have e := hfa.symm.trans (PySem.W.mg_of X G a29)
 cases e
 have T : Txt l.prog w K mg := { n_bool := PySem.W.mg_none_of X G z_bool, n_dict := PySem.W.mg_none_of X G z_dict, n_enumerate := PySem.W.mg_none_of X G z_enumerate, n_int := PySem.W.mg_none_of X G z_int, n_isinstance := PySem.W.mg_none_of X G z_isinstance, n_len := PySem.W.mg_none_of X G z_len, n_list := PySem.W.mg_none_of X G z_list, n_min := PySem.W.mg_none_of X G z_min, n_range := PySem.W.mg_none_of X G z_range, n_str := PySem.W.mg_none_of X G z_str, n_tuple := PySem.W.mg_none_of X G z_tuple, g_WIDE := qC ⟨_, PySem.W.mg_of X G b_WIDE, r_WIDE⟩, k_str := fun d hd => (by cases d <;> first | (cases hd; done) | exact x_str_NoneType | exact x_str_bool | exact x_str_int | exact x_str_str | exact x_str_tuple | exact x_str_list | exact x_str_dict), k_bool := fun d hd => (by cases d <;> first | (cases hd; done) | exact x_bool_NoneType | exact x_bool_bool | exact x_bool_int | exact x_bool_str | exact x_bool_tuple | exact x_bool_list | exact x_bool_dict), k_int := fun d hd => (by cases d <;> first | (cases hd; done) | exact x_int_NoneType | exact x_int_bool | exact x_int_int | exact x_int_str | exact x_int_tuple | exact x_int_list | exact x_int_dict), k_list := fun d hd => (by cases d <;> first | (cases hd; done) | exact x_list_NoneType | exact x_list_bool | exact x_list_int | exact x_list_str | exact x_list_tuple | exact x_list_list | exact x_list_dict), f_Plain_boxes := ⟨C_Plain, ac_Plain, ⟨pg_Plain, hd_Plain, po_Plain, sa_Plain⟩, nf_Plain_boxes⟩, f_Plain_cells := ⟨C_Plain, ac_Plain, ⟨pg_Plain, hd_Plain, po_Plain, sa_Plain⟩, nf_Plain_cells⟩, f_Plain_done := ⟨C_Plain, ac_Plain, ⟨pg_Plain, hd_Plain, po_Plain, sa_Plain⟩, nf_Plain_done⟩, f_Plain_hears := ⟨C_Plain, ac_Plain, ⟨pg_Plain, hd_Plain, po_Plain, sa_Plain⟩, nf_Plain_hears⟩, f_Plain_incoming := ⟨C_Plain, ac_Plain, ⟨pg_Plain, hd_Plain, po_Plain, sa_Plain⟩, nf_Plain_incoming⟩, f_Plain_onward := ⟨C_Plain, ac_Plain, ⟨pg_Plain, hd_Plain, po_Plain, sa_Plain⟩, nf_Plain_onward⟩, f_Plain_outgoing := ⟨C_Plain, ac_Plain, ⟨pg_Plain, hd_Plain, po_Plain, sa_Plain⟩, nf_Plain_outgoing⟩, f_Plain_place := ⟨C_Plain, ac_Plain, ⟨pg_Plain, hd_Plain, po_Plain, sa_Plain⟩, nf_Plain_place⟩, f_Plain_result := ⟨C_Plain, ac_Plain, ⟨pg_Plain, hd_Plain, po_Plain, sa_Plain⟩, nf_Plain_result⟩, f_Plain_rows := ⟨C_Plain, ac_Plain, ⟨pg_Plain, hd_Plain, po_Plain, sa_Plain⟩, nf_Plain_rows⟩, f_Plain_shelves := ⟨C_Plain, ac_Plain, ⟨pg_Plain, hd_Plain, po_Plain, sa_Plain⟩, nf_Plain_shelves⟩ }
 have D0 : DefF K mg "_law_names" y2 ["_law_cell", "_law_many"] := DefF.mk' X G a0 l0 c0 k0 fun _ _ _ _ _ _ us hl => match us, hl with | [_, _], _ => rfl
 have D1 : DefF K mg "_law_stream" y13 ["_law_cell", "_law_many"] := DefF.mk' X G a1 l1 c1 k1 fun _ _ _ _ _ _ us hl => match us, hl with | [_, _], _ => rfl
 have D2 : DefF K mg "ways_of" q41 ["number", "row"] := DefF.mk' X G a2 l2 c2 k2 fun _ _ _ _ _ _ us hl => match us, hl with | [_, _], _ => rfl
 have D3 : DefF K mg "ways" cx ["program"] := DefF.mk' X G a3 l3 c3 k3 fun _ _ _ _ _ _ us hl => match us, hl with | [_], _ => rfl
 have FF4 := bR (st := y3) l4 c4 k4
 have D4 : DefI K mg "Plain" "Plain.__init__" y3 ["self", "program", "letters"] := ⟨C_Plain, _, _, ac_Plain, PySem.W.mg_of X G ac_Plain, ⟨mk_Plain, a4, i4, kc_Plain⟩, FF4.binds (fun _ _ _ _ _ _ us hl => match us, hl with | [_, _, _], _ => rfl), FF4⟩
 have D5 : DefF K mg "_law_begun" y8 ["_law_cells", "_law_shelves", "_law_letters"] := DefF.mk' X G a5 l5 c5 k5 fun _ _ _ _ _ _ us hl => match us, hl with | [_, _, _], _ => rfl
 have D6 : DefF K mg "_law_cell_at" z19 ["_law_script", "_law_k"] := DefF.mk' X G a6 l6 c6 k6 fun _ _ _ _ _ _ us hl => match us, hl with | [_, _], _ => rfl
 have D7 : DefF K mg "_law_value_by" z25 ["_law_number"] := DefF.mk' X G a7 l7 c7 k7 fun _ _ _ _ _ _ us hl => match us, hl with | [_], _ => rfl
 have D8 : DefF K mg "_law_atom" q24 ["_law_number", "_law_names_here"] := DefF.mk' X G a8 l8 c8 k8 fun _ _ _ _ _ _ us hl => match us, hl with | [_, _], _ => rfl
 have D9 : DefF K mg "_law_row" y12 ["_law_cell", "_law_boxes", "_law_cells", "_law_shelves"] := DefF.mk' X G a9 l9 c9 k9 fun _ _ _ _ _ _ us hl => match us, hl with | [_, _, _, _], _ => rfl
 have FF10 := bR (st := y22) l10 c10 k10
 have D10 : DefM K "Plain" "ended" "Plain.ended" y22 ["self"] := ⟨C_Plain, _, _, ac_Plain, ⟨pg_Plain, hd_Plain, po_Plain, sa_Plain⟩, ⟨a10, i10, k10⟩, FF10.binds (fun _ _ _ _ _ _ us hl => match us, hl with | [_], _ => rfl), FF10⟩
 have FF11 := bR (st := y25) l11 c11 k11
 have D11 : DefM K "Plain" "box" "Plain.box" y25 ["self", "name"] := ⟨C_Plain, _, _, ac_Plain, ⟨pg_Plain, hd_Plain, po_Plain, sa_Plain⟩, ⟨a11, i11, k11⟩, FF11.binds (fun _ _ _ _ _ _ us hl => match us, hl with | [_, _], _ => rfl), FF11⟩
 have FF12 := bR (st := y15) l12 c12 k12
 have D12 : DefM K "Plain" "worth" "Plain.worth" y15 ["self", "atom"] := ⟨C_Plain, _, _, ac_Plain, ⟨pg_Plain, hd_Plain, po_Plain, sa_Plain⟩, ⟨a12, i12, k12⟩, FF12.binds (fun _ _ _ _ _ _ us hl => match us, hl with | [_, _], _ => rfl), FF12⟩
 have FF13 := bR (st := z11) l13 c13 k13
 have D13 : DefM K "Plain" "next_letter" "Plain.next_letter" z11 ["self"] := ⟨C_Plain, _, _, ac_Plain, ⟨pg_Plain, hd_Plain, po_Plain, sa_Plain⟩, ⟨a13, i13, k13⟩, FF13.binds (fun _ _ _ _ _ _ us hl => match us, hl with | [_], _ => rfl), FF13⟩
 have D14 : DefF K mg "number_of" y28 ["sign", "one", "other"] := DefF.mk' X G a14 l14 c14 k14 fun _ _ _ _ _ _ us hl => match us, hl with | [_, _, _], _ => rfl
 have D15 : DefF K mg "value" z39 ["sign", "one", "other"] := DefF.mk' X G a15 l15 c15 k15 fun _ _ _ _ _ _ us hl => match us, hl with | [_, _, _], _ => rfl
 have FF16 := bR (st := z13) l16 c16 k16
 have D16 : DefM K "Plain" "set_by" "Plain.set_by" z13 ["self", "row"] := ⟨C_Plain, _, _, ac_Plain, ⟨pg_Plain, hd_Plain, po_Plain, sa_Plain⟩, ⟨a16, i16, k16⟩, FF16.binds (fun _ _ _ _ _ _ us hl => match us, hl with | [_, _], _ => rfl), FF16⟩
 have FF17 := bR (st := z14) l17 c17 k17
 have D17 : DefM K "Plain" "do_row" "Plain.do_row" z14 ["self", "row"] := ⟨C_Plain, _, _, ac_Plain, ⟨pg_Plain, hd_Plain, po_Plain, sa_Plain⟩, ⟨a17, i17, k17⟩, FF17.binds (fun _ _ _ _ _ _ us hl => match us, hl with | [_, _], _ => rfl), FF17⟩
 have FF18 := bR (st := z9) l18 c18 k18
 have D18 : DefM K "Plain" "place_behind" "Plain.place_behind" z9 ["self", "row"] := ⟨C_Plain, _, _, ac_Plain, ⟨pg_Plain, hd_Plain, po_Plain, sa_Plain⟩, ⟨a18, i18, k18⟩, FF18.binds (fun _ _ _ _ _ _ us hl => match us, hl with | [_, _], _ => rfl), FF18⟩
 have FF19 := bR (st := y18) l19 c19 k19
 have D19 : DefM K "Plain" "step" "Plain.step" y18 ["self"] := ⟨C_Plain, _, _, ac_Plain, ⟨pg_Plain, hd_Plain, po_Plain, sa_Plain⟩, ⟨a19, i19, k19⟩, FF19.binds (fun _ _ _ _ _ _ us hl => match us, hl with | [_], _ => rfl), FF19⟩
 have D20 : DefF K mg "_law_worth" q21 ["_law_atom_here", "_law_now"] := DefF.mk' X G a20 l20 c20 k20 fun _ _ _ _ _ _ us hl => match us, hl with | [_, _], _ => rfl
 have D21 : DefF K mg "_law_done" q15 ["_law_row_here", "_law_now"] := DefF.mk' X G a21 l21 c21 k21 fun _ _ _ _ _ _ us hl => match us, hl with | [_, _], _ => rfl
 have FF22 := bR (st := z17) l22 c22 k22
 have D22 : DefM K "Plain" "shelf" "Plain.shelf" z17 ["self", "name"] := ⟨C_Plain, _, _, ac_Plain, ⟨pg_Plain, hd_Plain, po_Plain, sa_Plain⟩, ⟨a22, i22, k22⟩, FF22.binds (fun _ _ _ _ _ _ us hl => match us, hl with | [_, _], _ => rfl), FF22⟩
 have D23 : DefF K mg "_law_whole" q18 ["_law_found", "_law_due"] := DefF.mk' X G a23 l23 c23 k23 fun _ _ _ _ _ _ us hl => match us, hl with | [_, _], _ => rfl
 have FF24 := bR (st := z21) l24 c24 k24
 have D24 : DefM K "Plain" "sent" "Plain.sent" z21 ["self"] := ⟨C_Plain, _, _, ac_Plain, ⟨pg_Plain, hd_Plain, po_Plain, sa_Plain⟩, ⟨a24, i24, k24⟩, FF24.binds (fun _ _ _ _ _ _ us hl => match us, hl with | [_], _ => rfl), FF24⟩
 have FF25 := bR (st := y23) l25 c25 k25
 have D25 : DefM K "Plain" "heard" "Plain.heard" y23 ["self"] := ⟨C_Plain, _, _, ac_Plain, ⟨pg_Plain, hd_Plain, po_Plain, sa_Plain⟩, ⟨a25, i25, k25⟩, FF25.binds (fun _ _ _ _ _ _ us hl => match us, hl with | [_], _ => rfl), FF25⟩
 have FF26 := bR (st := y21) l26 c26 k26
 have D26 : DefM K "Plain" "cell" "Plain.cell" y21 ["self", "name"] := ⟨C_Plain, _, _, ac_Plain, ⟨pg_Plain, hd_Plain, po_Plain, sa_Plain⟩, ⟨a26, i26, k26⟩, FF26.binds (fun _ _ _ _ _ _ us hl => match us, hl with | [_, _], _ => rfl), FF26⟩
 have D27 : DefF K mg "_law_stands" z12 ["_law_run", "_law_now", "_law_boxes"] := DefF.mk' X G a27 l27 c27 k27 fun _ _ _ _ _ _ us hl => match us, hl with | [_, _, _], _ => rfl
 have FF28 := bR (st := q20) l28 c28 k28
 have D28 : DefM K "Plain" "stands" "Plain.stands" q20 ["self"] := ⟨C_Plain, _, _, ac_Plain, ⟨pg_Plain, hd_Plain, po_Plain, sa_Plain⟩, ⟨a28, i28, k28⟩, FF28.binds (fun _ _ _ _ _ _ us hl => match us, hl with | [_], _ => rfl), FF28⟩
 refine ⟨PySem.W.fnOf "law" "law" (aK aC) (aE aC) (ab aC) .none kV29 dc29 pm29 an29 cd29 ct29, fun s v => .of_eq rfl, fun base _ _ => ?_⟩
 have q64 := z107 (P := l.prog) (w := w) (base := base) T D0 
 have y29 := q102 (P := l.prog) (w := w) (base := base) T D1 
 have y79 := y114 (P := l.prog) (w := w) (base := base) T D2 
 have h_ways := q122 (P := l.prog) (w := w) (base := base) T D3 y79
 have y37 := z80 (P := l.prog) (w := w) (base := base) T D4 h_ways
 have z53 := q107 (P := l.prog) (w := w) (base := base) T D5 
 have z38 := z99 (P := l.prog) (w := w) (base := base) T D6 
 have q25 := q92 (P := l.prog) (w := w) (base := base) T D7 
 have z37 := y112 (P := l.prog) (w := w) (base := base) T D8 q25
 have y75 := q113 (P := l.prog) (w := w) (base := base) T D9 z37 y29
 have q56 := q100 (P := l.prog) (w := w) (base := base) T D10 
 have q40 := y107 (P := l.prog) (w := w) (base := base) T D11 
 have z8 := z98 (P := l.prog) (w := w) (base := base) T D12 q40
 have z41 := z72 (P := l.prog) (w := w) (base := base) T D13 
 have y71 := y111 (P := l.prog) (w := w) (base := base) T D14 
 have y103 := z120 (P := l.prog) (w := w) (base := base) T D15 y71
 have y53 := z92 (P := l.prog) (w := w) (base := base) T D16 z41 z8 y103
 have z52 := q90 (P := l.prog) (w := w) (base := base) T D17 z8 y53
 have q39 := y70 (P := l.prog) (w := w) (base := base) T D18 z8
 have z57 := z104 (P := l.prog) (w := w) (base := base) T D19 q56 z8 z52 q39
 have y34 := y108 (P := l.prog) (w := w) (base := base) T D20 
 have q71 := z111 (P := l.prog) (w := w) (base := base) T D21 y34
 have z56 := y95 (P := l.prog) (w := w) (base := base) T D22 
 have z47 := y109 (P := l.prog) (w := w) (base := base) T D23 
 have y58 := q104 (P := l.prog) (w := w) (base := base) T D24 
 have z55 := q93 (P := l.prog) (w := w) (base := base) T D25 
 have z58 := y104 (P := l.prog) (w := w) (base := base) T D26 
 have q42 := y102 (P := l.prog) (w := w) (base := base) T D27 z56 z47 y58 z55 z58 q40
 have y52 := y86 (P := l.prog) (w := w) (base := base) T D28 
 exact (wP T (bR (st := aC) l29 c29 k29) q64 y29 y37 z53 z38 q25 y75 z57 q71 q42 y52).imp fun vs H Q E z => w9 z
def walk {l : PySem.W.OpenLaw} {q : Program} {loose : List Str} {XP : (Str -> Option Value) -> Heap -> Prop} {YP : World -> Heap -> Prop} {d : DefRec} {K : Params -> PySem.W.Frag} (hn : l.most = some 63) (hdf : d.params.defaults = [])
  (hY : ∀ (w : World) (h : Heap), YP w h -> (K w.params).In h)
  (F : ∀ (w : World) (mg : Str -> Option Value) (fa : Addr) (h : Heap), (K w.params).In h -> h.Ns mainGlobals mg -> mg d.name = some (.ref fa) →
   ∃ fd : FuncData, (∀ (s : Shared) (u : Value), BindsTo s fd ⟨[u], []⟩ [("_law_script", u)]) /\ ∀ base : Heap, (K w.params).In base -> base.Ns mainGlobals mg -> FnOk l.prog w (K w.params) mg base CX0 6 fa fd ["_law_script"] (kQ (K w.params))) :
  PySem.W.WalkO q loose XP YP l.row.toRowW d [] (fun f vs => PySem.call f vs) :=
 L2.ya (n := 63) (k := 6) (x := "_law_script") (CX := fun _ => CX0) (sp := fun w => kQ (K w.params)) hn (by decide) hdf ⟨rfl, by decide, by decide⟩ hY F (fun _ _ a ns hl hO hS => ⟨a, ns, rfl, hS, hl, hO, fun _ => rfl⟩) fun _ _ _ _ _ z => z
end P23
open PySem PySem.W PyProof.Rows
set_option maxRecDepth 100000 in
set_option maxHeartbeats 0 in
theorem PySem.Challenge.cw_dimhouse_k23_cells_and_shelves_holds : PySem.Challenge.rw_dimhouse_k23_cells_and_shelves.Holds := by
 w_on; o_law
 refine holds_open (q := P23.seen) (loose := []) (Xt := fun s => xlAt P23.seen [] s && recOk (RowW.records (OpenRow.toRowW PySem.Challenge.rw_dimhouse_k23_cells_and_shelves.row)) s) (XP := XL P23.seen []) (Yf := Hook.obs P23.hook) (Ya := Hook.val P23.hook) (YP := Hook.says P23.hook) (N := 2644) ?hl (Hook.of P23.hook) (Hook.keeps P23.hook) (fun s e => xl_of s (Bool.and_eq_true_iff.mp e).1) XL.keeps (by rfl) (by rfl) (by rfl) (fun s e => recFacts_of (Bool.and_eq_true_iff.mp e).2) (by rfl) (by first | assumption | decide +kernel) (by decide +kernel) ⟨rfl, rfl, rfl, rfl, rfl, by decide +kernel⟩ ?hw ?hc
 case hl => exact LeftO.of_split "special-get-raises" fun w => P23.map_two (P23.run_false w) (P23.run_true w)
 case hw => w_witness2
 delta P23.hook
 k_fill
 refine P23.walk (l := PySem.Challenge.rw_dimhouse_k23_cells_and_shelves) rfl rfl (fun w h Y => PySem.W.kIn_of Y) ?F
 case F =>
  intro w mg fa h KX G hmg
  refine' P23.all_mk KX G hmg ?ac_Plain ?pg_Plain ?hd_Plain ?po_Plain ?sa_Plain ?mk_Plain ?kc_Plain ?nf_Plain_boxes ?nf_Plain_cells ?nf_Plain_done ?nf_Plain_hears ?nf_Plain_incoming ?nf_Plain_onward ?nf_Plain_outgoing ?nf_Plain_place ?nf_Plain_result ?nf_Plain_rows ?nf_Plain_shelves ?a0 ?l0 ?c0 ?k0 ?a1 ?l1 ?c1 ?k1 ?a2 ?l2 ?c2 ?k2 ?a3 ?l3 ?c3 ?k3 ?a4 ?i4 ?l4 ?c4 ?k4 ?a5 ?l5 ?c5 ?k5 ?a6 ?l6 ?c6 ?k6 ?a7 ?l7 ?c7 ?k7 ?a8 ?l8 ?c8 ?k8 ?a9 ?l9 ?c9 ?k9 ?a10 ?i10 ?l10 ?c10 ?k10 ?a11 ?i11 ?l11 ?c11 ?k11 ?a12 ?i12 ?l12 ?c12 ?k12 ?a13 ?i13 ?l13 ?c13 ?k13 ?a14 ?l14 ?c14 ?k14 ?a15 ?l15 ?c15 ?k15 ?a16 ?i16 ?l16 ?c16 ?k16 ?a17 ?i17 ?l17 ?c17 ?k17 ?a18 ?i18 ?l18 ?c18 ?k18 ?a19 ?i19 ?l19 ?c19 ?k19 ?a20 ?l20 ?c20 ?k20 ?a21 ?l21 ?c21 ?k21 ?a22 ?i22 ?l22 ?c22 ?k22 ?a23 ?l23 ?c23 ?k23 ?a24 ?i24 ?l24 ?c24 ?k24 ?a25 ?i25 ?l25 ?c25 ?k25 ?a26 ?i26 ?l26 ?c26 ?k26 ?a27 ?l27 ?c27 ?k27 ?a28 ?i28 ?l28 ?c28 ?k28 ?a29 ?l29 ?c29 ?k29 ?z_bool ?z_dict ?z_enumerate ?z_int ?z_isinstance ?z_len ?z_list ?z_min ?z_range ?z_str ?z_tuple ?b_WIDE ?r_WIDE ?x_str_NoneType ?x_str_bool ?x_str_int ?x_str_str ?x_str_tuple ?x_str_list ?x_str_dict ?x_bool_NoneType ?x_bool_bool ?x_bool_int ?x_bool_str ?x_bool_tuple ?x_bool_list ?x_bool_dict ?x_int_NoneType ?x_int_bool ?x_int_int ?x_int_str ?x_int_tuple ?x_int_list ?x_int_dict ?x_list_NoneType ?x_list_bool ?x_list_int ?x_list_str ?x_list_tuple ?x_list_list ?x_list_dict
  (case ac_Plain | pg_Plain | hd_Plain | po_Plain | sa_Plain | mk_Plain | kc_Plain | nf_Plain_boxes | nf_Plain_cells | nf_Plain_done | nf_Plain_hears | nf_Plain_incoming | nf_Plain_onward | nf_Plain_outgoing | nf_Plain_place | nf_Plain_result | nf_Plain_rows | nf_Plain_shelves | a0 | l0 | c0 | k0 | a1 | l1 | c1 | k1 | a2 | l2 | c2 | k2 | a3 | l3 | c3 | k3 | a4 | i4 | l4 | c4 | k4 | a5 | l5 | c5 | k5 | a6 | l6 | c6 | k6 | a7 | l7 | c7 | k7 | a8 | l8 | c8 | k8 | a9 | l9 | c9 | k9 | a10 | i10 | l10 | c10 | k10 | a11 | i11 | l11 | c11 | k11 | a12 | i12 | l12 | c12 | k12 | a13 | i13 | l13 | c13 | k13 | a14 | l14 | c14 | k14 | a15 | l15 | c15 | k15 | a16 | i16 | l16 | c16 | k16 | a17 | i17 | l17 | c17 | k17 | a18 | i18 | l18 | c18 | k18 | a19 | i19 | l19 | c19 | k19 | a20 | l20 | c20 | k20 | a21 | l21 | c21 | k21 | a22 | i22 | l22 | c22 | k22 | a23 | l23 | c23 | k23 | a24 | i24 | l24 | c24 | k24 | a25 | i25 | l25 | c25 | k25 | a26 | i26 | l26 | c26 | k26 | a27 | l27 | c27 | k27 | a28 | i28 | l28 | c28 | k28 | a29 | l29 | c29 | k29 | z_bool | z_dict | z_enumerate | z_int | z_isinstance | z_len | z_list | z_min | z_range | z_str | z_tuple | b_WIDE => k_is)
  (case r_WIDE => exact ⟨_, rfl⟩)
  (case x_str_NoneType => first | k_is | rfl)
  (case x_str_bool => first | k_is | rfl)
  (case x_str_int => first | k_is | rfl)
  (case x_str_str => first | k_is | rfl)
  (case x_str_tuple => first | k_is | rfl)
  (case x_str_list => first | k_is | rfl)
  (case x_str_dict => first | k_is | rfl)
  (case x_bool_NoneType => first | k_is | rfl)
  (case x_bool_bool => first | k_is | rfl)
  (case x_bool_int => first | k_is | rfl)
  (case x_bool_str => first | k_is | rfl)
  (case x_bool_tuple => first | k_is | rfl)
  (case x_bool_list => first | k_is | rfl)
  (case x_bool_dict => first | k_is | rfl)
  (case x_int_NoneType => first | k_is | rfl)
  (case x_int_bool => first | k_is | rfl)
  (case x_int_int => first | k_is | rfl)
  (case x_int_str => first | k_is | rfl)
  (case x_int_tuple => first | k_is | rfl)
  (case x_int_list => first | k_is | rfl)
  (case x_int_dict => first | k_is | rfl)
  (case x_list_NoneType => first | k_is | rfl)
  (case x_list_bool => first | k_is | rfl)
  (case x_list_int => first | k_is | rfl)
  (case x_list_str => first | k_is | rfl)
  (case x_list_tuple => first | k_is | rfl)
  (case x_list_list => first | k_is | rfl)
  (case x_list_dict => first | k_is | rfl)
