import PyProof.Rows.All
import Wide.All
import OpenK.AllK
import Wide.FinOn
import PyProof.EqAt
import PyProof.EqKinds
import PyProof.TupleCall
import KE.BitLaws
import Open.SpecLaws
import KE.OsHead
import KE.OsGo
import PySem.Challenge.RW_provedhints_s01_answers
import PyVbtaai
set_option Elab.async false
set_option linter.all false
set_option maxRecDepth 100000
namespace Ph
open PySem PySem.W PyProof.Rows
noncomputable def runT (st : SharedT -> Thread -> Option (SharedT × Thread)) (ok : Thread -> Bool) : Nat -> SharedT -> Thread -> Option SharedT
 | 0, _, _ => none
 | n + 1, s, t => match through t with
  | true => some s
  | false => match ok t with
   | false => none
   | true => match st s t with
    | some (s', t') => runT st ok n s' t'
    | none => none
theorem runT_spec {tb : String -> Option Builtin} {p : Program} {w : World} {m : Nat} {ann : Option Value} : ∀ (n : Nat) (s : SharedT) (t : Thread) (r : SharedT),
  runT (stepT (denote tb) p w) (stepOk m ann) n s t = some r -> topRun tb p w m ann n s.abs t = some r.abs
 | 0, _, _, _, h => by cases h
 | n + 1, s, t, r, h => by
  unfold runT at h
  unfold topRun
  cases he : through t with
  | true => rw [he] at h; cases h; rfl
  | false =>
   rw [he] at h
   cases hk : stepOk m ann t with
   | false => rw [hk] at h; cases h
   | true =>
    rw [hk] at h
    cases hs : stepT (denote tb) p w s t with
    | none => rw [hs] at h; cases h
    | some z => obtain ⟨s2, t2⟩ := z; rw [hs] at h; dsimp only; rw [stepT_spec hs]; exact runT_spec n s2 t2 r h
noncomputable def bt0 (P : Params) : BT := ((((((((((BT.nil.ins 0 (boot_o_0 P)).ins 1 (boot_o_1 P)).ins 2 (boot_o_2 P)).ins 3 (boot_o_3 P)).ins 4 (boot_o_4 P)).ins 5 (boot_o_5 P)).ins 6 (boot_o_6 P)).ins 7 (boot_o_7 P)).ins 8 (boot_o_8 P)).ins 9 (boot_o_9 P)).ins 10 (boot_o_10 P)
theorem bt0_eq (P : Params) : absHeap (bt0 P) 11 {} = boot_heap P := by kernel_rfl
noncomputable def hdK : List Nat := [0,1,2,4,5,6,8,9,10,11,12,13,14,15,16,17,18,19,20,21,23,24,25,27,28,29,30,31,32,33,34,35,36,37,38,39,40,41,42,43,44,45,46,47,48,49,50,51,52,53,54,55,56,57,58,60,61,62,63,64,66,67,68,69,70,71,73,74,76,77,78,79,80,81,83,84,85,86,87,88,89,90,91,92,93,94,95,96,97,98,99,100,101,102,103,104,105,106,107,108,109,110,111]
noncomputable def hdV : Program := W.view PySem.Challenge.rw_provedhints_s01_answers.prog hdK
noncomputable def hdR (w : World) (os : OsState) : Option SharedT := runT (stepT (denote treeTable) PySem.Challenge.rw_provedhints_s01_answers.prog w) (stepOk 11 (some (Value.ref 6))) 7916 ⟨bt0 w.params, 11, {}, #[], boot_drawn, boot_toks, os⟩ (topStub PySem.Challenge.rw_provedhints_s01_answers.prog)
noncomputable abbrev hdS (w : World) (s : SharedT) := openSeen hdV [] (importedModules PySem.Challenge.rw_provedhints_s01_answers.prog.main.body) (fun s => xlAt hdV [] s && recOk [] s) true s.abs
noncomputable abbrev hdB (w : World) (s : SharedT) : Bool := staticsOk (importedModules PySem.Challenge.rw_provedhints_s01_answers.prog.main.body) (boot_heap w.params) s.abs.heap && namesBound PySem.Challenge.rw_provedhints_s01_answers.prog s.abs.heap && gensDone s.abs && laidKept (boot_heap w.params) s.abs.heap
theorem hdL : looseW hdV [] = [] := by kernel_rfl
theorem hdR1 (w : World) (os : OsState) : (hdR w os).map (fun s => (hdS w s).2.2.2.2.2.1) = some (plainGoodE hdV []) := by unfold hdR; rw [W.Fast.te10156331382660048174, W.Fast.te11892475500146522536, W.Fast.te14364793385576792824, W.Fast.te6613529449190102663]; dsimp only [hdS, hdB]; rw [W.Fast.te4187177175401517315, W.Fast.te5923862056798008813]; kernel_rfl
theorem hdR2 (w : World) (os : OsState) : (hdR w os).map (fun s => (hdS w s).2.2.1) = some true := by unfold hdR; rw [W.Fast.te10156331382660048174, W.Fast.te11892475500146522536, W.Fast.te14364793385576792824, W.Fast.te6613529449190102663]; dsimp only [hdS, hdB]; rw [W.Fast.te4187177175401517315, W.Fast.te5923862056798008813]; kernel_rfl
theorem hdR3 (w : World) (os : OsState) : (hdR w os).map (fun s => (hdB w s, (hdS w s).1, (hdS w s).2.1, (hdS w s).2.2.2.2.1)) = some (true, expectedOf hdV, bltViewBooted, pinGoodD (drecsOf hdV)) := by unfold hdR; rw [W.Fast.te10156331382660048174, W.Fast.te11892475500146522536, W.Fast.te14364793385576792824, W.Fast.te6613529449190102663]; dsimp only [hdS, hdB]; rw [W.Fast.te4187177175401517315, W.Fast.te5923862056798008813]; kernel_rfl
theorem hdR4 (w : World) (os : OsState) : (hdR w os).map (fun s => ((hdS w s).2.2.2.1, (hdS w s).2.2.2.2.2.2.1, (hdS w s).2.2.2.2.2.2.2.1, (hdS w s).2.2.2.2.2.2.2.2)) = some (true, plainGoodD hdV [], wideGood hdV, clsGoodW hdV []) := by unfold hdR; rw [W.Fast.te10156331382660048174, W.Fast.te11892475500146522536, W.Fast.te14364793385576792824, W.Fast.te6613529449190102663]; dsimp only [hdS, hdB]; rw [W.Fast.te4187177175401517315, W.Fast.te5923862056798008813]; kernel_rfl
local macro_rules | `(tactic| o_headS $H) => `(tactic| contradiction)
theorem hdk (f : False) : PySem.Challenge.rw_provedhints_s01_answers.Holds := by w_on; k_headS
noncomputable def hdA : List Addr := (hdk.heap_1 {strHash := fun _ => 0, shareClass := fun _ => 0, mergeTok := id, idOf := fun _ => 0, idOfShared := fun _ _ => 0, followText := fun _ => false, idOfImm := fun _ => 0}).map (·.1)
theorem hdE (P : Params) : hdA = (hdk.heap_1 P).map (·.1) := by kernel_rfl
theorem hdR5 (w : World) (os : OsState) : (hdR w os).map (fun s => hdA.map s.abs.heap.get?) = some ((hdk.heap_1 w.params).map fun p => some p.2) := by unfold hdR; rw [W.Fast.te10156331382660048174, W.Fast.te11892475500146522536, W.Fast.te14364793385576792824, W.Fast.te6613529449190102663]; kernel_rfl
end Ph
namespace L2
open PySem PySem.Spec PyProof.Rows
abbrev Key := Sum Int Str
noncomputable def keyIs : Key -> Value -> Bool
 | .inl k, v => Value.isInt k v
 | .inr x, v => Value.isStrOf x v
noncomputable def keyH (w : World) : Key -> Int
 | .inl k => hashInt k
 | .inr x => hashStr w x
theorem keyIs_shape : ∀ {k : Key} {v : Value}, keyIs k v = true -> (∃ i t, k = Sum.inl i /\ v = Value.int i t) \/ (∃ x t, k = Sum.inr x /\ v = Value.str x t)
 | .inl i, v, h => by
  obtain ⟨t, e⟩ := Value.isInt_shape (k := i) (v := v) h
  exact .inl ⟨i, t, rfl, e⟩
 | .inr x, v, h => by
  obtain ⟨t, e⟩ := Value.isStrOf_shape (x := x) (v := v) h
  exact .inr ⟨x, t, rfl, e⟩
theorem keyIs_int (i : Int) (t : Tok) : keyIs (.inl i) (.int i t) = true := by simp [keyIs, Value.isInt]
theorem keyIs_str (x : Str) (t : Tok) : keyIs (.inr x) (.str x t) = true := by simp [keyIs, Value.isStrOf]
theorem key_ll (a b : Int) : decide ((Sum.inl a : Key) = Sum.inl b) = (a == b) := by
 by_cases e : a = b
 ·subst e; simp
 ·have h : ¬ (Sum.inl a : Key) = Sum.inl b := fun q => e (Sum.inl.inj q)
  rw [decide_eq_false h]
  exact (beq_eq_false_iff_ne.mpr e).symm
theorem key_rr (a b : Str) : decide ((Sum.inr a : Key) = Sum.inr b) = decide (a = b) := by
 by_cases e : a = b
 ·subst e; simp
 ·have h : ¬ (Sum.inr a : Key) = Sum.inr b := fun q => e (Sum.inr.inj q)
  rw [decide_eq_false h, decide_eq_false e]
theorem key_lr (a : Int) (b : Str) : decide ((Sum.inl a : Key) = Sum.inr b) = false := decide_eq_false (fun q => nomatch q)
theorem key_rl (a : Str) (b : Int) : decide ((Sum.inr a : Key) = Sum.inl b) = false := decide_eq_false (fun q => nomatch q)
noncomputable def mixKind (prog : Program) (w : World) : PySem.KeyKind prog w Key where
 is := keyIs
 hash := keyH w
 inj := fun v a b ha hb => by
  rcases keyIs_shape ha with ⟨i, t, rfl, rfl⟩ | ⟨x, t, rfl, rfl⟩
  ·rcases keyIs_shape hb with ⟨j, u, rfl, e⟩ | ⟨y, u, rfl, e⟩
   ·injection e with e1 _; rw [e1]
   ·exact nomatch e
  ·rcases keyIs_shape hb with ⟨j, u, rfl, e⟩ | ⟨y, u, rfl, e⟩
   ·exact nomatch e
   ·injection e with e1 _; rw [e1]
 byValue := fun k v h => by
  rcases keyIs_shape h with ⟨i, t, rfl, rfl⟩ | ⟨x, t, rfl, rfl⟩ <;> rfl
 pyHash := fun hv h => by
  rcases keyIs_shape hv with ⟨i, t, rfl, rfl⟩ | ⟨x, t, rfl, rfl⟩
  ·exact wpAny_pyHash_int h
  ·exact wpAny_pyHash_str h
 eqBool := fun hu hv h => by
  rcases keyIs_shape hu with ⟨i, t, rfl, rfl⟩ | ⟨x, t, rfl, rfl⟩
  ·rcases keyIs_shape hv with ⟨j, u, rfl, rfl⟩ | ⟨y, u, rfl, rfl⟩
   ·rw [key_ll] at h; exact wpAny_eqBool_int h
   ·rw [key_lr] at h; exact SeqAt.EqAt.int_str i t y u _ _ _ _ h
  ·rcases keyIs_shape hv with ⟨j, u, rfl, rfl⟩ | ⟨y, u, rfl, rfl⟩
   ·rw [key_rl] at h; exact SeqAt.EqAt.str_int x t j u _ _ _ _ h
   ·rw [key_rr] at h; exact wpAny_eqBool_str h
 «strs» := fun k x t v h => by
  rcases keyIs_shape h with ⟨i, u, rfl, e⟩ | ⟨y, u, rfl, e⟩
  ·exact nomatch e
  ·injection e with e1 _
   subst e1
   cases v <;> rfl
theorem mixKind_int (prog : Program) (w : World) (i : Int) (t : Tok) : (mixKind prog w).is (.inl i) (.int i t) = true := keyIs_int i t
theorem mixKind_str (prog : Program) (w : World) (x : Str) (t : Tok) : (mixKind prog w).is (.inr x) (.str x t) = true := keyIs_str x t
end L2
namespace L2
open PySem PySem.Spec PyProof.Rows
inductive V where
 | non | bl (b : Bool) | int (i : Int) | str (x : Str) | byt (b : Array UInt8) | flt (b : UInt64) | ref (a : Addr) | ty (n : String)
 deriving DecidableEq
noncomputable def RelV : V -> Value -> Prop
 | .non, u => u = Value.none
 | .bl b, u => u = Value.bool b
 | .int i, u => ∃ t, u = Value.int i t
 | .str x, u => ∃ t, u = Value.str x t
 | .byt b, u => ∃ t, u = Value.bytes b t
 | .flt b, u => ∃ t, u = Value.float b t
 | .ref a, u => u = Value.ref a
 | .ty n, u => u = Value.type n
abbrev Vals : List V -> List Value -> Prop := Paired RelV
theorem Vals.length {xs : List V} {us : List Value} (r : Vals xs us) : xs.length = us.length := Paired.length r
theorem Vals.get : ∀ {xs : List V} {us : List Value} {i : Nat} {x : V}, Vals xs us -> xs[i]? = some x -> ∃ u, us[i]? = some u /\ RelV x u
 | _, _, _, _, .nil, e => by simp at e
 | _, _, 0, _, .cons r _, e => by simp at e; subst e; exact ⟨_, rfl, r⟩
 | _, _, i + 1, x, .cons _ t, e => by
  obtain ⟨u, h1, h2⟩ := Vals.get (i := i) (x := x) t (by simpa using e)
  exact ⟨u, by simpa using h1, h2⟩
theorem Vals.set {x : V} {u : Value} (r : RelV x u) : ∀ {xs : List V} {us : List Value} (i : Nat), Vals xs us -> Vals (xs.set i x) (us.set i u)
 | _, _, _, .nil => .nil
 | _, _, 0, .cons _ t => .cons r t
 | _, _, i + 1, .cons q t => .cons q (Vals.set r i t)
theorem Vals.append : ∀ {xs ys : List V} {us ws : List Value}, Vals xs us -> Vals ys ws -> Vals (xs ++ ys) (us ++ ws)
 | _, _, _, _, .nil, s => s
 | _, _, _, _, .cons r t, s => .cons r (Vals.append t s)
theorem Vals.take : ∀ {xs : List V} {us : List Value} (n : Nat), Vals xs us -> Vals (xs.take n) (us.take n)
 | _, _, 0, _ => .nil
 | _, _, _ + 1, .nil => .nil
 | _, _, n + 1, .cons r t => .cons r (Vals.take n t)
theorem Vals.drop : ∀ {xs : List V} {us : List Value} (n : Nat), Vals xs us -> Vals (xs.drop n) (us.drop n)
 | _, _, 0, r => r
 | _, _, _ + 1, .nil => .nil
 | _, _, n + 1, .cons _ t => Vals.drop n t
theorem Vals.none_of : ∀ {xs : List V} {us : List Value} {i : Nat}, Vals xs us -> xs[i]? = none -> us[i]? = none := fun {xs us i} r e => by
 have h1 := r.length
 have h2 : xs.length <= i := List.getElem?_eq_none_iff.mp e
 exact List.getElem?_eq_none_iff.mpr (by omega)
noncomputable def RelO : Option V -> Option Value -> Prop
 | some v, some u => RelV v u
 | none, none => True
 | _, _ => False
noncomputable def KV {κ : Type} : List (κ × V) -> List (κ × Value) -> Prop := Paired fun (p : κ × V) (q : κ × Value) => p.1 = q.1 /\ RelV p.2 q.2
noncomputable def kV : Key -> V
 | .inl i => .int i
 | .inr x => .str x
inductive HO where
 /-- a list -/
 | lst (xs : List V)
 /-- a tuple (never changes) -/
 | tup (xs : List V)
 /-- a dict whose keys are ints and texts; one whose keys are tuples of ints and texts (the empty one is both) -/
 | dK (kvs : List (Key × V)) | dT (kvs : List (List Key × V))
 /-- a set of ints: its members, its size -/
 | set (S : Int -> Bool) (n : Nat)
 /-- an instance of the class at C, its dict at dx, its attributes -/
 | ins (C dx : Addr) (fs : List (Str × V))
 /-- the dict of the instance at x -/
 | own (x : Addr)
 /-- the dict of an exception -/
 | xd (fs : List (Str × V))
 /-- a bound method, f of x -/
 | met (f x : Addr)
 /-- a range object lo, lo + 1, .. below hi -/
 | rng (lo hi : Int)
 /-- a thing that is known to the object (the script; a dict while a loop walks it): read, never written while it is so -/
 | frz (o : Obj) (u : HO)
 /-- a code object's table -/
 | tbl (ps : Array Value)
 /-- any other thing, by what is true of its one object (a def of one's own: SetO a S n := HO.ext fun h => ..) -/
 | ext (φ : Heap -> Prop)
abbrev Hp := Addr -> Option HO
noncomputable def upd (H : Hp) (a : Addr) (o : HO) : Hp := fun b => if b = a then some o else H b
theorem upd_same {H : Hp} {a : Addr} {o : HO} : upd H a o a = some o := by unfold upd; rw [if_pos rfl]
theorem upd_ne {H : Hp} {a b : Addr} {o : HO} (h : b ≠ a) : upd H a o b = H b := by unfold upd; rw [if_neg h]
theorem upd_upd {H : Hp} {a : Addr} {o u : HO} : upd (upd H a o) a u = upd H a u := by
 funext b; unfold upd; split <;> rfl
theorem ne_of {H : Hp} {a b : Addr} {o u : HO} (h : H a = some o) (h' : H b = some u) (d : o ≠ u) : a ≠ b := by
 intro e; subst e; rw [h] at h'; exact d (Option.some.inj h')
theorem ne_of_none {H : Hp} {a b : Addr} {o : HO} (h : H a = some o) (h' : H b = none) : a ≠ b := by
 intro e; subst e; rw [h] at h'; cases h'
section
variable (P : Program) (w : World)
noncomputable def ObjOk (H : Hp) (h : Heap) (a : Addr) : HO -> Prop
 | .lst xs => xs.length <= sizeLine /\ ∃ (its : List Value) (n : Nat), Vals xs its /\ h.get? a = some { cls := .type "list", data := .seq its.toArray n }
 | .tup xs => xs.length <= sizeLine /\ ∃ its : List Value, Vals xs its /\ IsTup h a its.toArray
 | .dK kvs => kvs.length <= sizeLine /\ (a == sysModules) = false /\ ∃ vs, KV kvs vs /\ h.DictOf (mixKind P w) a vs
 | .dT kvs => kvs.length <= sizeLine /\ (a == sysModules) = false /\ ∃ xs : List (List Key × Addr × Value),
   Paired (fun (p : List Key × V) (q : List Key × Addr × Value) => p.1 = q.1 /\ H q.2.1 = some (.tup (p.1.map kV)) /\ RelV p.2 q.2.2) kvs xs /\
   ∃ o es ep, h.get? a = some o /\ o.ExactDict /\ o.data = .dict es ep /\ es.toList = xs.map (entryOfKey (tupleKind (mixKind P w))) /\ (xs.map (·.1)).Nodup
 | .set S n => h.SetOf (intKind P w) a S n
 | .ins C dx fs => H dx = some (.own a) /\ fs.length <= 1000 /\ dx ≠ a /\ h.get? a = some (W.instObj C dx) /\
   ∃ mA, h.Ns1 dx mA /\ (∀ f, RelO (fs.lookup f) (mA f)) /\ PySem.Within mA (fs.map (·.1))
 | .own _ => ∃ o, h.get? a = some o
 | .xd fs => ∃ mA, h.Ns1 a mA /\ ∀ f, RelO (fs.lookup f) (mA f)
 | .rng lo hi => ∃ t u v, h.get? a = some { cls := .type "range", data := .fields #[.int lo t, .int hi u, .int 1 v] }
 | .frz o u => h.get? a = some o /\ ObjOk H h a u
 | .tbl ps => h.get? a = some { cls := .none, data := .fields ps }
 | .met f x => h.get? a = some (W.methodObj (.ref f) (.ref x))
 | .ext φ => φ h /\ (∃ o, h.get? a = some o) /\ ∀ h1 h2 : Heap, φ h1 -> (∀ o, h1.get? a = some o -> h2.get? a = some o) -> φ h2
noncomputable def HOk (H : Hp) (h : Heap) : Prop := ∀ a o, H a = some o -> ObjOk P w H h a o
end
section
variable {P : Program} {w : World} {H H' : Hp} {h h' : Heap} {a : Addr} {o : HO}
theorem ObjOk.lt (x : ObjOk P w H h a o) : a < h.objs.size := by
 cases o with
 | lst xs => obtain ⟨_, _, _, _, e⟩ := x; exact Heap.lt_size e
 | tup xs => obtain ⟨_, _, _, p⟩ := x; exact p.lt
 | dK kvs => obtain ⟨_, _, _, _, o, _, _, e, _⟩ := x; exact Heap.lt_size e
 | dT kvs => obtain ⟨_, _, _, _, o, _, _, e, _⟩ := x; exact Heap.lt_size e
 | set S n => obtain ⟨o, _, _, _, e, _⟩ := x; exact Heap.lt_size e
 | ins C dx fs => obtain ⟨_, _, _, e, _⟩ := x; exact Heap.lt_size e
 | own y => obtain ⟨_, e⟩ := x; exact Heap.lt_size e
 | xd fs => obtain ⟨_, ⟨_, _, _, e, _⟩, _⟩ := x; exact Heap.lt_size e
 | rng lo hi => obtain ⟨_, _, _, e⟩ := x; exact Heap.lt_size e
 | frz ob u => obtain ⟨e, _⟩ := x; exact Heap.lt_size e
 | tbl ps => exact Heap.lt_size (show h.get? a = some _ from x)
 | met f y => exact Heap.lt_size (show h.get? a = some _ from x)
 | ext φ => obtain ⟨_, ⟨_, e⟩, _⟩ := x; exact Heap.lt_size e
theorem Paired.mapP {α β : Type} {F G : α -> β -> Prop} : ∀ {l₁ : List α} {l₂ : List β}, Paired F l₁ l₂ -> (∀ a b, F a b -> G a b) -> Paired G l₁ l₂
 | _, _, .nil, _ => .nil
 | _, _, .cons r t, f => .cons (f _ _ r) (Paired.mapP t f)
theorem ObjOk.stay (x : ObjOk P w H h a o) (k : ∀ b u, (b = a \/ H b = some (.own a)) -> h.get? b = some u -> h'.get? b = some u)
  (ho : ∀ b, H b = some (.own a) -> H' b = some (.own a)) (ht : ∀ b xs, H b = some (.tup xs) -> H' b = some (.tup xs)) : ObjOk P w H' h' a o := by
 induction o with
 | lst xs => obtain ⟨z, its, n, r, e⟩ := x; exact ⟨z, its, n, r, k _ _ (.inl rfl) e⟩
 | tup xs => obtain ⟨z, its, r, ob, e, c⟩ := x; exact ⟨z, its, r, ob, k _ _ (.inl rfl) e, c⟩
 | dK kvs => obtain ⟨z, y, vs, r, ob, es, ep, e, c⟩ := x; exact ⟨z, y, vs, r, ob, es, ep, k _ _ (.inl rfl) e, c⟩
 | dT kvs =>
  obtain ⟨z, y, xs, r, ob, es, ep, e, c⟩ := x
  exact ⟨z, y, xs, Paired.mapP r fun p q z => ⟨z.1, ht _ _ z.2.1, z.2.2⟩, ob, es, ep, k _ _ (.inl rfl) e, c⟩
 | set S n => obtain ⟨ob, es, ep, t, e, c⟩ := x; exact ⟨ob, es, ep, t, k _ _ (.inl rfl) e, c⟩
 | ins C dx fs =>
  obtain ⟨d, z, ne, e, mA, ⟨od, es, ep, e2, c⟩, r⟩ := x
  exact ⟨ho _ d, z, ne, k _ _ (.inl rfl) e, mA, ⟨od, es, ep, k _ _ (.inr d) e2, c⟩, r⟩
 | own y => obtain ⟨ob, e⟩ := x; exact ⟨ob, k _ _ (.inl rfl) e⟩
 | xd fs => obtain ⟨mA, ⟨od, es, ep, e, c⟩, r⟩ := x; exact ⟨mA, ⟨od, es, ep, k _ _ (.inl rfl) e, c⟩, r⟩
 | rng lo hi => obtain ⟨t, u, v, e⟩ := x; exact ⟨t, u, v, k _ _ (.inl rfl) e⟩
 | frz ob u ih => obtain ⟨e, q⟩ := x; exact ⟨k _ _ (.inl rfl) e, ih q⟩
 | tbl ps =>
  have e : h.get? a = some { cls := .none, data := .fields ps } := x
  show h'.get? a = some { cls := .none, data := .fields ps }
  exact k a _ (.inl rfl) e
 | met f y =>
  have e : h.get? a = some (W.methodObj (.ref f) (.ref y)) := x
  show h'.get? a = some (W.methodObj (.ref f) (.ref y))
  exact k a _ (.inl rfl) e
 | ext φ => obtain ⟨p, ⟨o, e⟩, st⟩ := x; exact ⟨st _ _ p fun o q => k _ _ (.inl rfl) q, ⟨o, k _ _ (.inl rfl) e⟩, st⟩
theorem HOk.lt (x : HOk P w H h) (e : H a = some o) : a < h.objs.size := (x a o e).lt
theorem HOk.fresh (x : HOk P w H h) (e : h.objs.size <= a) : H a = none := by
 cases q : H a with
 | none => rfl
 | some u => exact absurd (Nat.lt_of_lt_of_le (x.lt q) e) (Nat.lt_irrefl _)
theorem HOk.kept (x : HOk P w H h) (k : ∀ b u, h.get? b = some u -> h'.get? b = some u) : HOk P w H h' := fun a o e =>
 (x a o e).stay (fun b u _ q => k b u q) (fun _ q => q) fun _ _ q => q
theorem HOk.laid (x : HOk P w H h) (k : ∀ b u, h.get? b = some u -> h'.get? b = some u) (hp : h.objs.size <= a) (new : ObjOk P w (upd H a o) h' a o) : HOk P w (upd H a o) h' := fun b u e => by
 have hn := x.fresh hp
 by_cases hb : b = a
 ·subst hb; rw [upd_same] at e; cases e; exact new
 ·rw [upd_ne hb] at e
  exact (x b u e).stay (fun c v _ q => k c v q) (fun c q => by rw [upd_ne (ne_of_none q hn)]; exact q) fun c xs q => by rw [upd_ne (ne_of_none q hn)]; exact q
end
noncomputable def Rd (H : Hp) (a : Addr) (u : HO) : Prop := H a = some u \/ ∃ o, H a = some (.frz o u)
theorem Rd.of {H : Hp} {a : Addr} {u : HO} (h : H a = some u) : Rd H a u := .inl h
theorem Rd.ok {P : Program} {w : World} {H : Hp} {h : Heap} {a : Addr} {u : HO} (r : Rd H a u) (x : HOk P w H h) : ObjOk P w H h a u := by
 rcases r with r | ⟨o, r⟩
 ·exact x a u r
 ·obtain ⟨_, q⟩ := x a _ r
  exact q
noncomputable def Mut : Option HO -> Prop
 | some (.lst _) => True
 | some (.dK _) => True
 | some (.dT _) => True
 | some (.set _ _) => True
 | some (.ins _ _ _) => True
 | some (.ext _) => True
 | _ => False
section
variable {P : Program} {w : World} {H : Hp} {h h' : Heap} {x e : Addr} {o' : HO}
theorem HOk.write (ok : HOk P w H h) (mu : Mut (H x)) (he : e = x \/ H e = some (.own x)) (k : ∀ b u, b ≠ e -> h.get? b = some u -> h'.get? b = some u) (heo : ∃ u, h'.get? e = some u)
  (new : ObjOk P w (upd H x o') h' x o') : HOk P w (upd H x o') h' := fun b u q => by
 have nown : ∀ c y, H c = some (.own y) -> c ≠ x := fun c y r z => by subst z; rw [r] at mu; exact mu
 have ntup : ∀ c xs, H c = some (.tup xs) -> c ≠ x := fun c xs r z => by subst z; rw [r] at mu; exact mu
 by_cases hb : b = x
 ·subst hb; rw [upd_same] at q; cases q; exact new
 ·rw [upd_ne hb] at q
  by_cases hbe : b = e
  ·have q' : H b = some (.own x) := by
    rcases he with z | z
    ·exact absurd (hbe.trans z) hb
    ·rw [hbe]; exact z
   rw [q] at q'; cases q'
   obtain ⟨v, hv⟩ := heo
   exact ⟨v, by rw [hbe]; exact hv⟩
  ·refine (ok b u q).stay (fun c v hc r => k c v ?_ r) (fun c r => by rw [upd_ne (nown c b r)]; exact r) fun c xs r => by rw [upd_ne (ntup c xs r)]; exact r
   rcases hc with rfl | hc
   ·exact hbe
   ·rintro rfl
    rcases he with z | z
    ·exact nown c b hc z
    ·rw [hc] at z; cases z; exact hb rfl
end
structure Un (fs ex : List Addr) (H H' : Hp) (h h' : Heap) : Prop where
 keep : ∀ b o, h.get? b = some o -> H b = none -> b ∉ fs -> b ∉ ex -> h'.get? b = some o
 slot : ∀ b o, h.get? b = some o -> H b = none -> b ∈ fs -> b ∉ ex -> ∃ sl, h'.get? b = some { o with slots := sl }
 free : ∀ b o, h.get? b = some o -> H b = none -> b ∉ ex -> H' b = none
 there : ∀ b o, h.get? b = some o -> b ∉ ex -> ∃ o', h'.get? b = some o'
 tups : ∀ b xs, H b = some (.tup xs) -> H' b = some (.tup xs)
 frzs : ∀ b o u, H b = some (.frz o u) -> H' b = some (.frz o u)
 tbls : ∀ b ps, H b = some (.tbl ps) -> ∃ more, H' b = some (.tbl (ps ++ more))
section
variable {fs fs' ex ex' : List Addr} {H H1 H2 : Hp} {h h1 h2 h' : Heap} {a x e : Addr} {o : HO}
theorem Un.any (u : Un fs ex H H1 h h1) {b : Addr} {ob : Obj} (q : h.get? b = some ob) (n : H b = none) (hx : b ∉ ex) : ∃ sl, h1.get? b = some { ob with slots := sl } := by
 by_cases hb : b ∈ fs
 ·exact u.slot b ob q n hb hx
 ·exact ⟨ob.slots, u.keep b ob q n hb hx⟩
theorem Un.trans (a : Un fs ex H H1 h h1) (b : Un fs ex H1 H2 h1 h2) : Un fs ex H H2 h h2 where
 keep := fun c ob q n hc hx => b.keep c ob (a.keep c ob q n hc hx) (a.free c ob q n hx) hc hx
 slot := fun c ob q n hc hx => by
  obtain ⟨sl, e1⟩ := a.slot c ob q n hc hx
  obtain ⟨sl', e2⟩ := b.slot c _ e1 (a.free c ob q n hx) hc hx
  exact ⟨sl', e2⟩
 free := fun c ob q n hx => by
  obtain ⟨o', e1⟩ := a.there c ob q hx
  exact b.free c o' e1 (a.free c ob q n hx) hx
 there := fun c ob q hx => by
  obtain ⟨o', e1⟩ := a.there c ob q hx
  exact b.there c o' e1 hx
 tups := fun c xs q => b.tups c xs (a.tups c xs q)
 frzs := fun c ob xs q => b.frzs c ob xs (a.frzs c ob xs q)
 tbls := fun c ps q => by
  obtain ⟨m1, e1⟩ := a.tbls c ps q
  obtain ⟨m2, e2⟩ := b.tbls c _ e1
  exact ⟨m1 ++ m2, by rw [e2, Array.append_assoc]⟩
theorem Un.kept (k : ∀ b u, h.get? b = some u -> h'.get? b = some u) : Un fs ex H H h h' :=
 ⟨fun b ob q _ _ _ => k b ob q, fun b ob q _ _ _ => ⟨ob.slots, k b ob q⟩, fun _ _ _ n _ => n, fun b ob q _ => ⟨ob, k b ob q⟩, fun _ _ q => q, fun _ _ _ q => q, fun _ ps q => ⟨#[], by rw [q]; simp⟩⟩
theorem Un.refl : Un fs ex H H h h := Un.kept fun _ _ q => q
theorem Un.laid (k : ∀ b u, h.get? b = some u -> h'.get? b = some u) (hp : h.objs.size <= a) (hn : H a = none) : Un fs ex H (upd H a o) h h' where
 keep := fun b u q _ _ _ => k b u q
 slot := fun b u q _ _ _ => ⟨u.slots, k b u q⟩
 free := fun b u q n _ => by rw [upd_ne (Nat.ne_of_lt (Nat.lt_of_lt_of_le (Heap.lt_size q) hp))]; exact n
 there := fun b u q _ => ⟨u, k b u q⟩
 tups := fun b xs q => by rw [upd_ne (ne_of_none q hn)]; exact q
 frzs := fun b u xs q => by rw [upd_ne (ne_of_none q hn)]; exact q
 tbls := fun b ps q => ⟨#[], by rw [upd_ne (ne_of_none q hn), q]; simp⟩
theorem Un.write (mu : Mut (H x)) (he : e = x \/ H e = some (.own x)) (k : ∀ b u, b ≠ e -> h.get? b = some u -> h'.get? b = some u) (heo : ∃ u, h'.get? e = some u) : Un fs ex H (upd H x o) h h' := by
 have hx : ∀ b, H b = none -> b ≠ x := fun b n z => by subst z; rw [n] at mu; exact mu
 have hb : ∀ b, H b = none -> b ≠ e := fun b n z => by
  subst z
  rcases he with r | r
  ·exact hx b n r
  ·rw [n] at r; cases r
 have hm : ∀ b u, H b = some u -> ¬ Mut (some u) -> b ≠ x := fun b u q nm z => by subst z; rw [q] at mu; exact nm mu
 refine ⟨fun b u q n _ _ => k b u (hb b n) q, fun b u q n _ _ => ⟨u.slots, k b u (hb b n) q⟩, fun b u q n _ => by rw [upd_ne (hx b n)]; exact n, fun b u q _ => ?_,
  fun b xs q => by rw [upd_ne (hm b _ q fun z => z)]; exact q, fun b u xs q => by rw [upd_ne (hm b _ q fun z => z)]; exact q, fun b ps q => ⟨#[], by rw [upd_ne (hm b _ q fun z => z), q]; simp⟩⟩
 by_cases hbe : b = e
 ·subst hbe; exact heo
 ·exact ⟨u, k b u hbe q⟩
theorem Un.mono (u : Un fs ex H H1 h h1) (hs : ∀ b ∈ fs, b ∈ fs') (hx : ∀ b ∈ ex, b ∈ ex') : Un fs' ex' H H1 h h1 :=
 ⟨fun b ob q n hb he => u.keep b ob q n (fun z => hb (hs b z)) fun z => he (hx b z), fun _ _ q n _ he => u.any q n fun z => he (hx _ z), fun b ob q n he => u.free b ob q n fun z => he (hx b z), fun b ob q he => u.there b ob q fun z => he (hx b z), u.tups, u.frzs, u.tbls⟩
end
noncomputable def trk (h : Heap) (H : Hp) : List Addr := (List.range h.objs.size).filter fun a => (H a).isSome
noncomputable def hidT (h : Heap) (H : Hp) : Heap := W.hideAll h (trk h H)
theorem hidT_size (h : Heap) (H : Hp) : (hidT h H).objs.size = h.objs.size := W.hideAll_size _ _
theorem hidT_get {h : Heap} {H : Hp} {b : Addr} {o : Obj} (e : h.get? b = some o) (n : H b = none) : (hidT h H).get? b = some o :=
 W.hideAll_get _ e fun hm => by
  have q : (H b).isSome = true := (List.mem_filter.mp hm).2
  rw [n] at q; simp at q
theorem of_hidT {h : Heap} {H : Hp} {b : Addr} {o : Obj} (e : (hidT h H).get? b = some o) : h.get? b = some o /\ H b = none := by
 have e' : h.get? b = some o := W.of_hideAll (trk h H) e
 refine ⟨e', ?_⟩
 cases q : H b with
 | none => rfl
 | some x =>
  have hm : b ∈ trk h H := List.mem_filter.mpr ⟨List.mem_range.mpr (Heap.lt_size e'), by simp [q]⟩
  have z : (hidT h H).get? b = none := W.hideAll_none (trk h H) hm
  rw [z] at e; cases e
noncomputable def allNews (g h : Heap) (L : Addr) : List (Addr × Obj) := (List.range h.objs.size).filterMap fun a => if a = L \/ (g.get? a).isSome = true then none else (h.get? a).map fun o => (a, o)
noncomputable def rest (g h : Heap) (L d : Addr) : List (Addr × Obj) := (allNews g h L).filter fun p => decide (p.1 ≠ d)
end L2
namespace L2
open PySem PySem.Spec PyProof.Rows
structure Mod (K : W.Frag) (mg : Str -> Option Value) (base : Heap) : Prop where
 kin : K.In base
 glob : base.Ns mainGlobals mg
 blt : ∃ mb, base.Ns builtinsNs mb /\ ∀ x : Str, x ≠ "__name__" -> mb x = bootBuiltins x
 nolimit : base.NoLimit
structure Cx where
 prog : Program
 w : World
 K : W.Frag
 mg : Str -> Option Value
 base : Heap
 A : Around
 N : List Str
 s_0 : Shared
 H_0 : Hp
 env : Env
 outer : List Env
 stack : List Env
 ex : List Addr
 fn : Str -> Bool
 calm : Bool
 pn : List (Addr × Obj)
 xe : Value -> Shared -> Prop
noncomputable def frs (l : List Env) : List Addr := l.filterMap (·.frame)
noncomputable abbrev Cx.fs (X : Cx) : List Addr := frs X.outer
noncomputable def Vis (sc : Scope) (x : Str) : Prop := sc.names.lookup x = some .local \/ sc.names.lookup x = some .cell \/ sc.names.lookup x = some .free
noncomputable def Loc (sc : Scope) (x : Str) : Prop := sc.names.lookup x = some .local \/ sc.names.lookup x = some .cell
noncomputable def Look (env : Env) (h : Heap) (m : Str -> Option Value) (x : Str) (u : Value) : Prop :=
 (env.kindOf x = some .local /\ m x = some u) \/ ((env.kindOf x = some .cell \/ env.kindOf x = some .free) /\ ∃ c, env.cells.lookup x = some c /\ h.IsCell c (some u))
structure Cx.Ok (X : Cx) : Prop where
 mod : Mod X.K X.mg X.base
 kind : X.env.scope.kind = .function
 glob : X.env.globals = mainGlobals
 blt : X.env.builtins = builtinsNs
 above : X.s_0.heap.objs.size <= X.env.locals
 inj : ∀ x y c, X.env.cells.lookup x = some c -> X.env.cells.lookup y = some c -> x = y
 has : ∀ x, (X.env.kindOf x = some .cell \/ X.env.kindOf x = some .free) -> ∃ c, X.env.cells.lookup x = some c
 cab : ∀ x c, X.fn x = true -> X.env.cells.lookup x = some c -> X.s_0.heap.objs.size <= c
 hd : X.calm = true -> X.A.handled = none
 frames : X.A.frames = some X.stack
 stk : X.stack = X.outer \/ (X.stack = X.env :: X.outer /\ X.env.frame = some X.env.locals)
 exf : ∀ b ∈ X.ex, b ≠ X.env.locals /\ ∀ x c, X.env.cells.lookup x = some c -> c ≠ b
 bs : ∀ b o, X.base.get? b = some o -> X.s_0.heap.get? b = some o /\ X.H_0 b = none
 bsz : X.base.objs.size <= X.s_0.heap.objs.size
 noex : ∀ b o, X.base.get? b = some o -> b ∉ X.ex
 exfs : ∀ b ∈ X.ex, b ∉ X.fs
 funs : X.s_0.heap.FunFrames X.base X.outer
 frf : ∀ b ∈ X.fs, X.H_0 b = none
structure Inv (X : Cx) (pins : List (Addr × Obj)) (σ : List (Option V)) (H : Hp) (s : Shared) : Prop where
 ok : X.Ok
 os : s.os = X.s_0.os
 bare : AllBare s.gens
 base : Un X.fs X.ex X.H_0 H X.s_0.heap s.heap
 loc : ∃ m, s.heap.Ns X.env.locals m /\ ∀ (i : Nat) (x : Str) (v : V), X.N[i]? = some x -> σ[i]? = some (some v) -> Vis X.env.scope x -> ∃ u, RelV v u /\ Look X.env s.heap m x u
 cell : ∀ x c, X.env.cells.lookup x = some c -> ∃ v, s.heap.IsCell c v
 free : H X.env.locals = none
 freeC : ∀ x c, X.env.cells.lookup x = some c -> H c = none
 pin : ∀ p ∈ X.pn ++ pins, s.heap.get? p.1 = some p.2 /\ H p.1 = none /\ p.1 ≠ X.env.locals /\ p.1 ∉ X.fs /\ ∀ v, p.2.data ≠ .cell v
 hok : HOk X.prog X.w H s.heap
 len : σ.length = X.N.length
section
variable {X : Cx} {pins : List (Addr × Obj)} {σ : List (Option V)} {H H' : Hp} {s : Shared} {h' : Heap}
theorem Cx.Ok.nofr (ok : X.Ok) {b : Addr} {o : Obj} (e : X.base.get? b = some o) : b ∉ X.fs := fun hb => by
 have := (ok.funs.mem hb).1
 rw [e] at this; cases this
theorem Inv.bs (I : Inv X pins σ H s) : ∀ b o, X.base.get? b = some o -> s.heap.get? b = some o /\ H b = none := fun b o e =>
 ⟨I.base.keep b o (I.ok.bs b o e).1 (I.ok.bs b o e).2 (I.ok.nofr e) (I.ok.noex b o e), I.base.free b o (I.ok.bs b o e).1 (I.ok.bs b o e).2 (I.ok.noex b o e)⟩
theorem Inv.bk (I : Inv X pins σ H s) : ∀ b o, X.base.get? b = some o -> s.heap.get? b = some o := fun b o e => (I.bs b o e).1
theorem Inv.mod (I : Inv X pins σ H s) : Mod X.K X.mg X.base := I.ok.mod
theorem Inv.kIn (I : Inv X pins σ H s) : X.K.In s.heap := I.ok.mod.kin.keeps I.bk
theorem Inv.fr (I : Inv X pins σ H s) : ∃ m, Fr X.base X.env.locals s.heap m :=
 let ⟨m, hn, _⟩ := I.loc
 ⟨m, hn, I.bk, Nat.le_trans I.ok.bsz I.ok.above⟩
theorem Inv.lt (I : Inv X pins σ H s) : X.env.locals < s.heap.objs.size := let ⟨_, hn, _⟩ := I.loc; hn.lt
theorem Inv.sz (I : Inv X pins σ H s) : X.s_0.heap.objs.size <= s.heap.objs.size := Nat.le_trans I.ok.above (Nat.le_of_lt I.lt)
theorem Inv.nofs (I : Inv X pins σ H s) {a : Addr} (h : s.heap.objs.size <= a) : a ∉ X.fs := fun hb => by
 obtain ⟨_, o, ho, _⟩ := I.ok.funs.mem hb
 exact absurd (Nat.lt_of_lt_of_le (Heap.lt_size ho) (Nat.le_trans I.sz h)) (Nat.lt_irrefl _)
theorem Inv.cne (I : Inv X pins σ H s) : ∀ x c, X.env.cells.lookup x = some c -> c ≠ X.env.locals := fun x c e z => by
 obtain ⟨v, o, ho, hd⟩ := I.cell x c e
 obtain ⟨m, ⟨o', es, ep, ho', hd', _⟩, _⟩ := I.loc
 rw [z, ho'] at ho; cases ho; rw [hd'] at hd; cases hd
theorem Inv.funs (I : Inv X pins σ H s) : s.heap.FunFrames X.base X.outer := by
 have all : ∀ (l : List Env), (∀ b ∈ frs l, b ∈ X.fs) -> X.s_0.heap.FunFrames X.base l -> s.heap.FunFrames X.base l := by
  intro l
  induction l with
  | nil => intro _ _; trivial
  | cons env r ih =>
   intro hs hl
   obtain ⟨hk, ⟨L, o, hf, hn, ho, hd⟩, hr⟩ := hl
   have hL : L ∈ X.fs := hs L (by unfold frs; rw [List.filterMap_cons, hf]; exact List.mem_cons_self)
   obtain ⟨sl, e⟩ := I.base.slot L o ho (I.ok.frf L hL) hL fun z => I.ok.exfs L z hL
   exact ⟨hk, ⟨L, _, hf, hn, e, hd⟩, ih (fun b hb => hs b (by unfold frs; rw [List.filterMap_cons, hf]; exact List.mem_cons_of_mem _ hb)) hr⟩
 exact all X.outer (fun _ hb => hb) I.ok.funs
theorem Inv.stack (I : Inv X pins σ H s) : s.heap.FunFrames X.base X.stack := by
 rcases I.ok.stk with e | ⟨e, hf⟩
 ·rw [e]; exact I.funs
 ·rw [e]
  obtain ⟨m, hn, _⟩ := I.loc
  refine .cons (by rw [I.ok.kind]; decide) hf hn ?_ I.funs
  exact Heap.get?_none_of_le (Nat.le_trans I.ok.bsz I.ok.above)
theorem Inv.stkSub (I : Inv X pins σ H s) : ∀ b ∈ frs X.stack, b ∈ X.env.locals :: X.fs := fun b hb => by
 rcases I.ok.stk with e | ⟨e, hf⟩
 ·rw [e] at hb; exact List.mem_cons_of_mem _ hb
 ·rw [e] at hb
  unfold frs at hb
  rw [List.filterMap_cons, hf] at hb
  exact hb
theorem Inv.stkFree (I : Inv X pins σ H s) : ∀ b ∈ frs X.stack, H b = none := fun b hb => by
 rcases List.mem_cons.mp (I.stkSub b hb) with e | hb
 ·rw [e]; exact I.free
 ·obtain ⟨_, o, ho, _⟩ := I.ok.funs.mem hb
  exact I.base.free b o ho (I.ok.frf b hb) fun z => I.ok.exfs b z hb
theorem Inv.step {g' : Array GenState} {t' : Nat} {d' : Drawn} {ch : List Addr} (I : Inv X pins σ H s)
  (hch : ∀ b ∈ ch, (b ∈ X.ex \/ X.s_0.heap.objs.size <= b) /\ b ≠ X.env.locals /\ (∀ x c, X.env.cells.lookup x = some c -> c ≠ b) /\ ∀ p ∈ X.pn ++ pins, p.1 ≠ b)
  (keep : ∀ b o, b ≠ X.env.locals -> b ∉ X.fs -> b ∉ ch -> s.heap.get? b = some o -> H b = none -> h'.get? b = some o)
  (slot : ∀ b o, b ≠ X.env.locals -> b ∈ X.fs -> b ∉ ch -> s.heap.get? b = some o -> H b = none -> ∃ sl, h'.get? b = some { o with slots := sl }) (free : ∀ b o, b ∉ ch -> s.heap.get? b = some o -> H b = none -> H' b = none)
  (there : ∀ b o, b ∉ ch -> s.heap.get? b = some o -> ∃ o', h'.get? b = some o')
  (tups : ∀ b xs, H b = some (.tup xs) -> H' b = some (.tup xs)) (frzs : ∀ b o u, H b = some (.frz o u) -> H' b = some (.frz o u)) (tbls : ∀ b ps, H b = some (.tbl ps) -> ∃ more, H' b = some (.tbl (ps ++ more)))
  (ns : ∀ m, s.heap.Ns X.env.locals m -> h'.Ns X.env.locals m) (hok : HOk X.prog X.w H' h') (hg : AllBare g') :
  Inv X pins σ H' { s with heap := h', gens := g', drawn := d', toks := t' } := by
 have neL : ∀ b o, X.s_0.heap.get? b = some o -> b ≠ X.env.locals := fun b o e => Nat.ne_of_lt (Nat.lt_of_lt_of_le (Heap.lt_size e) I.ok.above)
 have neC : ∀ b o, X.s_0.heap.get? b = some o -> b ∉ X.ex -> b ∉ ch := fun b o e hx hb => by
  rcases (hch b hb).1 with z | z
  ·exact hx z
  ·exact absurd (Nat.lt_of_lt_of_le (Heap.lt_size e) z) (Nat.lt_irrefl _)
 have cellK : ∀ x c, X.env.cells.lookup x = some c -> ∀ v, s.heap.IsCell c v -> h'.IsCell c v := fun x c e v ⟨o, ho, hd⟩ => by
  have nch : c ∉ ch := fun z => (hch c z).2.2.1 x c e rfl
  by_cases hc : c ∈ X.fs
  ·obtain ⟨sl, q⟩ := slot c o (I.cne x c e) hc nch ho (I.freeC x c e)
   exact ⟨_, q, hd⟩
  ·exact ⟨o, keep c o (I.cne x c e) hc nch ho (I.freeC x c e), hd⟩
 refine ⟨I.ok, I.os, hg, ⟨fun b o e n hb hx => ?_, fun b o e n hb hx => ?_, fun b o e n hx => ?_, fun b o e hx => ?_, fun b xs e => tups b xs (I.base.tups b xs e), fun b o xs e => frzs b o xs (I.base.frzs b o xs e), fun b ps e => ?_⟩, ?_, fun x c e => ?_, ?_, fun x c e => ?_, fun p hp => ?_, hok, I.len⟩
 ·exact keep b o (neL b o e) hb (neC b o e hx) (I.base.keep b o e n hb hx) (I.base.free b o e n hx)
 ·obtain ⟨sl, e1⟩ := I.base.slot b o e n hb hx
  obtain ⟨sl', e2⟩ := slot b _ (neL b o e) hb (neC b o e hx) e1 (I.base.free b o e n hx)
  exact ⟨sl', e2⟩
 ·obtain ⟨o', e1⟩ := I.base.there b o e hx
  exact free b o' (neC b o e hx) e1 (I.base.free b o e n hx)
 ·obtain ⟨o', e1⟩ := I.base.there b o e hx
  exact there b o' (neC b o e hx) e1
 ·obtain ⟨m1, e1⟩ := I.base.tbls b ps e
  obtain ⟨m2, e2⟩ := tbls b _ e1
  exact ⟨m1 ++ m2, by rw [e2, Array.append_assoc]⟩
 ·obtain ⟨m, hn, hl⟩ := I.loc
  refine ⟨m, ns m hn, fun i x v e1 e2 e3 => ?_⟩
  obtain ⟨u, r, l⟩ := hl i x v e1 e2 e3
  refine ⟨u, r, ?_⟩
  rcases l with l | ⟨k, c, e, z⟩
  ·exact .inl l
  ·exact .inr ⟨k, c, e, cellK x c e _ z⟩
 ·obtain ⟨v, z⟩ := I.cell x c e
  exact ⟨v, cellK x c e v z⟩
 ·obtain ⟨m, ⟨o, _, _, ho, _⟩, _⟩ := I.loc
  exact free _ o (fun z => (hch _ z).2.1 rfl) ho I.free
 ·obtain ⟨v, o, ho, hd⟩ := I.cell x c e
  exact free c o (fun z => (hch c z).2.2.1 x c e rfl) ho (I.freeC x c e)
 ·obtain ⟨e, n, ne, nf, d⟩ := I.pin p hp
  have nch : p.1 ∉ ch := fun z => (hch p.1 z).2.2.2 p hp rfl
  exact ⟨keep p.1 p.2 ne nf nch e n, free p.1 p.2 nch e n, ne, nf, d⟩
theorem Inv.un {t' : Nat} (I : Inv X pins σ H s) (u : Un X.fs [] H H' s.heap h') (hok : HOk X.prog X.w H' h') : Inv X pins σ H' { s with heap := h', toks := t' } := by
 obtain ⟨m, ⟨o, es, ep, ho, r⟩, _⟩ := id I.loc
 obtain ⟨sl, hL⟩ := u.any ho I.free (by simp)
 exact I.step (g' := s.gens) (d' := s.drawn) (ch := []) (fun _ z => nomatch z) (fun b o _ hb _ e n => u.keep b o e n hb (by simp)) (fun b o _ hb _ e n => u.slot b o e n hb (by simp)) (fun b o _ e n => u.free b o e n (by simp)) (fun b o _ e => u.there b o e (by simp)) u.tups u.frzs u.tbls (fun m' hm => by
  obtain ⟨o', es', ep', ho', r'⟩ := hm
  rw [ho] at ho'; cases ho'
  exact ⟨_, es', ep', hL, r'⟩) hok I.bare
theorem Inv.call {g' : Array GenState} {t' : Nat} {d' : Drawn} {ch : List Addr} (I : Inv X pins σ H s) (u : Un (frs X.stack) ch H H' s.heap h') (hok : HOk X.prog X.w H' h') (hg : AllBare g')
  (hch : ∀ b ∈ ch, (b ∈ X.ex \/ X.s_0.heap.objs.size <= b) /\ b ≠ X.env.locals /\ (∀ x c, X.env.cells.lookup x = some c -> c ≠ b) /\ ∀ p ∈ X.pn ++ pins, p.1 ≠ b) :
  Inv X pins σ H' { s with heap := h', gens := g', drawn := d', toks := t' } := by
 obtain ⟨m, ⟨o, es, ep, ho, r⟩, _⟩ := id I.loc
 obtain ⟨sl, hL⟩ := u.any ho I.free fun z => (hch _ z).2.1 rfl
 exact I.step (ch := ch) hch (fun b o hL hb hc e n => u.keep b o e n (fun z => (List.mem_cons.mp (I.stkSub b z)).elim hL hb) hc) (fun b o _ _ hc e n => u.any e n hc) (fun b o hc e n => u.free b o e n hc) (fun b o hc e => u.there b o e hc) u.tups u.frzs u.tbls (fun m' hm => by
  obtain ⟨o', es', ep', ho', r'⟩ := hm
  rw [ho] at ho'; cases ho'
  exact ⟨_, es', ep', hL, r'⟩) hok hg
theorem Inv.turned {t' : Nat} {it : Addr} (I : Inv X pins σ H s) (k : ∀ b o, b ≠ it -> s.heap.get? b = some o -> h'.get? b = some o) (hn : H it = none) (hL : it ≠ X.env.locals)
  (h1 : it ∈ X.ex \/ X.s_0.heap.objs.size <= it) (h2 : ∀ x c, X.env.cells.lookup x = some c -> c ≠ it) (h3 : ∀ p ∈ X.pn ++ pins, p.1 ≠ it) : Inv X pins σ H { s with heap := h', toks := t' } := by
 have nit : ∀ b u, H b = some u -> b ≠ it := fun b u e z => by rw [z, hn] at e; cases e
 refine I.step (g' := s.gens) (d' := s.drawn) (ch := [it]) (fun b hb => ?_) (fun b o _ _ hc e _ => k b o (fun z => hc (by simp [z])) e) (fun b o _ _ hc e _ => ⟨o.slots, k b o (fun z => hc (by simp [z])) e⟩) (fun _ _ _ _ n => n)
  (fun b o hc e => ⟨o, k b o (fun z => hc (by simp [z])) e⟩) (fun _ _ e => e) (fun _ _ _ e => e) (fun b ps e => ⟨#[], by rw [e]; simp⟩) (fun m hm => ?_) (fun b u e => ?_) I.bare
 ·have e : b = it := by simpa using hb
  subst e
  exact ⟨h1, hL, h2, h3⟩
 ·obtain ⟨o, es, ep, ho, r⟩ := hm
  exact ⟨o, es, ep, k _ o (Ne.symm hL) ho, r⟩
 ·refine (I.hok b u e).stay (fun c v hc q => k c v ?_ q) (fun _ q => q) fun _ _ q => q
  rcases hc with z | z
  ·rw [z]; exact nit b u e
  ·exact nit c _ z
theorem Inv.tok (I : Inv X pins σ H s) (t : Nat) : Inv X pins σ H { s with toks := t } := I.un (h' := s.heap) (t' := t) Un.refl I.hok
theorem Inv.kept {t' : Nat} (I : Inv X pins σ H s) (k : ∀ b u, s.heap.get? b = some u -> h'.get? b = some u) : Inv X pins σ H { s with heap := h', toks := t' } := I.un (Un.kept k) (I.hok.kept k)
theorem Inv.laid {a : Addr} {o : HO} {t' : Nat} (I : Inv X pins σ H s) (k : ∀ b u, s.heap.get? b = some u -> h'.get? b = some u) (hp : s.heap.objs.size <= a) (new : ObjOk X.prog X.w (upd H a o) h' a o) :
  Inv X pins σ (upd H a o) { s with heap := h', toks := t' } := I.un (Un.laid k hp (I.hok.fresh hp)) (I.hok.laid k hp new)
theorem Inv.write {x e : Addr} {o : HO} {t' : Nat} (I : Inv X pins σ H s) (mu : Mut (H x)) (he : e = x \/ H e = some (.own x)) (k : ∀ b u, b ≠ e -> s.heap.get? b = some u -> h'.get? b = some u) (heo : ∃ u, h'.get? e = some u)
  (new : ObjOk X.prog X.w (upd H x o) h' x o) : Inv X pins σ (upd H x o) { s with heap := h', toks := t' } := I.un (Un.write mu he k heo) (I.hok.write mu he k heo new)
theorem Inv.weak {σ' : List (Option V)} (I : Inv X pins σ H s) (hl : σ'.length = σ.length) (w : ∀ (i : Nat) v, σ'[i]? = some (some v) -> σ[i]? = some (some v)) : Inv X pins σ' H s :=
 ⟨I.ok, I.os, I.bare, I.base, let ⟨m, hn, hl'⟩ := I.loc; ⟨m, hn, fun i x v e1 e2 e3 => hl' i x v e1 (w i v e2) e3⟩, I.cell, I.free, I.freeC, I.pin, I.hok, hl.trans I.len⟩
theorem Inv.pins_of {pins' : List (Addr × Obj)} (I : Inv X pins σ H s) (h : ∀ p ∈ pins', s.heap.get? p.1 = some p.2 /\ H p.1 = none /\ p.1 ≠ X.env.locals /\ p.1 ∉ X.fs /\ ∀ v, p.2.data ≠ .cell v) : Inv X pins' σ H s :=
 ⟨I.ok, I.os, I.bare, I.base, I.loc, I.cell, I.free, I.freeC, fun p hp => (List.mem_append.mp hp).elim (fun z => I.pin p (List.mem_append_left _ z)) (h p), I.hok, I.len⟩
theorem nodup_ix {N : List Str} (hN : N.Nodup) {i j : Nat} {x : Str} (a : N[i]? = some x) (b : N[j]? = some x) : i = j := by
 obtain ⟨h1, e1⟩ := List.getElem?_eq_some_iff.mp a
 obtain ⟨h2, e2⟩ := List.getElem?_eq_some_iff.mp b
 exact (List.getElem_inj hN).mp (e1.trans e2.symm)
theorem store_ok2 {M : Model} {A : Around} {E : Value -> Shared -> Prop} {i : Nat} {x : Str} {v : V} {u : Value} {Q : Unit -> Shared -> Prop} (I : Inv X pins σ H s) (hN : X.N.Nodup) (hi : X.N[i]? = some x) (hx : Loc X.env.scope x) (r : RelV v u)
  (h : ∀ s', Inv X pins (σ.set i (some v)) H s' -> (∃ a, Heap.SameBut a s.heap s'.heap /\ (a = X.env.locals \/ X.env.cells.lookup x = some a)) -> Q () s') (hf : X.fn x = true \/ X.env.scope.names.lookup x = some .local := by first | exact .inl rfl | exact .inr rfl | assumption) : wpAny M A (storeName X.env x u) Q E s := by
 obtain ⟨m, hn, hl⟩ := id I.loc
 have hcls : (X.env.scope.kind == .class || (X.env.scope.kind == .module && X.env.locals != X.env.globals)) = false := by rw [I.ok.kind]; rfl
 have hiσ : i < σ.length := by rw [I.len]; exact (List.getElem?_eq_some_iff.mp hi).1
 have cne := I.cne
 have tracked : ∀ {a : Addr} {h' : Heap}, (∃ o, s.heap.get? a = some o /\ H a = none) -> Heap.SameBut a s.heap h' -> HOk X.prog X.w H h' := fun {a h'} ha hs b ob e => by
  obtain ⟨_, _, hfree⟩ := ha
  refine (I.hok b ob e).stay (fun c w' hc q => (hs.2 c ?_).trans q) (fun _ q => q) fun _ _ q => q
  rintro rfl
  rcases hc with rfl | hc
  ·rw [hfree] at e; cases e
  ·rw [hfree] at hc; cases hc
 rcases hx with hk | hk
 ·refine wpAny_storeName_local hk hn (fun h' hn' hs => ?_) hcls
  obtain ⟨oL, _, _, hoL, _⟩ := id hn
  refine h _ ⟨I.ok, I.os, I.bare, ⟨fun b o e n hb hx => ?_, fun b o e n hb hx => ?_, I.base.free, fun b o e hx => ?_, I.base.tups, I.base.frzs, I.base.tbls⟩, ⟨_, hn', fun j y v' e1 e2 e3 => ?_⟩, fun y c e => ?_, I.free, I.freeC, fun p hp => ?_, tracked ⟨oL, hoL, I.free⟩ hs, by simpa using I.len⟩ ⟨_, hs, .inl rfl⟩
  ·exact (hs.2 b (Nat.ne_of_lt (Nat.lt_of_lt_of_le (Heap.lt_size e) I.ok.above))).trans (I.base.keep b o e n hb hx)
  ·obtain ⟨sl, e1⟩ := I.base.slot b o e n hb hx
   exact ⟨sl, (hs.2 b (Nat.ne_of_lt (Nat.lt_of_lt_of_le (Heap.lt_size e) I.ok.above))).trans e1⟩
  ·obtain ⟨o', e1⟩ := I.base.there b o e hx
   exact ⟨o', (hs.2 b (Nat.ne_of_lt (Nat.lt_of_lt_of_le (Heap.lt_size e) I.ok.above))).trans e1⟩
  ·by_cases hj : j = i
   ·subst hj
    rw [hi] at e1; cases e1
    rw [List.getElem?_set_self hiσ] at e2
    cases e2
    exact ⟨u, r, .inl ⟨hk, by simp⟩⟩
   ·rw [List.getElem?_set_ne (Ne.symm hj)] at e2
    obtain ⟨u', r', q⟩ := hl j y v' e1 e2 e3
    refine ⟨u', r', ?_⟩
    rcases q with ⟨k, e⟩ | ⟨k, c, e, z⟩
    ·refine .inl ⟨k, ?_⟩
     have : y ≠ x := fun e => hj (nodup_ix hN e1 (e ▸ hi))
     simp [this, e]
    ·exact .inr ⟨k, c, e, z.sameBut hs (cne y c e)⟩
  ·obtain ⟨w', z⟩ := I.cell y c e
   exact ⟨w', z.sameBut hs (cne y c e)⟩
  ·obtain ⟨e, n, ne, nf, d⟩ := I.pin p hp
   exact ⟨(hs.2 p.1 ne).trans e, n, ne, nf, d⟩
 ·have hfn : X.fn x = true := by
   rcases hf with z | z
   ·exact z
   ·rw [z] at hk; cases hk
  obtain ⟨c, hc⟩ := I.ok.has x (.inl hk)
  obtain ⟨w', z⟩ := I.cell x c hc
  refine wpAny_storeName_cell I.ok.kind hk hc z (fun h' hc' hs => ?_)
  obtain ⟨oc, hoc, hocd⟩ := id z
  refine h { s with heap := h' } ⟨I.ok, I.os, I.bare, ⟨fun b o e n hb hx => ?_, fun b o e n hb hx => ?_, I.base.free, fun b o e hx => ?_, I.base.tups, I.base.frzs, I.base.tbls⟩, ⟨m, hn.sameBut hs (Ne.symm (cne x c hc)), fun j y v' e1 e2 e3 => ?_⟩, fun y c' e => ?_, I.free, I.freeC, fun p hp => ?_, tracked ⟨oc, hoc, I.freeC x c hc⟩ hs, by simpa using I.len⟩ ⟨c, hs, .inr hc⟩
  ·exact (hs.2 b (Nat.ne_of_lt (Nat.lt_of_lt_of_le (Heap.lt_size e) (I.ok.cab x c hfn hc)))).trans (I.base.keep b o e n hb hx)
  ·obtain ⟨sl, e1⟩ := I.base.slot b o e n hb hx
   exact ⟨sl, (hs.2 b (Nat.ne_of_lt (Nat.lt_of_lt_of_le (Heap.lt_size e) (I.ok.cab x c hfn hc)))).trans e1⟩
  ·obtain ⟨o', e1⟩ := I.base.there b o e hx
   exact ⟨o', (hs.2 b (Nat.ne_of_lt (Nat.lt_of_lt_of_le (Heap.lt_size e) (I.ok.cab x c hfn hc)))).trans e1⟩
  ·by_cases hj : j = i
   ·subst hj
    rw [hi] at e1; cases e1
    rw [List.getElem?_set_self hiσ] at e2
    cases e2
    exact ⟨u, r, .inr ⟨.inl hk, c, hc, hc'⟩⟩
   ·rw [List.getElem?_set_ne (Ne.symm hj)] at e2
    obtain ⟨u', r', q⟩ := hl j y v' e1 e2 e3
    refine ⟨u', r', ?_⟩
    rcases q with q | ⟨k, c', e, z'⟩
    ·exact .inl q
    ·refine .inr ⟨k, c', e, z'.sameBut hs ?_⟩
     rintro rfl
     exact hj (nodup_ix hN e1 (I.ok.inj _ _ _ e hc ▸ hi))
  ·by_cases hcc : c' = c
   ·subst hcc; exact ⟨_, hc'⟩
   ·obtain ⟨w2, z2⟩ := I.cell y c' e
    exact ⟨w2, z2.sameBut hs hcc⟩
  ·obtain ⟨e, n, ne, nf, d⟩ := I.pin p hp
   refine ⟨(hs.2 p.1 ?_).trans e, n, ne, nf, d⟩
   intro q
   rw [q, hoc] at e
   have q' : oc = p.2 := Option.some.inj e
   exact d w' (by rw [<- q']; exact hocd)
theorem store_ok {M : Model} {A : Around} {E : Value -> Shared -> Prop} {i : Nat} {x : Str} {v : V} {u : Value} {Q : Unit -> Shared -> Prop} (I : Inv X pins σ H s) (hN : X.N.Nodup) (hi : X.N[i]? = some x) (hx : Loc X.env.scope x) (r : RelV v u)
  (h : ∀ s', Inv X pins (σ.set i (some v)) H s' -> Q () s') (hf : X.fn x = true \/ X.env.scope.names.lookup x = some .local := by first | exact .inl rfl | exact .inr rfl | assumption) : wpAny M A (storeName X.env x u) Q E s :=
 store_ok2 I hN hi hx r (fun s' I' _ => h s' I') hf
theorem Inv.call' {s' : Shared} {ch : List Addr} (I : Inv X pins σ H s) (ho : s'.os = s.os) (u : Un (frs X.stack) ch H H' s.heap s'.heap) (hok : HOk X.prog X.w H' s'.heap) (hg : AllBare s'.gens)
  (hch : ∀ b ∈ ch, (b ∈ X.ex \/ X.s_0.heap.objs.size <= b) /\ b ≠ X.env.locals /\ (∀ x c, X.env.cells.lookup x = some c -> c ≠ b) /\ ∀ p ∈ X.pn ++ pins, p.1 ≠ b) : Inv X pins σ H' s' := by
 obtain ⟨h', g', d', t', o'⟩ := s'
 have e : o' = s.os := ho
 subst e
 exact I.call (g' := g') (t' := t') (d' := d') u hok hg hch
end
abbrev XK := Value -> Option Addr -> Hp -> Prop
abbrev St := List (Option V)
abbrev VK := V -> Hp -> Prop
abbrev TE := St -> Hp -> VK -> Prop
abbrev TT := St -> Hp -> (Bool -> Hp -> Prop) -> Prop
abbrev TA := St -> Hp -> (List V -> Hp -> Prop) -> Prop
structure Ends where
 nx : St -> Hp -> Prop
 rt : VK
 bk : St -> Hp -> Prop := fun _ _ => False
 ct : St -> Hp -> Prop := fun _ _ => False
abbrev TS := Ends -> St -> Hp -> Prop
noncomputable def EP (X : Cx) (pins : List (Addr × Obj)) (σ : St) (Q : VK) (u : Value) (s' : Shared) : Prop := ∃ v H', Inv X pins σ H' s' /\ RelV v u /\ Q v H'
noncomputable def TP (X : Cx) (pins : List (Addr × Obj)) (σ : St) (Q : Bool -> Hp -> Prop) (b : Bool) (s' : Shared) : Prop := ∃ H', Inv X pins σ H' s' /\ Q b H'
noncomputable def AP (X : Cx) (pins : List (Addr × Obj)) (σ : St) (Q : List V -> Hp -> Prop) (us : List Value) (s' : Shared) : Prop := ∃ vs H', Inv X pins σ H' s' /\ Vals vs us /\ Q vs H'
noncomputable def SP (X : Cx) (pins : List (Addr × Obj)) (D : Ends) (f : Flow) (s' : Shared) : Prop :=
 match f with
 | .next => ∃ σ' H', Inv X pins σ' H' s' /\ D.nx σ' H'
 | .brk => ∃ σ' H', Inv X pins σ' H' s' /\ D.bk σ' H'
 | .cont => ∃ σ' H', Inv X pins σ' H' s' /\ D.ct σ' H'
 | .ret u => ∃ v σ' H', Inv X pins σ' H' s' /\ RelV v u /\ D.rt v H'
noncomputable def PE (X : Cx) (e : Expr) (t : TE) : Prop :=
 ∀ (pins : List (Addr × Obj)) (s : Shared) (σ : St) (H : Hp) (Q : VK), Inv X pins σ H s -> t σ H Q -> wpAny (model X.prog X.w) X.A (eval e X.env) (EP X pins σ Q) X.xe s
noncomputable def PT (X : Cx) (e : Expr) (t : TT) : Prop :=
 ∀ (pins : List (Addr × Obj)) (s : Shared) (σ : St) (H : Hp) (Q : Bool -> Hp -> Prop), Inv X pins σ H s -> t σ H Q -> wpAny (model X.prog X.w) X.A (isTrue e X.env (eval e X.env)) (TP X pins σ Q) X.xe s
noncomputable def PW (X : Cx) (e : Expr) (t : TT) : Prop :=
 ∀ (whole : Sem Value) (pins : List (Addr × Obj)) (s : Shared) (σ : St) (H : Hp) (Q : Bool -> Hp -> Prop), Inv X pins σ H s -> t σ H Q -> wpAny (model X.prog X.w) X.A (isTrue e X.env whole) (TP X pins σ Q) X.xe s
theorem PW.pt {X : Cx} {e : Expr} {t : TT} (h : PW X e t) : PT X e t := h _
noncomputable def PA (X : Cx) (es : List Expr) (t : TA) : Prop :=
 ∀ (pos : Pos) (pins : List (Addr × Obj)) (s : Shared) (σ : St) (H : Hp) (Q : List V -> Hp -> Prop), Inv X pins σ H s -> t σ H Q -> wpAny (model X.prog X.w) X.A (spliced (backTo pos (starEach es X.env))) (AP X pins σ Q) X.xe s
noncomputable def PS (X : Cx) (st : Stmt) (t : TS) : Prop :=
 ∀ (pins : List (Addr × Obj)) (s : Shared) (σ : St) (H : Hp) (D : Ends), Inv X pins σ H s -> t D σ H -> wpAny (model X.prog X.w) X.A (exec st X.env) (SP X pins D) X.xe s
noncomputable def PSs (X : Cx) (st : List Stmt) (t : TS) : Prop :=
 ∀ (pins : List (Addr × Obj)) (s : Shared) (σ : St) (H : Hp) (D : Ends), Inv X pins σ H s -> t D σ H -> wpAny (model X.prog X.w) X.A (execs st X.env) (SP X pins D) X.xe s
theorem thn {α : Type} {t : Sem α} {Q Q' : α -> Shared -> Prop} {M : Model} {A : Around} {E : Value -> Shared -> Prop} {s : Shared} (h : wpAny M A t Q E s) (hQ : ∀ a s, Q a s -> Q' a s) : wpAny M A t Q' E s := wpAny_mono h hQ fun _ _ x => x
end L2
namespace L2
open PySem PySem.Spec PyProof.Rows
section
variable {X : Cx}
theorem bin {a b : Expr} {ta tb : TE} (ha : PE X a ta) (hb : PE X b tb) {pins : List (Addr × Obj)} {s : Shared} {σ : St} {H : Hp} {R : V -> V -> Hp -> Prop} (I : Inv X pins σ H s) (h : ta σ H fun x H1 => tb σ H1 fun y H2 => R x y H2)
  {α : Type} {Q : α -> Shared -> Prop} {f : Value -> Value -> Sem α}
  (hf : ∀ v u s2 x y H2, Inv X pins σ H2 s2 -> RelV x v -> RelV y u -> R x y H2 -> wpAny (model X.prog X.w) X.A (f v u) Q X.xe s2) :
  wpAny (model X.prog X.w) X.A (eval a X.env) (fun v s₁ => wpAny (model X.prog X.w) X.A (eval b X.env) (fun u s₂ => wpAny (model X.prog X.w) X.A (f v u) Q X.xe s₂) X.xe s₁) X.xe s := by
 refine thn (ha pins s σ H _ I h) fun v s1 ⟨x, H1, I1, r1, q1⟩ => ?_
 refine thn (hb pins s1 σ H1 _ I1 q1) fun u s2 ⟨y, H2, I2, r2, q2⟩ => ?_
 exact hf v u s2 x y H2 I2 r1 r2 q2
noncomputable def tVar (i : Nat) : TE := fun σ H Q => ∃ v, σ[i]? = some (some v) /\ Q v H
noncomputable def tC (v : V) : TE := fun _ H Q => Q v H
theorem pe_var {i : Nat} {x : Str} {pos : Pos} (hN : X.N[i]? = some x) (hv : Vis X.env.scope x) (hd : (x == ("__debug__" : Str)) = false := by decide) (hcd : (x == ("__classdict__" : Str)) = false := by decide) : PE X (.Name x pos) (tVar i) := by
 intro pins s σ H Q I h
 obtain ⟨v, e, h⟩ := h
 obtain ⟨m, hn, hl⟩ := I.loc
 obtain ⟨u, r, l⟩ := hl i x v hN e hv
 have fin : EP X pins σ Q u s := ⟨v, H, I, r, h⟩
 rcases l with ⟨hk, hm⟩ | ⟨hk, c, hc, hcell⟩
 ·exact wpAny_Name (wpAny_loadName_local I.ok.kind hk hn hm fin) hd
 ·rcases hk with hk | hk
  ·exact wpAny_Name (wpAny_loadName_cell I.ok.kind hk hc hcell fin) hd
  ·exact wpAny_Name (wpAny_loadName_free I.ok.kind hk hc hcell fin hcd) hd
theorem pe_int {i j pos} : PE X (.Constant (.int i) j pos) (tC (.int i)) := fun _ _ _ H _ I h => wpAny_Constant_int ⟨.int i, H, I.tok _, ⟨_, rfl⟩, h⟩
theorem pe_bl {b j pos} : PE X (.Constant (.bool b) j pos) (tC (.bl b)) := fun _ _ _ H _ I h => Constant_bool ⟨.bl b, H, I, rfl, h⟩
noncomputable def Gl (X : Cx) (x : Str) : Prop := X.env.kindOf x = some .globalImplicit
theorem ld_glob {E : Value -> Shared -> Prop} {pins : List (Addr × Obj)} {s : Shared} {σ : St} {H : Hp} {x : Str} {u : Value} {pos : Pos} {Q : Value -> Shared -> Prop} (I : Inv X pins σ H s) (hg : Gl X x) (hm : X.mg x = some u) (h : Q u s)
  (hd : (x == ("__debug__" : Str)) = false := by decide) : wpAny (model X.prog X.w) X.A (eval (.Name x pos) X.env) Q E s :=
 Calls.Name_function_global I.ok.kind hg (Calls.loadGlobal_global (by rw [I.ok.glob]; exact I.mod.glob.keeps I.bk) hm h) hd
theorem ld_blt {E : Value -> Shared -> Prop} {pins : List (Addr × Obj)} {s : Shared} {σ : St} {H : Hp} {x : Str} {u : Value} {pos : Pos} {Q : Value -> Shared -> Prop} (I : Inv X pins σ H s) (hg : Gl X x) (hm : X.mg x = none) (hv : bootBuiltins x = some u) (h : Q u s)
  (hn : x ≠ "__name__" := by decide) (hd : (x == ("__debug__" : Str)) = false := by decide) : wpAny (model X.prog X.w) X.A (eval (.Name x pos) X.env) Q E s := by
 obtain ⟨mb, h1, h2⟩ := I.mod.blt
 exact Calls.Name_function_global I.ok.kind hg (Calls.loadGlobal_builtin (by rw [I.ok.glob]; exact I.mod.glob.keeps I.bk) hm (by rw [I.ok.blt]; exact h1.keeps I.bk) ((h2 x hn).trans hv) h) hd
theorem pe_glob {x : Str} {v : V} {u : Value} {pos : Pos} (hg : Gl X x) (hm : X.mg x = some u) (r : RelV v u) (hd : (x == ("__debug__" : Str)) = false := by decide) : PE X (.Name x pos) (tC v) :=
 fun _ _ _ H _ I h => ld_glob I hg hm ⟨v, H, I, r, h⟩ hd
variable {a b : Expr} {ta tb : TE} {pos : Pos}
noncomputable def PC (X : Cx) (op : CmpOp) (a b : Expr) (t : TE) : Prop :=
 ∀ (pins : List (Addr × Obj)) (s : Shared) (σ : St) (H : Hp) (Q : VK), Inv X pins σ H s -> t σ H Q ->
  wpAny (model X.prog X.w) X.A (eval a X.env) (fun v s₁ => wpAny (model X.prog X.w) X.A (eval b X.env) (fun u s₂ => wpAny (model X.prog X.w) X.A (compareOp op v u) (EP X pins σ Q) X.xe s₂) X.xe s₁) X.xe s
noncomputable def tB (t : TE) : TT := fun σ H Q => t σ H fun x H1 => ∃ c, x = .bl c /\ Q c H1
theorem pt_cmp {op : CmpOp} {t : TE} (h : PC X op a b t) (h1 : behindInMarks op b = false := by first | exact nobehind _ (by decide) (by decide) | rfl) : PT X (.Compare a [op] [b] pos) (tB t) := by
 intro pins s σ H Q I hw
 refine wpAny_isTrue_Compare1 (thn (h pins s σ H _ I hw) fun v s1 h1 => thn h1 fun u s2 h2 => thn h2 fun c s3 ⟨x, H1, I1, r1, q1⟩ => ?_) h1
 obtain ⟨d, rfl, q⟩ := q1
 cases r1
 exact wpAny_truthy_bool ⟨H1, I1, q⟩
theorem pt_val {e : Expr} {t : TE} (h : PE X e t) (he : ∀ whole, isTrue e X.env whole = (do let v <- whole; standAt e.pos; holding [v] (truthy v)) := by intro _; rfl) : PT X e (tB t) := by
 intro pins s σ H Q I hw
 refine isTrue_plain (thn (h pins s σ H _ I hw) fun v s1 ⟨x, H1, I1, r1, q1⟩ => ?_) (he _)
 obtain ⟨d, rfl, q⟩ := q1
 cases r1
 exact wpAny_truthy_bool ⟨H1, I1, q⟩
variable {tA tB' : TT} {rest : List Expr}
noncomputable def tAnd (t u : TT) : TT := fun σ H Q => t σ H fun c H1 => if c = true then u σ H1 Q else Q false H1
noncomputable def tOr (t u : TT) : TT := fun σ H Q => t σ H fun c H1 => if c = true then Q true H1 else u σ H1 Q
noncomputable def tNot (t : TT) : TT := fun σ H Q => t σ H fun c H1 => Q (!c) H1
theorem pw_and1 (ha : PT X a tA) : PW X (.BoolOp .And [a] pos) tA := by
 intro wh pins s σ H Q I h
 refine isTrue_and (thn (ha pins s σ H Q I h) fun c s1 e => ?_)
 cases c with
 | true => exact isTrue_and_nil e
 | false => exact e
theorem pw_or1 (ha : PT X a tA) : PW X (.BoolOp .Or [a] pos) tA := by
 intro wh pins s σ H Q I h
 refine isTrue_or (thn (ha pins s σ H Q I h) fun c s1 e => ?_)
 cases c with
 | false => exact isTrue_or_nil e
 | true => exact e
theorem pw_and (ha : PT X a tA) (hb : PW X (.BoolOp .And (b :: rest) pos) tB') : PW X (.BoolOp .And (a :: b :: rest) pos) (tAnd tA tB') := by
 intro wh pins s σ H Q I h
 refine isTrue_and (thn (ha pins s σ H _ I h) fun c s1 ⟨H1, I1, q1⟩ => ?_)
 cases c with
 | true => exact hb wh pins s1 σ H1 Q I1 q1
 | false => exact ⟨H1, I1, q1⟩
theorem pw_or (ha : PT X a tA) (hb : PW X (.BoolOp .Or (b :: rest) pos) tB') : PW X (.BoolOp .Or (a :: b :: rest) pos) (tOr tA tB') := by
 intro wh pins s σ H Q I h
 refine isTrue_or (thn (ha pins s σ H _ I h) fun c s1 ⟨H1, I1, q1⟩ => ?_)
 cases c with
 | true => exact ⟨H1, I1, q1⟩
 | false => exact hb wh pins s1 σ H1 Q I1 q1
theorem pt_not (ha : PT X a tA) : PT X (.UnaryOp .Not a pos) (tNot tA) := by
 intro pins s σ H Q I h
 exact isTrue_not (ha pins s σ H (fun c H1 => Q (!c) H1) I h)
noncomputable def tAndV (ta tb : TE) : TE := fun σ H Q => ta σ H fun x H1 => ∃ c, x = .bl c /\ if c = true then tb σ H1 Q else Q (.bl false) H1
noncomputable def tOrV (ta tb : TE) : TE := fun σ H Q => ta σ H fun x H1 => ∃ c, x = .bl c /\ if c = true then Q (.bl true) H1 else tb σ H1 Q
noncomputable def tNotV (ta : TE) : TE := fun σ H Q => ta σ H fun x H1 => ∃ c, x = .bl c /\ Q (.bl (!c)) H1
theorem pe_one {op} {t : TE} (h : PE X a t) : PE X (.BoolOp op [a] pos) t := fun pins s σ H Q I hw => BoolOp_one (h pins s σ H Q I hw)
theorem pe_and (ha : PE X a ta) (hb : PE X (.BoolOp .And (b :: rest) pos) tb) : PE X (.BoolOp .And (a :: b :: rest) pos) (tAndV ta tb) := by
 intro pins s σ H Q I h
 refine BoolOp_and (thn (ha pins s σ H _ I h) fun v s1 ⟨x, H1, I1, r1, q1⟩ => ?_)
 obtain ⟨c, rfl, q1⟩ := q1
 cases r1
 refine wpAny_truthy_bool ?_
 cases c with
 | true => exact hb pins s1 σ H1 Q I1 q1
 | false => exact ⟨.bl false, H1, I1, rfl, q1⟩
noncomputable def tIf (t : TT) (ta tb : TE) : TE := fun σ H Q => t σ H fun c H1 => if c = true then ta σ H1 Q else tb σ H1 Q
theorem pe_ifExp {c : Expr} (hc : PT X c tA) (ha : PE X a ta) (hb : PE X b tb) : PE X (.IfExp c a b pos) (tIf tA ta tb) := by
 intro pins s σ H Q I h
 refine wpAny_IfExp (thn (hc pins s σ H _ I h) fun d s1 ⟨H1, I1, q1⟩ => ?_)
 cases d with
 | true => exact ha pins s1 σ H1 Q I1 q1
 | false => exact hb pins s1 σ H1 Q I1 q1
end
end L2
namespace L2
open PySem PySem.Spec PyProof.Rows
noncomputable def SqL (K : W.Frag) (H : Hp) (a : Addr) (xs : List V) : Prop :=
 Rd H a (.lst xs) \/
  ∃ (o : Obj) (its : Array Value) (n : Nat), K.lookup a = some o /\ o.cls = .type "list" /\ o.dict = none /\ o.data = .seq its n /\ its.size <= sizeLine /\ Vals xs its.toList
noncomputable def SqT (K : W.Frag) (H : Hp) (a : Addr) (xs : List V) : Prop :=
 Rd H a (.tup xs) \/
  ∃ (o : Obj) (its : Array Value) (n : Nat), K.lookup a = some o /\ o.cls = .type "tuple" /\ o.data = .seq its n /\ its.size <= sizeLine /\ Vals xs its.toList
noncomputable def absV : Value -> Option V
 | .none => some .non
 | .bool b => some (.bl b)
 | .int i _ => some (.int i)
 | .str x _ => some (.str x)
 | .bytes b _ => some (.byt b)
 | .float b _ => some (.flt b)
 | .ref a => some (.ref a)
 | .type n => some (.ty n)
 | _ => none
theorem RelV.abs {x : V} {u : Value} (r : RelV x u) : absV u = some x := by
 cases x with
 | non => cases r; rfl
 | bl _ => cases r; rfl
 | int _ => obtain ⟨t, rfl⟩ := r; rfl
 | str _ => obtain ⟨t, rfl⟩ := r; rfl
 | byt _ => obtain ⟨t, rfl⟩ := r; rfl
 | flt _ => obtain ⟨t, rfl⟩ := r; rfl
 | ref _ => cases r; rfl
 | ty _ => cases r; rfl
theorem RelV.inj {x y : V} {u : Value} (r : RelV x u) (q : RelV y u) : x = y := Option.some.inj (r.abs.symm.trans q.abs)
theorem Vals.inj : ∀ {xs ys : List V} {us : List Value}, Vals xs us -> Vals ys us -> xs = ys
 | _, _, _, .nil, .nil => rfl
 | _, _, _, .cons r t, .cons r' t' => by rw [r.inj r', Vals.inj t t']
section
variable {X : Cx} {pins : List (Addr × Obj)} {σ : St} {H : Hp} {s : Shared} {a : Addr} {xs ys : List V}
theorem SqL.of {K : W.Frag} (h : H a = some (.lst xs)) : SqL K H a xs := .inl (.inl h)
theorem SqT.of {K : W.Frag} (h : H a = some (.tup xs)) : SqT K H a xs := .inl (.inl h)
theorem Inv.list (I : Inv X pins σ H s) (h : SqL X.K H a xs) : ∃ its : List Value, Vals xs its /\ PlainL s.heap a its.toArray /\ xs.length <= sizeLine := by
 rcases h with h | ⟨o, its, n, hk, hc, hd, hs, hz, r⟩
 ·obtain ⟨z, its, n, r, e⟩ := h.ok I.hok
  exact ⟨its, r, ⟨_, n, e, rfl, rfl, rfl⟩, z⟩
 ·refine ⟨its.toList, r, ⟨o, n, I.kIn a o hk, hc, hd, by simpa using hs⟩, ?_⟩
  have e := r.length
  simp only [Array.length_toList] at e
  omega
theorem Inv.tuple (I : Inv X pins σ H s) (h : SqT X.K H a xs) : ∃ its : List Value, Vals xs its /\ IsTup s.heap a its.toArray /\ xs.length <= sizeLine := by
 rcases h with h | ⟨o, its, n, hk, hc, hs, hz, r⟩
 ·obtain ⟨z, its, r, p⟩ := h.ok I.hok
  exact ⟨its, r, p, z⟩
 ·refine ⟨its.toList, r, ⟨o, I.kIn a o hk, hc, n, by simpa using hs⟩, ?_⟩
  have e := r.length
  simp only [Array.length_toList] at e
  omega
theorem Inv.list_inj (I : Inv X pins σ H s) (h : SqL X.K H a xs) (h' : SqL X.K H a ys) : xs = ys := by
 obtain ⟨its, r, ⟨o, n, e, _, _, d⟩, _⟩ := I.list h
 obtain ⟨its', r', ⟨o', n', e', _, _, d'⟩, _⟩ := I.list h'
 rw [e] at e'; cases e'
 rw [d] at d'
 injection d' with d1 _
 have : its = its' := by simpa using congrArg Array.toList d1
 subst this
 exact r.inj r'
end
abbrev Cx.wish (X : Cx) (E : Value -> Shared -> Prop) : Cx := { X with xe := E }
abbrev Cx.nox (X : Cx) : Cx := X.wish fun _ _ => False
theorem Cx.Ok.wish {X : Cx} (ok : X.Ok) (E : Value -> Shared -> Prop) : (X.wish E).Ok :=
 ⟨ok.mod, ok.kind, ok.glob, ok.blt, ok.above, ok.inj, ok.has, ok.cab, ok.hd, ok.frames, ok.stk, ok.exf, ok.bs, ok.bsz, ok.noex, ok.exfs, ok.funs, ok.frf⟩
theorem Cx.Ok.unwish {X : Cx} {E : Value -> Shared -> Prop} (ok : (X.wish E).Ok) : X.Ok :=
 ⟨ok.mod, ok.kind, ok.glob, ok.blt, ok.above, ok.inj, ok.has, ok.cab, ok.hd, ok.frames, ok.stk, ok.exf, ok.bs, ok.bsz, ok.noex, ok.exfs, ok.funs, ok.frf⟩
section
variable {X : Cx} {pins : List (Addr × Obj)} {σ : St} {H : Hp} {s : Shared} {E : Value -> Shared -> Prop}
theorem Inv.wish (I : Inv X pins σ H s) (E : Value -> Shared -> Prop) : Inv (X.wish E) pins σ H s := ⟨I.ok.wish E, I.os, I.bare, I.base, I.loc, I.cell, I.free, I.freeC, I.pin, I.hok, I.len⟩
theorem Inv.unwish (I : Inv (X.wish E) pins σ H s) : Inv X pins σ H s := ⟨I.ok.unwish, I.os, I.bare, I.base, I.loc, I.cell, I.free, I.freeC, I.pin, I.hok, I.len⟩
theorem SP.unwish {D : Ends} {f : Flow} {s' : Shared} (h : SP (X.wish E) pins D f s') : SP X pins D f s' := by
 cases f with
 | next => obtain ⟨σ', H', I, q⟩ := h; exact ⟨σ', H', I.unwish, q⟩
 | brk => obtain ⟨σ', H', I, q⟩ := h; exact ⟨σ', H', I.unwish, q⟩
 | cont => obtain ⟨σ', H', I, q⟩ := h; exact ⟨σ', H', I.unwish, q⟩
 | ret u => obtain ⟨v, σ', H', I, r, q⟩ := h; exact ⟨v, σ', H', I.unwish, r, q⟩
theorem PSs.nox {st : List Stmt} {t : TS} (h : PSs X.nox st t) : PSs X st t := fun pins s σ H D I hw =>
 wpAny_mono (h pins s σ H D (I.wish _) hw) (fun _ _ q => q.unwish) fun _ _ z => False.elim z
end
section
variable {X : Cx} {st : Stmt} {rest : List Stmt} {t u : TS} {e : Expr} {te : TE} {pos : Pos}
noncomputable def tNext : TS := fun D σ H => D.nx σ H
noncomputable def tSeq (t u : TS) : TS := fun D σ H => t { D with nx := u D } σ H
theorem pss_nil : PSs X [] tNext := fun _ _ σ H _ I h => wpAny_execs_nil ⟨σ, H, I, h⟩
theorem pss_cons (h1 : PS X st t) (h2 : PSs X rest u) : PSs X (st :: rest) (tSeq t u) := by
 intro pins s σ H D I h
 refine wpAny_execs_cons (thn (h1 pins s σ H { D with nx := u D } I h) fun f s1 q => ?_)
 cases f with
 | next =>
  obtain ⟨σ', H', I', q⟩ := q
  exact h2 pins s1 σ' H' D I' q
 | ret v => exact q
 | brk => exact q
 | cont => exact q
theorem pss_one (h1 : PS X st t) : PSs X [st] t := by
 intro pins s σ H D I h
 refine wpAny_execs_cons (thn (h1 pins s σ H D I h) fun f s1 q => ?_)
 cases f with
 | next => exact wpAny_execs_nil q
 | ret v => exact q
 | brk => exact q
 | cont => exact q
theorem Inv.quiet {pins : List (Addr × Obj)} {σ : St} {H : Hp} {s : Shared} (I : Inv X pins σ H s) : interactive X.env = false := by simp [interactive, I.ok.kind]
noncomputable def tDrop (te : TE) : TS := fun D σ H => te σ H fun _ H1 => D.nx σ H1
theorem ps_expr (he : PE X e te) (hs : swapsWith e none pos.line X.env = pure false := by rfl) : PS X (.Expr e pos) (tDrop te) := by
 intro pins s σ H D I h
 exact wpAny_Expr_any (thn (he pins s σ H _ I h) fun v s1 ⟨x, H1, I1, r1, q1⟩ => ⟨σ, H1, I1, q1⟩) I.quiet hs
noncomputable def tRet (te : TE) : TS := fun D σ H => te σ H D.rt
theorem ps_ret (he : PE X e te) : PS X (.Return (some e) pos) (tRet te) := by
 intro pins s σ H D I h
 exact wpAny_Return_some (thn (he pins s σ H _ I h) fun v s1 ⟨x, H1, I1, r1, q1⟩ => ⟨x, σ, H1, I1, r1, q1⟩)
noncomputable def tRetN : TS := fun D _ H => D.rt .non H
noncomputable def tIfS (c : TT) (t u : TS) : TS := fun D σ H => c σ H fun b H1 => if b = true then t D σ H1 else u D σ H1
theorem ps_if {c : Expr} {a b : List Stmt} {tc : TT} (hc : PT X c tc) (ha : PSs X a t) (hb : PSs X b u) : PS X (.If c a b pos) (tIfS tc t u) := by
 intro pins s σ H D I h
 refine wpAny_If (thn (hc pins s σ H _ I h) fun d s1 ⟨H1, I1, q1⟩ => ?_)
 cases d with
 | true => exact ha pins s1 σ H1 D I1 q1
 | false => exact hb pins s1 σ H1 D I1 q1
noncomputable def tNever : TS := fun _ _ _ => False
theorem ps_never : PS X st tNever := fun _ _ _ _ _ _ h => h.elim
end
abbrev TG := V -> St -> Hp -> (St -> Hp -> Prop) -> Prop
noncomputable def PG (X : Cx) (target : Expr) (t : TG) : Prop :=
 ∀ (pins : List (Addr × Obj)) (s : Shared) (σ : St) (H : Hp) (v : V) (u : Value) (Q : St -> Hp -> Prop), Inv X pins σ H s -> RelV v u -> t v σ H Q ->
  wpAny (model X.prog X.w) X.A (assign target X.env u) (fun _ s' => ∃ σ' H', Inv X pins σ' H' s' /\ Q σ' H') X.xe s
abbrev TSet := V -> V -> V -> Hp -> (Hp -> Prop) -> Prop
noncomputable def PSet (X : Cx) (t : TSet) : Prop :=
 ∀ (pins : List (Addr × Obj)) (s : Shared) (σ : St) (H : Hp) (o i v : V) (ov iv u : Value) (Q : Hp -> Prop), Inv X pins σ H s -> RelV o ov -> RelV i iv -> RelV v u -> t o i v H Q ->
  wpAny (model X.prog X.w) X.A (setItem ov iv u) (fun _ s' => ∃ H', Inv X pins σ H' s' /\ Q H') X.xe s
section
variable {X : Cx} {pos : Pos}
noncomputable def gName (i : Nat) : TG := fun v σ H Q => Q (σ.set i (some v)) H
theorem pg_name {i : Nat} {x : Str} (hN : X.N.Nodup) (hi : X.N[i]? = some x) (hx : Loc X.env.scope x) (hf : X.fn x = true \/ X.env.scope.names.lookup x = some .local := by first | exact .inl rfl | exact .inr rfl | assumption) : PG X (.Name x pos) (gName i) := by
 intro pins s σ H v u Q I r h
 exact wpAny_assign_Name (store_ok I hN hi hx r (fun s' I' => ⟨_, H, I', h⟩) hf)
noncomputable def gSub (to ti : TE) (t : TSet) : TG := fun v σ H Q => to σ H fun o H1 => ti σ H1 fun i H2 => t o i v H2 fun H3 => Q σ H3
theorem pg_sub {o i : Expr} {to ti : TE} {t : TSet} (ho : PE X o to) (hi : PE X i ti) (hs : PSet X t)
  (ha : ∀ v, assign (.Subscript o i pos) X.env v = (do
   let ov <- holding [v] (eval o X.env)
   let iv <- holding [v, ov] (eval i X.env)
   standAt pos
   holding [v, ov, iv] (setItem ov iv v)
   release [v, ov, iv] []) := by intro _; rfl) : PG X (.Subscript o i pos) (gSub to ti t) := by
 intro pins s σ H v u Q I r h
 rw [ha]
 refine wpAny_bind (wpAny_holding (thn (ho pins s σ H _ I h) fun ov s1 ⟨x, H1, I1, r1, q1⟩ => ?_))
 refine wpAny_bind (wpAny_holding (thn (hi pins s1 σ H1 _ I1 q1) fun iv s2 ⟨y, H2, I2, r2, q2⟩ => ?_))
 refine wpAny_bind (wpAny_standAt (wpAny_bind (wpAny_holding (thn (hs pins s2 σ H2 x y v ov iv u _ I2 r1 r2 r q2) fun _ s3 ⟨H3, I3, q3⟩ => ?_))))
 exact wpAny_release ⟨σ, H3, I3, q3⟩
noncomputable def tAsg (te : TE) (g : TG) : TS := fun D σ H => te σ H fun x H1 => g x σ H1 D.nx
theorem ps_asg {tg e : Expr} {te : TE} {g : TG} (he : PE X e te) (hg : PG X tg g) (hs : swapsWithSole [tg] e pos.line X.env = pure false := by rfl) (hw : swappedStores [tg] e X.env = pure none := by rfl)
  (h1 : (assignEach [tg] X.env).map (·.2) = [assign tg X.env] := by rfl) : PS X (.Assign [tg] e pos) (tAsg te g) := by
 intro pins s σ H D I h
 refine wpAny_Assign_stores (thn (he pins s σ H _ I h) fun v s1 ⟨x, H1, I1, r1, q1⟩ => ?_) hs hw
 rw [h1]
 exact thn (hg pins s1 σ H1 x v _ I1 r1 q1) fun _ s2 q => q
theorem ps_set {i : Nat} {x : Str} {e : Expr} {te : TE} {pos' : Pos} (hN : X.N.Nodup) (hi : X.N[i]? = some x) (hx : Loc X.env.scope x) (he : PE X e te) (hs : swapsWith e (some (.Name x pos')) pos.line X.env = pure false := by rfl) (hf : X.fn x = true \/ X.env.scope.names.lookup x = some .local := by first | exact .inl rfl | exact .inr rfl | assumption) :
  PS X (.Assign [.Name x pos'] e pos) (tAsg te (gName i)) := by
 intro pins s σ H D I h
 refine wpAny_Assign_Name (thn (he pins s σ H _ I h) fun v s1 ⟨y, H1, I1, r1, q1⟩ => ?_) hs
 exact store_ok I1 hN hi hx r1 (fun s2 I2 => ⟨_, H1, I2, q1⟩) hf
end
section
variable {X : Cx} {pos : Pos}
noncomputable def tWhile (c : TT) (tb : TS) : TS := fun D σ H => ∃ W : Nat -> St -> Hp -> Prop, (∃ m, W m σ H) /\ ∀ m σ H, W m σ H ->
 c σ H fun b H1 => if b = true then ∃ N : St -> Hp -> Prop, (∀ σ' H', N σ' H' -> ∃ m', m' < m /\ W m' σ' H') /\ tb { D with nx := N, ct := N, bk := D.nx } σ H1 else D.nx σ H1
theorem ps_while {c : Expr} {body : List Stmt} {tc : TT} {tb : TS} (hp : PassesOwn (model X.prog X.w) X.A X.env X.xe) (hc : PT X c tc) (hb : PSs X body tb) : PS X (.While c body [] pos) (tWhile tc tb) := by
 intro pins s σ H D I h
 obtain ⟨W, ⟨m0, w0⟩, turn⟩ := h
 refine wpAny_While (codeAny_whileLoop (fun n s' => ∃ σ' H', Inv X pins σ' H' s' /\ W n σ' H') ?_ m0 ⟨σ, H, I, w0⟩)
 rintro n s1 ⟨σ1, H1, I1, w1⟩
 refine wpAny_passesOwn hp (thn (hc pins s1 σ1 H1 _ I1 (turn n σ1 H1 w1)) fun b s2 ⟨H2, I2, q2⟩ => ?_)
 cases b with
 | true =>
  obtain ⟨N, hN, q2⟩ := q2
  rw [if_pos rfl]
  refine wpAny_passesOwn hp (thn (hb pins s2 σ1 H2 _ I2 q2) fun f s3 q3 => ?_)
  cases f with
  | next =>
   obtain ⟨σ3, H3, I3, n3⟩ := q3
   obtain ⟨m', hm, w3⟩ := hN σ3 H3 n3
   exact ⟨m', hm, σ3, H3, I3, w3⟩
  | cont =>
   obtain ⟨σ3, H3, I3, n3⟩ := q3
   obtain ⟨m', hm, w3⟩ := hN σ3 H3 n3
   exact ⟨m', hm, σ3, H3, I3, w3⟩
  | brk => exact q3
  | ret v => exact q3
 | false =>
  rw [if_neg Bool.false_ne_true]
  exact wpAny_execs_nil ⟨σ1, H2, I2, q2⟩
end
structure It where
 go : Nat -> Hp -> Prop
 yld : Nat -> Hp -> V -> Hp -> Prop
 stop : Nat -> Hp -> Prop
noncomputable def FpOk (X : Cx) (pins : List (Addr × Obj)) (H : Hp) (b : Addr) : Prop :=
 H b = none /\ b ≠ X.env.locals /\ b ∉ X.fs /\ (b ∈ X.ex \/ X.s_0.heap.objs.size <= b) /\ (∀ x c, X.env.cells.lookup x = some c -> c ≠ b) /\ ∀ p ∈ X.pn ++ pins, p.1 ≠ b
theorem Inv.fpOk {X : Cx} {pins : List (Addr × Obj)} {σ : St} {H H' : Hp} {s : Shared} {b : Addr} (I : Inv X pins σ H s) (hb : s.heap.objs.size <= b) (hn : H' b = none) : FpOk X pins H' b := by
 refine ⟨hn, Nat.ne_of_gt (Nat.lt_of_lt_of_le I.lt hb), I.nofs hb, .inr (Nat.le_trans I.sz hb), fun x c e z => ?_, fun p hp z => ?_⟩
 ·obtain ⟨v, q⟩ := I.cell x c e
  exact absurd (Nat.lt_of_lt_of_le q.lt (by rw [z]; exact hb)) (Nat.lt_irrefl _)
 ·exact absurd (Nat.lt_of_lt_of_le (Heap.lt_size (I.pin p hp).1) (by rw [z]; exact hb)) (Nat.lt_irrefl _)
structure Turn (P : Program) (w : World) (K : W.Frag) (tg : Expr) (J : It) (fp : List Addr) (it : Addr) (tn : Nat -> Heap -> Prop) : Prop where
 mem : it ∈ fp
 obj : ∀ i h, tn i h -> ∀ b ∈ fp, ∃ o, h.get? b = some o /\ ∀ v, o.data ≠ .cell v
 keep : ∀ i h h', tn i h -> (∀ b ∈ fp, ∀ o, h.get? b = some o -> h'.get? b = some o) -> tn i h'
 item : ∀ (X : Cx), X.prog = P -> X.w = w -> X.K = K -> X.calm = true -> ∀ (i : Nat) (pins : List (Addr × Obj)) (s : Shared) (σ : St) (H : Hp) (E : Value -> Shared -> Prop), Inv X pins σ H s -> (∀ b ∈ fp, FpOk X pins H b) -> tn i s.heap -> J.go i H ->
  wpAny (model P w) X.A (pyNext (.ref it)) (fun r s1 => ∃ u, r = some u /\
   wpAny (model P w) X.A (letOwnedTupleGo tg (.ref it) u) (fun _ s2 => ∃ x H', Inv X pins σ H' s2 /\ RelV x u /\ J.yld i H x H' /\ tn (i + 1) s2.heap /\ ∀ b ∈ fp, H' b = none) E s1) E s
 done : ∀ (X : Cx), X.prog = P -> X.w = w -> X.K = K -> X.calm = true -> ∀ (i : Nat) (pins : List (Addr × Obj)) (s : Shared) (σ : St) (H : Hp) (E : Value -> Shared -> Prop), Inv X pins σ H s -> (∀ b ∈ fp, FpOk X pins H b) -> tn i s.heap -> J.stop i H ->
  wpAny (model P w) X.A (pyNext (.ref it)) (fun r s1 => r = none /\ Inv X pins σ H s1) E s
 self : ∀ (A : Around) (i : Nat) (s : Shared) (Q : Value -> Shared -> Prop) (E : Value -> Shared -> Prop), tn i s.heap -> Q (.ref it) s -> wpAny (model P w) A (pyIter (.ref it)) Q E s
abbrev TI := St -> Hp -> (It -> Hp -> Prop) -> Prop
noncomputable def PIE (X : Cx) (pins : List (Addr × Obj)) (σ : St) (tg : Expr) (R : It -> Hp -> Prop) (itv : Value) (s2 : Shared) : Prop :=
 ∃ (it : Addr) (fp : List Addr) (tn : Nat -> Heap -> Prop) (J : It) (H' : Hp), itv = .ref it /\ Inv X pins σ H' s2 /\ Turn X.prog X.w X.K tg J fp it tn /\ tn 0 s2.heap /\ (∀ b ∈ fp, FpOk X pins H' b) /\ R J H'
noncomputable def PI (X : Cx) (tg iter : Expr) (wi : TI) : Prop :=
 ∀ (pins : List (Addr × Obj)) (s : Shared) (σ : St) (H : Hp) (R : It -> Hp -> Prop), Inv X pins σ H s -> wi σ H R ->
  wpAny (model X.prog X.w) X.A (eval iter X.env) (fun v s1 => wpAny (model X.prog X.w) X.A (pyIter v) (PIE X pins σ tg R) X.xe s1) X.xe s
theorem go_of {M : Model} {A : Around} {E : Value -> Shared -> Prop} {s : Shared} {tg : Expr} {it : Addr} {u : Value} {o : Obj} {n : String} {vs : Array Value} {Q : Unit -> Shared -> Prop} (ho : s.heap.get? it = some o) (hc : o.cls = .type n) (hd : o.data = .fields vs)
    (hn : ["enumerate", "zip", "dict_itemiterator", "dict_reverseitemiterator", "odict_iterator", "itertools.zip_longest", "itertools.pairwise"].contains n = false) (hQ : Q () s) : wpAny M A (letOwnedTupleGo tg (.ref it) u) Q E s := by
  unfold letOwnedTupleGo
  cases tg <;> first
    | exact wpAny_pure hQ
    | (cases u <;> first
        | exact wpAny_pure hQ
        | (refine wpAny_bind (wpAny_load ho ?_)
           rw [hc, hd]
           show wpAny M A (if (["enumerate", "zip", "dict_itemiterator", "dict_reverseitemiterator", "odict_iterator", "itertools.zip_longest", "itertools.pairwise"].contains n && vs[0]? == some (rawInt _)) = true then _ else _) Q E s
           rw [if_neg (by intro h; rw [hn, Bool.false_and] at h; cases h)]
           exact wpAny_pure hQ))
noncomputable def Itl (K : W.Frag) (a : Addr) : It :=
 ⟨fun i H => ∃ xs x, SqL K H a xs /\ xs[i]? = some x, fun i H x H' => H' = H /\ ∀ xs, SqL K H a xs -> xs[i]? = some x, fun i H => ∃ xs, SqL K H a xs /\ xs.length <= i⟩
noncomputable def Itr (lo : Int) (n : Nat) : It := ⟨fun i _ => i < n, fun i H x H' => H' = H /\ x = .int (lo + i), fun i _ => n <= i⟩
theorem turn_list {P : Program} {w : World} {K : W.Frag} {tg : Expr} (a it : Addr) : Turn P w K tg (Itl K a) [it] it (fun i h => h.IsListIter it a i) where
 mem := by simp
 obj := fun i h st b hb => by
  have e : b = it := by simpa using hb
  subst e
  obtain ⟨o, e, c, d⟩ := st
  exact ⟨o, e, fun v z => by rw [d] at z; cases z⟩
 keep := fun i h h' st k => st.at fun o e => k it (by simp) o e
 item := by
  intro X hP hw hK hc i pins s σ H E I hf st hg
  subst hP hw hK
  obtain ⟨xs, x, hq, hx⟩ := hg
  obtain ⟨its, rv, p, hz⟩ := I.list hq
  obtain ⟨u, hu, ru⟩ := rv.get hx
  obtain ⟨f0, f1, f2, f3, f4, f5⟩ := hf it (by simp)
  refine wpAny_pyNext_list_item st p.isList (x := u) (by simpa using hu) fun h' st' sb => ?_
  have I1 : Inv X pins σ H { s with heap := h' } := I.turned (t' := s.toks) (fun b o hb e => (sb.2 b hb).trans e) f0 f1 f3 f4 f5
  obtain ⟨o, e, c, d⟩ := id st'
  exact ⟨u, rfl, go_of (s := { s with heap := h' }) e c d (by decide) ⟨x, H, I1, ru, ⟨rfl, fun ys hy => by rw [I.list_inj hy hq]; exact hx⟩, st', fun b hb => (hf b hb).1⟩⟩
 done := by
  intro X hP hw hK hc i pins s σ H E I hf st hg
  subst hP hw hK
  obtain ⟨xs, hq, hx⟩ := hg
  obtain ⟨its, rv, p, hz⟩ := I.list hq
  obtain ⟨f0, f1, f2, f3, f4, f5⟩ := hf it (by simp)
  have hl := rv.length
  exact wpAny_pyNext_list_end (I.ok.hd hc) st p.isList (by simp; omega) fun h' eb => ⟨rfl, I.turned (t' := s.toks) (fun b o hb e => eb b o hb e) f0 f1 f3 f4 f5⟩
 self := fun _ _ _ _ _ st h => wpAny_pyIter_listiter st h
theorem turn_range {P : Program} {w : World} {K : W.Frag} {tg : Expr} (it : Addr) (lo : Int) (n : Nat) : Turn P w K tg (Itr lo n) [it] it (fun i h => IsRangeIter h it (lo + (i : Nat) * 1) ((n : Int) - (i : Nat)) 1) where
 mem := by simp
 obj := fun i h st b hb => by
  have e : b = it := by simpa using hb
  subst e
  exact ⟨_, st, fun v z => by
   have z' : Data.fields _ = Data.cell v := z
   cases z'⟩
 keep := fun i h h' st k => k it (by simp) _ st
 item := by
  intro X hP hw hK hc i pins s σ H E I hf st hg
  subst hP hw hK
  obtain ⟨f0, f1, f2, f3, f4, f5⟩ := hf it (by simp)
  have W := Walks.range (prog := X.prog) (w := X.w) (I.ok.hd hc) it lo 1 n
  refine W.item i s _ _ hg st fun v h' tk hv st' kk => ?_
  obtain ⟨t, rfl⟩ := hv
  have I1 : Inv X pins σ H { s with heap := h', toks := tk } := I.turned (fun b o hb e => kk b o (by simpa using hb) e) f0 f1 f3 f4 f5
  refine ⟨_, rfl, go_of (s := { s with heap := h', toks := tk }) (n := "range_iterator") st' rfl rfl (by decide) ⟨.int (lo + i), H, I1, ⟨t, ?_⟩, ⟨rfl, rfl⟩, st', fun b hb => (hf b hb).1⟩⟩
  rw [Int.mul_one]
 done := by
  intro X hP hw hK hc i pins s σ H E I hf st hg
  subst hP hw hK
  obtain ⟨f0, f1, f2, f3, f4, f5⟩ := hf it (by simp)
  exact wpAny_pyNext_range_end (I.ok.hd hc) st (by have : n <= i := hg; omega) fun h' eb => ⟨rfl, I.turned (t' := s.toks) (fun b o hb e => eb b o hb e) f0 f1 f3 f4 f5⟩
 self := fun _ _ _ _ _ st h => wpAny_pyIter_rangeiter st h
end L2
namespace L2
open PySem PySem.Spec PyProof.Rows
section
variable {X : Cx} {tg : Expr}
noncomputable def iList (K : W.Frag) (tl : TE) : TI := fun σ H R => tl σ H fun x H1 => ∃ a, x = .ref a /\ (∃ xs, SqL K H1 a xs) /\ R (Itl K a) H1
theorem pi_list {l : Expr} {tl : TE} (hl : PE X l tl) : PI X tg l (iList X.K tl) := by
 intro pins s σ H R I h
 refine thn (hl pins s σ H _ I h) fun v s1 ⟨x, H1, I1, r1, q1⟩ => ?_
 obtain ⟨a, e, ⟨xs, hq⟩, q⟩ := q1
 subst e
 cases r1
 obtain ⟨its, rv, p, hz⟩ := I1.list hq
 refine wpAny_pyIter_list p.isList ?_
 refine ⟨s1.heap.objs.size, [s1.heap.objs.size], _, _, H1, rfl, I1.kept (t' := s1.toks) fun b o e => Heap.get?_push_of_some _ e, turn_list a _, ⟨_, Heap.get?_push_size _ rfl, rfl, rfl⟩, fun b hb => ?_, q⟩
 have e : b = s1.heap.objs.size := by simpa using hb
 subst e
 exact I1.fpOk (Nat.le_refl _) (I1.hok.fresh (Nat.le_refl _))
theorem range_it {pins : List (Addr × Obj)} {σ : St} {H : Hp} {s : Shared} {R : It -> Hp -> Prop} {E : Value -> Shared -> Prop} {lo hi : Int} {t u v : Tok} {tk : Nat} (I : Inv X pins σ H s) (h1 : -(2 ^ 62) <= lo) (h2 : lo < 2 ^ 62) (h3 : -(2 ^ 62) <= hi) (h4 : hi < 2 ^ 62)
  (q : R (Itr lo (hi - lo).toNat) H) : wpAny (model X.prog X.w) X.A (pyIter (.ref s.heap.objs.size)) (PIE X pins σ tg R) E { s with heap := s.heap.push { cls := .type "range", data := .fields #[.int lo t, .int hi u, .int 1 v] }, toks := tk } := by
 refine wpAny_pyIter_range (IsRange.new ..) (small_one h1 h2 h3 h4) ?_
 have I1 : Inv X pins σ H { s with heap := s.heap.push { cls := .type "range", data := .fields #[.int lo t, .int hi u, .int 1 v] }, toks := tk } := I.kept fun b o e => Heap.get?_push_of_some _ e
 refine ⟨(s.heap.push { cls := .type "range", data := .fields #[.int lo t, .int hi u, .int 1 v] }).objs.size, [(s.heap.push { cls := .type "range", data := .fields #[.int lo t, .int hi u, .int 1 v] }).objs.size], _, _, H, rfl,
  I1.kept (t' := tk) fun b o e => Heap.get?_push_of_some _ e, turn_range _ lo (hi - lo).toNat, ?_, fun b hb => ?_, q⟩
 ·have e1 : lo + ((0 : Nat) : Int) * 1 = lo := by simp
  have e2 : (((hi - lo).toNat : Nat) : Int) - ((0 : Nat) : Int) = Builtin.Range.rangeSize lo hi 1 := by rw [rangeSize_one]; split <;> omega
  show IsRangeIter _ _ (lo + ((0 : Nat) : Int) * 1) ((((hi - lo).toNat : Nat) : Int) - ((0 : Nat) : Int)) 1
  rw [e1, e2]
  exact Heap.get?_push_size _ rfl
 ·have e : b = (s.heap.push { cls := .type "range", data := .fields #[.int lo t, .int hi u, .int 1 v] }).objs.size := by simpa using hb
  subst e
  exact I1.fpOk (Nat.le_refl _) (I1.hok.fresh (Nat.le_refl _))
noncomputable def iRng1 (ta : TA) : TI := fun σ H R => ta σ H fun vs H1 => ∃ j : Int, vs = [.int j] /\ -(2 ^ 62) <= j /\ j < 2 ^ 62 /\ R (Itr 0 j.toNat) H1
theorem pi_range1 {a : Expr} {ta : TA} {p pos : Pos} (hg : Gl X "range") (hm : X.mg "range" = none) (ha : PA X [a] ta) (hs : starEach [a] X.env = [(false, eval a X.env)] := by rfl) : PI X tg (.Call (.Name "range" p) [a] [] pos) (iRng1 ta) := by
 intro pins s σ H R I h
 refine Call_ (ld_blt I hg hm boot_range (PyProof.Rows.callWith_type1 (thn (ha pos pins s σ H _ I h) fun us s1 ⟨vs, H1, I1, r1, q1⟩ => ?_) hs rfl))
 obtain ⟨j, e, q1, q2, q⟩ := q1
 subst e
 cases r1 with
 | cons r rr =>
  cases rr
  obtain ⟨t, rfl⟩ := r
  exact call_range_1 (range_it I1 (by omega) (by omega) q1 q2 (by simpa using q))
noncomputable def tFor (wi : TI) (g : TG) (tb : TS) : TS := fun D σ H => wi σ H fun J H1 => ∃ W : Nat -> Nat -> St -> Hp -> Prop, (∃ m, W 0 m σ H1) /\ ∀ i m σ H, W i m σ H ->
 (J.stop i H /\ D.nx σ H) \/ (J.go i H /\ ∃ N : St -> Hp -> Prop, (∀ σ' H', N σ' H' -> ∃ m', m' < m /\ W (i + 1) m' σ' H') /\ ∀ x H', J.yld i H x H' -> g x σ H' fun σ2 H2 => tb { D with nx := N, ct := N, bk := D.nx } σ2 H2)
noncomputable def pinsAt (fp : List Addr) (h : Heap) : List (Addr × Obj) := fp.filterMap fun b => (h.get? b).map fun o => (b, o)
theorem mem_pinsAt {fp : List Addr} {h : Heap} {b : Addr} {o : Obj} (hb : b ∈ fp) (e : h.get? b = some o) : (b, o) ∈ pinsAt fp h := List.mem_filterMap.mpr ⟨b, hb, by rw [e]; rfl⟩
theorem of_pinsAt {fp : List Addr} {h : Heap} {p : Addr × Obj} (hp : p ∈ pinsAt fp h) : p.1 ∈ fp /\ h.get? p.1 = some p.2 := by
 obtain ⟨b, hb, e⟩ := List.mem_filterMap.mp hp
 cases q : h.get? b with
 | none => rw [q] at e; cases e
 | some o =>
  rw [q] at e
  have e' : (b, o) = p := Option.some.inj e
  subst e'
  exact ⟨hb, q⟩
theorem Inv.pinned {pins : List (Addr × Obj)} {σ : St} {H : Hp} {s : Shared} {fp : List Addr} (I : Inv X pins σ H s) (hf : ∀ b ∈ fp, FpOk X pins H b) (ho : ∀ b ∈ fp, ∃ o, s.heap.get? b = some o /\ ∀ v, o.data ≠ .cell v) : Inv X (pins ++ pinsAt fp s.heap) σ H s :=
 I.pins_of fun p hp => (List.mem_append.mp hp).elim (fun z => I.pin p (List.mem_append_right _ z)) fun z => by
  obtain ⟨hb, e⟩ := of_pinsAt z
  obtain ⟨f0, f1, f2, _⟩ := hf p.1 hb
  obtain ⟨o, e', d⟩ := ho p.1 hb
  rw [e] at e'; cases e'
  exact ⟨e, f0, f1, f2, d⟩
theorem Inv.unpinned {pins pl : List (Addr × Obj)} {σ : St} {H : Hp} {s : Shared} (I : Inv X (pins ++ pl) σ H s) : Inv X pins σ H s := I.pins_of fun p hp => I.pin p (List.mem_append_right _ (List.mem_append_left _ hp))
theorem ps_for {iter : Expr} {body : List Stmt} {wi : TI} {g : TG} {tb : TS} {pos : Pos} (hp : PassesOwn (model X.prog X.w) X.A X.env X.xe) (hc : X.calm = true) (hi : PI X tg iter wi) (hg : PG X tg g) (hb : PSs X body tb)
  (hs : ∀ x, foldedSetIterable iter X.env x = pure x := by intro _; rfl) : PS X (.For tg iter body [] pos) (tFor wi g tb) := by
 intro pins s σ H D I h
 refine wpAny_For (thn (hi pins s σ H _ I h) fun v s1 h1 => thn h1 fun itv s2 h2 => ?_) hs
 obtain ⟨it, fp, tn, J, H2, e, I2, T, st2, f2, W, ⟨m0, w0⟩, turn⟩ := h2
 subst e
 have stat : ∀ {H' : Hp}, (∀ b ∈ fp, H' b = none) -> ∀ b ∈ fp, FpOk X pins H' b := fun hn b hb => ⟨hn b hb, (f2 b hb).2⟩
 refine codeAny_forLoop_any (fun n s' => ∃ i σ' H', Inv X pins σ' H' s' /\ tn i s'.heap /\ (∀ b ∈ fp, H' b = none) /\ W i n σ' H') ?_ m0 ⟨0, σ, H2, I2, st2, fun b hb => (f2 b hb).1, w0⟩
 rintro n s3 ⟨i, σ3, H3, I3, st3, fr3, w3⟩
 rcases turn i n σ3 H3 w3 with ⟨stop, qn⟩ | ⟨go, N, hN, step⟩
 ·refine wpAny_passesOwn hp (thn (T.done X rfl rfl rfl hc i pins s3 σ3 H3 X.xe I3 (stat fr3) st3 stop) fun r s4 ⟨hr, I4⟩ => ?_)
  subst hr
  exact wpAny_execs_nil ⟨σ3, H3, I4, qn⟩
 ·refine wpAny_passesOwn hp (thn (T.item X rfl rfl rfl hc i pins s3 σ3 H3 X.xe I3 (stat fr3) st3 go) fun r s4 ⟨u, hr, h4⟩ => ?_)
  subst hr
  refine wpAny_passesOwn hp (thn h4 fun _ s5 ⟨x, H5, I5, r5, y5, st5, fr5⟩ => ?_)
  have I5' := I5.pinned (stat fr5) (T.obj _ _ st5)
  refine wpAny_passesOwn hp (thn (hg _ s5 σ3 H5 x u _ I5' r5 (step x H5 y5)) fun _ s6 ⟨σ6, H6, I6, q6⟩ => ?_)
  refine wpAny_passesOwn hp (thn (hb _ s6 σ6 H6 _ I6 q6) fun f s7 q7 => ?_)
  have again : ∀ {σ7 : St} {H7 : Hp}, Inv X (pins ++ pinsAt fp s5.heap) σ7 H7 s7 -> N σ7 H7 -> ∃ m, m < n /\ ∃ i σ' H', Inv X pins σ' H' s7 /\ tn i s7.heap /\ (∀ b ∈ fp, H' b = none) /\ W i m σ' H' := fun {σ7 H7} I7 n7 => by
   obtain ⟨m', hm, w7⟩ := hN σ7 H7 n7
   refine ⟨m', hm, i + 1, σ7, H7, I7.unpinned, T.keep _ _ _ st5 fun b hb o e => (I7.pin (b, o) (List.mem_append_right _ (List.mem_append_right _ (mem_pinsAt hb e)))).1, fun b hb => ?_, w7⟩
   obtain ⟨o, e, d⟩ := T.obj _ _ st5 b hb
   exact (I7.pin (b, o) (List.mem_append_right _ (List.mem_append_right _ (mem_pinsAt hb e)))).2.1
  cases f with
  | next => obtain ⟨σ7, H7, I7, n7⟩ := q7; exact again I7 n7
  | cont => obtain ⟨σ7, H7, I7, n7⟩ := q7; exact again I7 n7
  | brk => obtain ⟨σ7, H7, I7, q7⟩ := q7; exact ⟨σ7, H7, I7.unpinned, q7⟩
  | ret v => obtain ⟨x7, σ7, H7, I7, r7, q7⟩ := q7; exact ⟨x7, σ7, H7, I7.unpinned, r7, q7⟩
end
theorem for_list {K : W.Frag} {a : Addr} {xs : List V} {g : TG} {tb : TS} {D : Ends} {σ : St} {H : Hp} (Pv : Nat -> St -> Hp -> Prop) (h0 : Pv 0 σ H) (hl : ∀ i σ H, i <= xs.length -> Pv i σ H -> SqL K H a xs)
  (hs : ∀ i x σ H, xs[i]? = some x -> Pv i σ H -> g x σ H fun σ2 H2 => tb { D with nx := Pv (i + 1), ct := Pv (i + 1), bk := D.nx } σ2 H2) (hd : ∀ σ H, Pv xs.length σ H -> D.nx σ H) :
  ∃ W : Nat -> Nat -> St -> Hp -> Prop, (∃ m, W 0 m σ H) /\ ∀ i m σ H, W i m σ H ->
   ((Itl K a).stop i H /\ D.nx σ H) \/ ((Itl K a).go i H /\ ∃ N : St -> Hp -> Prop, (∀ σ' H', N σ' H' -> ∃ m', m' < m /\ W (i + 1) m' σ' H') /\ ∀ x H', (Itl K a).yld i H x H' -> g x σ H' fun σ2 H2 => tb { D with nx := N, ct := N, bk := D.nx } σ2 H2) := by
 refine ⟨fun i m σ H => m = xs.length - i /\ i <= xs.length /\ Pv i σ H, ⟨xs.length, by simp, Nat.zero_le _, h0⟩, ?_⟩
 rintro i m σ H ⟨rfl, hi, p⟩
 have q := hl i σ H hi p
 by_cases hlt : i < xs.length
 ·refine .inr ⟨⟨xs, xs[i], q, by simp [hlt]⟩, Pv (i + 1), fun σ' H' p' => ⟨xs.length - (i + 1), by omega, rfl, hlt, p'⟩, fun x H' y => ?_⟩
  obtain ⟨e, y⟩ := y
  subst e
  exact hs i x σ _ (y xs q) p
 ·have e : i = xs.length := by omega
  subst e
  exact .inl ⟨⟨xs, q, Nat.le_refl _⟩, hd σ H p⟩
theorem for_range {lo : Int} {n : Nat} {g : TG} {tb : TS} {D : Ends} {σ : St} {H : Hp} (Pv : Nat -> St -> Hp -> Prop) (h0 : Pv 0 σ H)
  (hs : ∀ i σ H, i < n -> Pv i σ H -> g (.int (lo + i)) σ H fun σ2 H2 => tb { D with nx := Pv (i + 1), ct := Pv (i + 1), bk := D.nx } σ2 H2) (hd : ∀ σ H, Pv n σ H -> D.nx σ H) :
  ∃ W : Nat -> Nat -> St -> Hp -> Prop, (∃ m, W 0 m σ H) /\ ∀ i m σ H, W i m σ H ->
   ((Itr lo n).stop i H /\ D.nx σ H) \/ ((Itr lo n).go i H /\ ∃ N : St -> Hp -> Prop, (∀ σ' H', N σ' H' -> ∃ m', m' < m /\ W (i + 1) m' σ' H') /\ ∀ x H', (Itr lo n).yld i H x H' -> g x σ H' fun σ2 H2 => tb { D with nx := N, ct := N, bk := D.nx } σ2 H2) := by
 refine ⟨fun i m σ H => m = n - i /\ i <= n /\ Pv i σ H, ⟨n, by simp, Nat.zero_le _, h0⟩, ?_⟩
 rintro i m σ H ⟨rfl, hi, p⟩
 by_cases hlt : i < n
 ·refine .inr ⟨hlt, Pv (i + 1), fun σ' H' p' => ⟨n - (i + 1), by omega, rfl, hlt, p'⟩, fun x H' y => ?_⟩
  obtain ⟨e, y⟩ := y
  subst e y
  exact hs i σ _ hlt p
 ·have e : i = n := by omega
  subst e
  exact .inl ⟨Nat.le_refl _, hd σ H p⟩
end L2
namespace L2
open PySem PySem.Spec PyProof.Rows
abbrev R2 := V -> V -> Hp -> VK -> Prop
noncomputable def OpR (X : Cx) (f : Value -> Value -> Sem Value) (r : R2) : Prop :=
 ∀ (pins : List (Addr × Obj)) (s : Shared) (σ : St) (H : Hp) (x y : V) (v u : Value) (Q : VK), Inv X pins σ H s -> RelV x v -> RelV y u -> r x y H Q ->
  wpAny (model X.prog X.w) X.A (f v u) (EP X pins σ Q) X.xe s
noncomputable def UnR (X : Cx) (f : Value -> Sem Value) (r : V -> Hp -> VK -> Prop) : Prop :=
 ∀ (pins : List (Addr × Obj)) (s : Shared) (σ : St) (H : Hp) (x : V) (v : Value) (Q : VK), Inv X pins σ H s -> RelV x v -> r x H Q ->
  wpAny (model X.prog X.w) X.A (f v) (EP X pins σ Q) X.xe s
noncomputable def CallR (X : Cx) (f : Value) (r : List V -> Hp -> VK -> Prop) : Prop :=
 ∀ (pins : List (Addr × Obj)) (s : Shared) (σ : St) (H : Hp) (xs : List V) (us : List Value) (Q : VK), Inv X pins σ H s -> Vals xs us -> r xs H Q ->
  wpAny (model X.prog X.w) X.A (call f us) (EP X pins σ Q) X.xe s
noncomputable def tOp (r : R2) (ta tb : TE) : TE := fun σ H Q => ta σ H fun x H1 => tb σ H1 fun y H2 => r x y H2 Q
noncomputable def tUn (r : V -> Hp -> VK -> Prop) (ta : TE) : TE := fun σ H Q => ta σ H fun x H1 => r x H1 Q
noncomputable def rI (C : Int -> Int -> Prop) (g : Int -> Int -> V) : R2 := fun x y H Q => ∃ i j, x = .int i /\ y = .int j /\ C i j /\ Q (g i j) H
noncomputable def rI0 (g : Int -> Int -> V) : R2 := fun x y H Q => ∃ i j, x = .int i /\ y = .int j /\ Q (g i j) H
noncomputable def rU (g : Int -> V) : V -> Hp -> VK -> Prop := fun x H Q => ∃ i, x = .int i /\ Q (g i) H
section
variable {X : Cx} {a b c : Expr} {ta tb tc : TE} {pos : Pos}
theorem binT (ha : PE X a ta) (hb : PE X b tb) {pins : List (Addr × Obj)} {s : Shared} {σ : St} {H : Hp} {R : V -> V -> Hp -> Prop} (I : Inv X pins σ H s)
  (h : ta σ H fun x H1 => tb σ H1 fun y H2 => R x y H2) {Q : Value -> Shared -> Prop} {f : Value -> Value -> Sem Value}
  (hf : ∀ v u s2 x y H2, Inv X pins σ H2 s2 -> RelV x v -> RelV y u -> R x y H2 -> wpAny (model X.prog X.w) X.A (f v u) Q X.xe s2) :
  wpAny (model X.prog X.w) X.A (eval a X.env) (fun v s₁ => wpAny (model X.prog X.w) X.A (eval b X.env) (fun u s₂ => wpAny (model X.prog X.w) X.A (f v u) Q X.xe s₂) X.xe s₁) X.xe s := by
 refine thn (ha pins s σ H _ I h) fun v s1 ⟨x, H1, I1, r1, q1⟩ => ?_
 refine thn (hb pins s1 σ H1 _ I1 q1) fun u s2 ⟨y, H2, I2, r2, q2⟩ => ?_
 exact hf v u s2 x y H2 I2 r1 r2 q2
theorem pe_op {op : Operator} {r : R2} (ho : OpR X (binaryOp op) r) (ha : PE X a ta) (hb : PE X b tb) : PE X (.BinOp a op b pos) (tOp r ta tb) := by
 intro pins s σ H Q I h
 exact wpAny_BinOp (binT ha hb I h fun v u s2 x y H2 I2 rx ry q => ho pins s2 σ H2 x y v u Q I2 rx ry q)
theorem pe_un {op : UnaryOp} {r : V -> Hp -> VK -> Prop} (ho : UnR X (unaryOp op) r) (ha : PE X a ta) : PE X (.UnaryOp op a pos) (tUn r ta) := by
 intro pins s σ H Q I h
 exact UnaryOp_ (thn (ha pins s σ H _ I h) fun v s1 ⟨x, H1, I1, r1, q1⟩ => ho pins s1 σ H1 x v Q I1 r1 q1)
theorem opI {f : Value -> Value -> Sem Value} {C : Int -> Int -> Prop} {g : Int -> Int -> Int}
  (rule : ∀ (i j : Int) (t u : Tok) (s : Shared) (Q : Value -> Shared -> Prop) (E : Value -> Shared -> Prop), C i j -> Q (.int (g i j) s.toks) { s with toks := s.toks + 1 } -> wpAny (model X.prog X.w) X.A (f (.int i t) (.int j u)) Q E s) :
  OpR X f (rI C fun i j => .int (g i j)) := by
 intro pins s σ H x y v u Q I rx ry h
 obtain ⟨i, j, rfl, rfl, hc, q⟩ := h
 obtain ⟨t, rfl⟩ := rx
 obtain ⟨t', rfl⟩ := ry
 exact rule i j t t' s _ _ hc ⟨.int (g i j), H, I.tok _, ⟨_, rfl⟩, q⟩
theorem opI0 {f : Value -> Value -> Sem Value} {g : Int -> Int -> Int}
  (rule : ∀ (i j : Int) (t u : Tok) (s : Shared) (Q : Value -> Shared -> Prop) (E : Value -> Shared -> Prop), Q (.int (g i j) s.toks) { s with toks := s.toks + 1 } -> wpAny (model X.prog X.w) X.A (f (.int i t) (.int j u)) Q E s) :
  OpR X f (rI0 fun i j => .int (g i j)) := by
 intro pins s σ H x y v u Q I rx ry h
 obtain ⟨i, j, rfl, rfl, q⟩ := h
 obtain ⟨t, rfl⟩ := rx
 obtain ⟨t', rfl⟩ := ry
 exact rule i j t t' s _ _ ⟨.int (g i j), H, I.tok _, ⟨_, rfl⟩, q⟩
theorem opB0 {f : Value -> Value -> Sem Value} {g : Int -> Int -> Bool}
  (rule : ∀ (i j : Int) (t u : Tok) (s : Shared) (Q : Value -> Shared -> Prop) (E : Value -> Shared -> Prop), Q (.bool (g i j)) s -> wpAny (model X.prog X.w) X.A (f (.int i t) (.int j u)) Q E s) :
  OpR X f (rI0 fun i j => .bl (g i j)) := by
 intro pins s σ H x y v u Q I rx ry h
 obtain ⟨i, j, rfl, rfl, q⟩ := h
 obtain ⟨t, rfl⟩ := rx
 obtain ⟨t', rfl⟩ := ry
 exact rule i j t t' s _ _ ⟨.bl (g i j), H, I, rfl, q⟩
noncomputable def CDiv (i j : Int) : Prop := 0 < j /\ j < 1073741824
noncomputable def CMul (i j : Int) : Prop := (-(2 ^ 64) < i /\ i < 2 ^ 64) \/ (-(2 ^ 64) < j /\ j < 2 ^ 64)
theorem CMul.ok {i j : Int} (h : CMul i j) : IntMulOk i j := by
 rcases h with ⟨h1, h2⟩ | ⟨h1, h2⟩
 ·exact .of_left (intBits_le_64 h1 h2)
 ·exact .of_right (intBits_le_64 h1 h2)
theorem op_add : OpR X (binaryOp .Add) (rI0 fun i j => .int (i + j)) := opI0 fun _ _ _ _ _ _ _ q => add_int q
theorem op_sub : OpR X (binaryOp .Sub) (rI0 fun i j => .int (i - j)) := opI0 fun _ _ _ _ _ _ _ q => sub_int q
theorem op_mul : OpR X (binaryOp .Mult) (rI CMul fun i j => .int (i * j)) := opI fun _ _ _ _ _ _ _ hc q => mul_int q hc.ok
theorem op_fdiv : OpR X (binaryOp .FloorDiv) (rI CDiv fun i j => .int (i / j)) := opI fun i j _ _ _ _ _ hc q => by
 have h1 : (0 : Int) < j := hc.1
 have h2 : j < 1073741824 := hc.2
 exact floordiv_int (by omega) (by rw [Int.fdiv_eq_ediv_of_nonneg i (by omega)]; exact q) (.inl (PyProof.noPylong_small (by omega)))
theorem op_mod : OpR X (binaryOp .Mod) (rI (fun _ j => 0 < j) fun i j => .int (i % j)) := opI fun i j _ _ _ _ _ hc q => by
 have h1 : (0 : Int) < j := hc
 exact mod_int' (by omega) (by rw [Int.fmod_eq_emod_of_nonneg i (by omega)]; exact q)
theorem unI {f : Value -> Sem Value} {g : Int -> Int}
  (rule : ∀ (i : Int) (t : Tok) (s : Shared) (Q : Value -> Shared -> Prop) (E : Value -> Shared -> Prop), Q (.int (g i) s.toks) { s with toks := s.toks + 1 } -> wpAny (model X.prog X.w) X.A (f (.int i t)) Q E s) :
  UnR X f (rU fun i => .int (g i)) := by
 intro pins s σ H x v Q I rx h
 obtain ⟨i, rfl, q⟩ := h
 obtain ⟨t, rfl⟩ := rx
 exact rule i t s _ _ ⟨.int (g i), H, I.tok _, ⟨_, rfl⟩, q⟩
theorem un_neg : UnR X (unaryOp .USub) (rU fun i => .int (-i)) := unI fun _ _ _ _ _ q => neg_int q
end
noncomputable def scal : V -> V -> Bool
 | .non, .non => true | .non, .int _ => true | .int _, .non => true | .non, .bl _ => true | .bl _, .non => true | .non, .str _ => true | .str _, .non => true
 | .int _, .int _ => true | .bl _, .bl _ => true | .str _, .str _ => true | .byt _, .byt _ => true
 | .int _, .str _ => true | .str _, .int _ => true | .bl _, .str _ => true | .str _, .bl _ => true
 | _, _ => false
noncomputable def rEq : R2 := fun x y H Q => scal x y = true /\ Q (.bl (decide (x = y))) H
noncomputable def rNe : R2 := fun x y H Q => scal x y = true /\ Q (.bl (!decide (x = y))) H
theorem dec_int {i j : Int} : decide (V.int i = V.int j) = (i == j) := by
 rw [Bool.eq_iff_iff]
 simp
theorem dec_bl {i j : Bool} : decide (V.bl i = V.bl j) = (i == j) := by
 rw [Bool.eq_iff_iff]
 simp
theorem dec_str {i j : Str} : decide (V.str i = V.str j) = (i == j) := by
 rw [Bool.eq_iff_iff]
 simp
theorem dec_byt {i j : Array UInt8} : decide (V.byt i = V.byt j) = (i.toList == j.toList) := by
 rw [Bool.eq_iff_iff]
 cases i
 cases j
 simp
section
variable {X : Cx} {a b c : Expr} {ta tb tc : TE} {pos : Pos}
theorem fin_bl {pins : List (Addr × Obj)} {σ : St} {H : Hp} {s : Shared} {Q : VK} {k k' : Bool} (I : Inv X pins σ H s) (q : Q (.bl k) H) (e : k = k') : EP X pins σ Q (.bool k') s := by
 subst e
 exact ⟨.bl k, H, I, rfl, q⟩
theorem op_eq : OpR X (compareOp .Eq) rEq := by
 intro pins s σ H x y v u Q I rx ry h
 obtain ⟨hs, q⟩ := h
 cases x with
 | non =>
  cases rx
  cases y with
  | non => cases ry; exact PySem.EqNone.eq_none_none (fin_bl I q (by simp))
  | bl j => cases ry; exact PySem.EqNone.eq_none_bool (fin_bl I q (by simp))
  | int j => obtain ⟨t', rfl⟩ := ry; exact PySem.EqNone.eq_none_int (fin_bl I q (by simp))
  | str j => obtain ⟨t', rfl⟩ := ry; exact PySem.EqNone.eq_none_str (fin_bl I q (by simp))
  | _ => exact absurd (show false = true from hs) Bool.false_ne_true
 | bl i =>
  cases rx
  cases y with
  | non => cases ry; exact PySem.EqNone.eq_bool_none (fin_bl I q (by simp))
  | bl j => cases ry; exact eq_bool (fin_bl I q dec_bl)
  | str j => obtain ⟨t', rfl⟩ := ry; exact PySem.EqMixed.eq_bool_str (fin_bl I q (by simp))
  | _ => exact absurd (show false = true from hs) Bool.false_ne_true
 | int i =>
  obtain ⟨t, rfl⟩ := rx
  cases y with
  | non => cases ry; exact PySem.EqNone.eq_int_none (fin_bl I q (by simp))
  | int j => obtain ⟨t', rfl⟩ := ry; exact eq_int (fin_bl I q dec_int)
  | str j => obtain ⟨t', rfl⟩ := ry; exact PySem.EqMixed.eq_int_str (fin_bl I q (by simp))
  | _ => exact absurd (show false = true from hs) Bool.false_ne_true
 | str i =>
  obtain ⟨t, rfl⟩ := rx
  cases y with
  | non => cases ry; exact PySem.EqNone.eq_str_none (fin_bl I q (by simp))
  | bl j => cases ry; exact PySem.EqMixed.eq_str_bool (fin_bl I q (by simp))
  | int j => obtain ⟨t', rfl⟩ := ry; exact PySem.EqMixed.eq_str_int (fin_bl I q (by simp))
  | str j => obtain ⟨t', rfl⟩ := ry; exact eq_str (fin_bl I q dec_str)
  | _ => exact absurd (show false = true from hs) Bool.false_ne_true
 | byt i =>
  obtain ⟨t, rfl⟩ := rx
  cases y with
  | byt j => obtain ⟨t', rfl⟩ := ry; exact W.eq_bytes (fin_bl I q dec_byt)
  | _ => exact absurd (show false = true from hs) Bool.false_ne_true
 | _ => cases y <;> exact absurd (show false = true from hs) Bool.false_ne_true
theorem op_ne : OpR X (compareOp .NotEq) rNe := by
 intro pins s σ H x y v u Q I rx ry h
 obtain ⟨hs, q⟩ := h
 cases x with
 | non =>
  cases rx
  cases y with
  | non => cases ry; exact PySem.EqNone.ne_none_none (fin_bl I q (by simp))
  | bl j => cases ry; exact PySem.EqNone.ne_none_bool (fin_bl I q (by simp))
  | int j => obtain ⟨t', rfl⟩ := ry; exact PySem.EqNone.ne_none_int (fin_bl I q (by simp))
  | str j => obtain ⟨t', rfl⟩ := ry; exact PySem.EqNone.ne_none_str (fin_bl I q (by simp))
  | _ => exact absurd (show false = true from hs) Bool.false_ne_true
 | bl i =>
  cases rx
  cases y with
  | non => cases ry; exact PySem.EqNone.ne_bool_none (fin_bl I q (by simp))
  | bl j => cases ry; exact ne_bool (fin_bl I q (congrArg not dec_bl))
  | str j => obtain ⟨t', rfl⟩ := ry; exact PySem.EqMixed.ne_bool_str (fin_bl I q (by simp))
  | _ => exact absurd (show false = true from hs) Bool.false_ne_true
 | int i =>
  obtain ⟨t, rfl⟩ := rx
  cases y with
  | non => cases ry; exact PySem.EqNone.ne_int_none (fin_bl I q (by simp))
  | int j => obtain ⟨t', rfl⟩ := ry; exact ne_int (fin_bl I q (congrArg not dec_int))
  | str j => obtain ⟨t', rfl⟩ := ry; exact PySem.EqMixed.ne_int_str (fin_bl I q (by simp))
  | _ => exact absurd (show false = true from hs) Bool.false_ne_true
 | str i =>
  obtain ⟨t, rfl⟩ := rx
  cases y with
  | non => cases ry; exact PySem.EqNone.ne_str_none (fin_bl I q (by simp))
  | bl j => cases ry; exact PySem.EqMixed.ne_str_bool (fin_bl I q (by simp))
  | int j => obtain ⟨t', rfl⟩ := ry; exact PySem.EqMixed.ne_str_int (fin_bl I q (by simp))
  | str j => obtain ⟨t', rfl⟩ := ry; exact ne_str (fin_bl I q (congrArg not dec_str))
  | _ => exact absurd (show false = true from hs) Bool.false_ne_true
 | byt i =>
  obtain ⟨t, rfl⟩ := rx
  cases y with
  | byt j => obtain ⟨t', rfl⟩ := ry; exact W.ne_bytes (fin_bl I q (congrArg not dec_byt))
  | _ => exact absurd (show false = true from hs) Bool.false_ne_true
 | _ => cases y <;> exact absurd (show false = true from hs) Bool.false_ne_true
theorem op_lt : OpR X (compareOp .Lt) (rI0 fun i j => .bl (decide (i < j))) := opB0 fun _ _ _ _ _ _ _ q => lt_int q
theorem op_le : OpR X (compareOp .LtE) (rI0 fun i j => .bl (decide (i <= j))) := opB0 fun _ _ _ _ _ _ _ q => le_int q
theorem op_gt : OpR X (compareOp .Gt) (rI0 fun i j => .bl (decide (j < i))) := opB0 fun _ _ _ _ _ _ _ q => gt_int q
theorem op_ge : OpR X (compareOp .GtE) (rI0 fun i j => .bl (decide (j <= i))) := opB0 fun _ _ _ _ _ _ _ q => ge_int q
theorem OpR.or {f : Value -> Value -> Sem Value} {r r' : R2} (h : OpR X f r) (h' : OpR X f r') : OpR X f (fun x y H Q => r x y H Q \/ r' x y H Q) := by
 intro pins s σ H x y v u Q I rx ry q
 rcases q with q | q
 ·exact h pins s σ H x y v u Q I rx ry q
 ·exact h' pins s σ H x y v u Q I rx ry q
theorem nomark (b : Expr) {op : CmpOp} (h : op ≠ .In := by decide) (h2 : op ≠ .NotIn := by decide) : behindInMarks op b = false := by
 have e1 : (op == CmpOp.In) = false := by cases op <;> first | rfl | exact absurd rfl h
 have e2 : (op == CmpOp.NotIn) = false := by cases op <;> first | rfl | exact absurd rfl h2
 cases b <;> simp [behindInMarks, e1, e2]
theorem pe_cmpR {op : CmpOp} {r : R2} (ho : OpR X (compareOp op) r) (ha : PE X a ta) (hb : PE X b tb) (hm : behindInMarks op b = false) : PE X (.Compare a [op] [b] pos) (tOp r ta tb) := by
 intro pins s σ H Q I h
 exact wpAny_Compare1 (binT ha hb I h fun v u s2 x y H2 I2 rx ry q => ho pins s2 σ H2 x y v u Q I2 rx ry q) hm
noncomputable def tTest (t : TE) : TT := fun σ H Q => t σ H fun x H' => ∃ k, x = .bl k /\ Q k H'
theorem pt_cmpR {op : CmpOp} {r : R2} (ho : OpR X (compareOp op) r) (ha : PE X a ta) (hb : PE X b tb) (hm : behindInMarks op b = false) : PT X (.Compare a [op] [b] pos) (tTest (tOp r ta tb)) := by
 intro pins s σ H Q I h
 refine wpAny_isTrue_Compare1 (thn (ha pins s σ H _ I h) fun v s1 ⟨x, H1, I1, r1, q1⟩ => thn (hb pins s1 σ H1 _ I1 q1) fun u s2 ⟨y, H2, I2, r2, q2⟩ =>
  thn (ho pins s2 σ H2 x y v u _ I2 r1 r2 q2) fun c s3 ⟨z, H3, I3, r3, k, e, q3⟩ => ?_) hm
 subst e
 cases r3
 exact wpAny_truthy_bool ⟨H3, I3, q3⟩
noncomputable def tChain (r r' : R2) (ta tb tc : TE) : TE := fun σ H Q => ta σ H fun x H1 => tb σ H1 fun y H2 => r x y H2 fun z H3 => ∃ k, z = .bl k /\
 (if k = true then tc σ H3 fun w' H4 => r' y w' H4 Q else Q (.bl false) H3)
theorem pe_chain {op op' : CmpOp} {r r' : R2} (ho : OpR X (compareOp op) r) (ho' : OpR X (compareOp op') r') (ha : PE X a ta) (hb : PE X b tb) (hc : PE X c tc)
  (hm : lastMarks [op, op'] [b, c] = false := by with_unfolding_all rfl) : PE X (.Compare a [op, op'] [b, c] pos) (tChain r r' ta tb tc) := by
 intro pins s σ H Q I h
 refine Compare_chain (thn (ha pins s σ H _ I h) fun v s1 ⟨x, H1, I1, r1, q1⟩ => chain_link (thn (hb pins s1 σ H1 _ I1 q1) fun u s2 ⟨y, H2, I2, r2, q2⟩ =>
  thn (ho pins s2 σ H2 x y v u _ I2 r1 r2 q2) fun d s3 ⟨z, H3, I3, r3, k, e, q3⟩ => ?_)) hm
 subst e
 cases r3
 refine wpAny_truthy_bool ?_
 cases k with
 | false => exact ite_ff ⟨.bl false, H3, I3, rfl, q3⟩
 | true => exact ite_tt (chain_last (thn (hc pins s3 σ H3 _ I3 q3) fun w' s4 ⟨z', H4, I4, r4, q4⟩ => ho' pins s4 σ H4 y z' u w' Q I4 r2 r4 q4))
theorem pt_chain {op op' : CmpOp} {r r' : R2} (ho : OpR X (compareOp op) r) (ho' : OpR X (compareOp op') r') (ha : PE X a ta) (hb : PE X b tb) (hc : PE X c tc)
  (hm : lastMarks [op, op'] [b, c] = false := by with_unfolding_all rfl) : PT X (.Compare a [op, op'] [b, c] pos) (tTest (tChain r r' ta tb tc)) := by
 intro pins s σ H Q I h
 refine isTrue_chain (thn (ha pins s σ H _ I h) fun v s1 ⟨x, H1, I1, r1, q1⟩ => test_link (thn (hb pins s1 σ H1 _ I1 q1) fun u s2 ⟨y, H2, I2, r2, q2⟩ =>
  thn (ho pins s2 σ H2 x y v u _ I2 r1 r2 q2) fun d s3 ⟨z, H3, I3, r3, k, e, q3⟩ => ?_)) hm
 subst e
 cases r3
 refine wpAny_truthy_bool ?_
 cases k with
 | false =>
  obtain ⟨k', e', q'⟩ := q3
  cases e'
  exact ite_ff ⟨H3, I3, q'⟩
 | true =>
  refine ite_tt (test_last (thn (hc pins s3 σ H3 _ I3 q3) fun w' s4 ⟨z', H4, I4, r4, q4⟩ => thn (ho' pins s4 σ H4 y z' u w' _ I4 r2 r4 q4) fun d' s5 ⟨z2, H5, I5, r5, k2, e2, q5⟩ => ?_))
  subst e2
  cases r5
  exact wpAny_truthy_bool ⟨H5, I5, q5⟩
theorem line63 : (sizeLine : Nat) < 2 ^ 63 := by rw [sizeLine_eq]; decide
theorem vals1 {x : V} {us : List Value} (r : Vals [x] us) : ∃ u, us = [u] /\ RelV x u := by
 cases r with
 | cons r1 r2 => cases r2; exact ⟨_, rfl, r1⟩
end
end L2
namespace L2
open PySem PySem.Spec PyProof.Rows
structure ObjM (h : Heap) (x dx C : Addr) (mA : Str -> Option Value) : Prop where
 obj : h.get? x = some (W.instObj C dx)
 ns : h.Ns1 dx mA
 ne : dx ≠ x
theorem lookIn_ns {h : Heap} {dx : Addr} {mA : Str -> Option Value} (n : h.Ns1 dx mA) : ∃ od, h.get? dx = some od /\ ∀ name, W.lookIn name od = some (mA name) := by
 obtain ⟨o, es, ep, ho, hd, hk, _, hm⟩ := n
 refine ⟨o, ho, fun name => ?_⟩
 have e := hm name
 unfold nsFind findBy at e
 rw [<- Array.find?_toList] at e
 unfold W.lookIn
 rw [hd]
 dsimp only
 split
 ·rename_i y q
  rw [q] at e
  exact congrArg some e
 ·rename_i q
  rw [q] at e
  have a : es.toList.any (·.refKey) = false := by
   rw [List.any_eq_false]
   intro y hy
   obtain ⟨z, t, hkey⟩ := hk y (Array.mem_toList_iff.mp hy)
   simp [DictEntry.refKey, hkey]
  have a' : ¬ es.toList.any (·.refKey) = true := by rw [a]; exact Bool.false_ne_true
  rw [if_neg a']
  exact congrArg some e
theorem ObjM.look {h : Heap} {x dx C : Addr} {mA : Str -> Option Value} (I : ObjM h x dx C mA) : ∃ od, W.InstAt h x (W.instObj C dx) C (some od) /\ ∀ name, W.lookIn name od = some (mA name) :=
 let ⟨od, ho, hl⟩ := lookIn_ns I.ns
 ⟨od, ⟨I.obj, rfl, rfl, ho⟩, hl⟩
section
variable {prog : Program} {w : World} {A : Around} {E : Value -> Shared -> Prop} {s : Shared} {K : W.Frag} {x dx C f : Addr} {mA : Str -> Option Value} {name : Str} {v : Value}
theorem get_map {expr : Bool} {Q : Value -> Shared -> Prop} (X : K.In s.heap) (I : ObjM s.heap x dx C mA) (hg : W.plainGet K C name = true) (hh : W.hasDictIn K C = true)
  (ha : W.findIn K (.ref C) name = some none) (hv : mA name = some v) (hv' : W.handedIn v = true) (h : Q v { s with toks := s.toks + 1 }) :
  wpAny (model prog w) A (getAttr (.ref x) name expr) Q E s := by
 obtain ⟨od, J, hl⟩ := I.look
 exact W.get_value X J (W.plainGet_of hg).1 (W.findObj_own hh ha rfl (by rw [hl, hv])) hv' h
theorem get_meth {pl : Sem Bool} {Q : Value × List Value -> Shared -> Prop} (X : K.In s.heap) (I : ObjM s.heap x dx C mA) (hg : W.plainGet K C name = true)
  (hf : W.findIn K (.ref C) name = some (some (.ref f))) (ht : W.isFn K (.ref f) = true) (hv : mA name = none) (h : Q (.ref f, [.ref x]) s) :
  wpAny (model prog w) A (getMethod (.ref x) name pl) Q E s := by
 obtain ⟨od, J, hl⟩ := I.look
 exact W.method_fn X J (W.plainGet_of hg).1 (W.plainGet_of hg).2 hf (beq_iff_eq.mp ht) (by show (W.lookIn name od).map (·.isSome) = some false; rw [hl, hv]; rfl) h
theorem set_map {ns : List Str} {Q : Unit -> Shared -> Prop} (X : K.In s.heap) (I : ObjM s.heap x dx C mA)
  (hs : W.findIn K (.ref C) "__setattr__" = some (some (.builtin "object.__setattr__"))) (hp : W.plainOver K C = true) (ht : W.takerIn K C name = some none) (hh : W.hasDictIn K C = true)
  (hw : PySem.Within mA ns) (hsz : ns.length <= sizeLine)
  (h : ∀ h', ObjM h' x dx C (fun y => if y = name then some v else mA y) -> Heap.SameBut dx s.heap h' -> Q () { s with heap := h', toks := s.toks + 2 }) :
  wpAny (model prog w) A (setAttr (.ref x) name v) Q E s := by
 obtain ⟨od, J, hl⟩ := I.look
 refine W.set_plain X J hs (W.osa_open (s := { s with toks := s.toks + 1 }) (r := none) X J hp ht fun b => ?_)
 obtain ⟨cd, hc, hd'⟩ := W.any_some hh
 have hx : s.heap.get? x = some ⟨.ref C, some dx, .plain, #[]⟩ := I.obj
 refine wpAny_bind (wpAny_pure (wpAny_bind (wpAny_bind (wpAny_loadPart hx (wpAny_bind (W.Looks.here (s := { s with toks := s.toks + 1 }) (W.looks_clsIn X hc) ?_))))))
 rw [hd']
 refine wpAny_pure (a := some dx) (wpAny_bind (wpAny_pure (wpAny_bind ?_)))
 refine wpAny_nsSet1 (s := { s with toks := s.toks + 1 }) I.ns fun h' hn2 hs2 => ?_
 obtain ⟨oD, esD, epD, hoD, hdD, hcD⟩ := hn2.count (PySem.Within.cons name v hw)
 refine wpAny_bind (wpAny_lookBehind hoD (by rw [hdD]; exact pastItsLine_dict (Nat.le_trans hcD (by rw [List.length_cons]; omega))) ?_)
 exact wpAny_pure (h _ ⟨(hs2.2 _ (Ne.symm I.ne)).trans I.obj, hn2, I.ne⟩ hs2)
theorem make_map {R : Result -> Shared -> Prop} {vs : List Value} {kw : List (Str × Value)} (X : K.In s.heap) (hm : W.makesIn K C = true)
  (hi : W.findIn K (.ref C) "__init__" = some (some (.ref f))) (hf : W.typeIn K (.ref f) = some (.type "function"))
  (h : codeAny (model prog w) (A.under (.builtin "type.__call__" ⟨.ref C :: vs, kw⟩)) (.call (.ref f) ⟨.ref (s.heap.objs.size + 1) :: vs, kw⟩) (W.InitBack (s.heap.objs.size + 1) R)
   { s with heap := (s.heap.push W.emptyDict).push (W.instObj C s.heap.objs.size) }) :
  codeAny (model prog w) A (.call (.ref C) ⟨vs, kw⟩) R s := by
 obtain ⟨hh, g, d, t, os⟩ := s
 exact W.make_core (W.makes_of X hm) (W.looks_findIn X hi) (fun self => W.bind_fn X self hf) (.inl rfl) h
end
noncomputable def putF (f : Str) (v : V) : List (Str × V) -> List (Str × V)
 | [] => [(f, v)]
 | (g, x) :: r => if g = f then (g, v) :: r else (g, x) :: putF f v r
theorem lookup_putF (f g : Str) (v : V) : ∀ fs : List (Str × V), (putF f v fs).lookup g = if g = f then some v else fs.lookup g
 | [] => by
  show List.lookup g [(f, v)] = _
  by_cases h : g = f
  ·have hb : (g == f) = true := beq_iff_eq.mpr h
   simp only [List.lookup, hb, if_pos h]
  ·have hb : (g == f) = false := beq_eq_false_iff_ne.mpr h
   simp only [List.lookup, hb, if_neg h]
 | (k, x) :: r => by
  have ih := lookup_putF f g v r
  rw [show putF f v ((k, x) :: r) = (if k = f then (k, v) :: r else (k, x) :: putF f v r) from rfl]
  by_cases hk : k = f
  ·rw [if_pos hk]
   by_cases h : g = k
   ·have hb : (g == k) = true := beq_iff_eq.mpr h
    simp only [List.lookup, hb, if_pos (h.trans hk)]
   ·have hb : (g == k) = false := beq_eq_false_iff_ne.mpr h
    simp only [List.lookup, hb, if_neg (fun e : g = f => h (e.trans hk.symm))]
  ·rw [if_neg hk]
   by_cases h : g = k
   ·have hb : (g == k) = true := beq_iff_eq.mpr h
    simp only [List.lookup, hb, if_neg (fun e : g = f => hk (h.symm.trans e))]
   ·have hb : (g == k) = false := beq_eq_false_iff_ne.mpr h
    simp only [List.lookup, hb]
    exact ih
theorem keys_putF (f : Str) (v : V) : ∀ fs : List (Str × V), f ∈ (putF f v fs).map (·.1) /\ ∀ g, g ∈ fs.map (·.1) -> g ∈ (putF f v fs).map (·.1)
 | [] => ⟨by simp [putF], fun g h => by simp at h⟩
 | (k, x) :: r => by
  obtain ⟨i1, i2⟩ := keys_putF f v r
  rw [show putF f v ((k, x) :: r) = (if k = f then (k, v) :: r else (k, x) :: putF f v r) from rfl]
  by_cases hk : k = f
  ·rw [if_pos hk]
   subst hk
   exact ⟨by simp, fun g h => by simpa using h⟩
  ·rw [if_neg hk]
   refine ⟨?_, fun g h => ?_⟩
   ·rw [List.map_cons]
    exact List.mem_cons_of_mem _ i1
   ·rw [List.map_cons] at h ⊢
    rcases List.mem_cons.mp h with e | e
    ·exact List.mem_cons.mpr (.inl e)
    ·exact List.mem_cons_of_mem _ (i2 g e)
theorem length_putF (f : Str) (v : V) : ∀ fs : List (Str × V), (putF f v fs).length <= fs.length + 1
 | [] => by simp [putF]
 | (k, x) :: r => by
  have ih := length_putF f v r
  rw [show putF f v ((k, x) :: r) = (if k = f then (k, v) :: r else (k, x) :: putF f v r) from rfl]
  by_cases hk : k = f
  ·rw [if_pos hk, List.length_cons, List.length_cons]; omega
  ·rw [if_neg hk, List.length_cons, List.length_cons]; omega
theorem RelO.some_of {v : V} {o : Option Value} (r : RelO (some v) o) : ∃ u, o = some u /\ RelV v u := by
 cases o with
 | none => exact (show False from r).elim
 | some u => exact ⟨u, rfl, r⟩
theorem RelO.none_of {o : Option Value} (r : RelO none o) : o = none := by
 cases o with
 | none => rfl
 | some u => exact (show False from r).elim
theorem handed_of {v : V} {u : Value} (r : RelV v u) : W.handedIn u = true := by
 cases v with
 | non => cases (show u = Value.none from r); rfl
 | bl b => cases (show u = Value.bool b from r); rfl
 | int i => obtain ⟨t, e⟩ := (show ∃ t, u = Value.int i t from r); cases e; rfl
 | str x => obtain ⟨t, e⟩ := (show ∃ t, u = Value.str x t from r); cases e; rfl
 | byt b => obtain ⟨t, e⟩ := (show ∃ t, u = Value.bytes b t from r); cases e; rfl
 | flt b => obtain ⟨t, e⟩ := (show ∃ t, u = Value.float b t from r); cases e; rfl
 | ref a => cases (show u = Value.ref a from r); rfl
 | ty n => cases (show u = Value.type n from r); rfl
section
variable {P : Program} {w : World} {H H' : Hp} {h h' : Heap} {a C dx : Addr} {fs fs' : List (Str × V)}
theorem ins_get (hok : HOk P w H h) (e : H a = some (.ins C dx fs)) : ∃ mA, ObjM h a dx C mA /\ (∀ f, RelO (fs.lookup f) (mA f)) /\ PySem.Within mA (fs.map (·.1)) /\ fs.length <= 1000 /\ H dx = some (.own a) := by
 obtain ⟨d, z, ne, ob, mA, n, r, q⟩ := (show ObjOk P w H h a (.ins C dx fs) from hok a _ e)
 exact ⟨mA, ⟨ob, n, ne⟩, r, q, z, d⟩
end
structure Cls (K : W.Frag) (C : Addr) : Prop where
 pg : W.plainGet K C Str.empty = true
 hd : W.hasDictIn K C = true
 po : W.plainOver K C = true
 sa : W.findIn K (.ref C) "__setattr__" = some (some (.builtin "object.__setattr__"))
theorem Cls.get {K : W.Frag} {C : Addr} (c : Cls K C) (f : Str) : W.plainGet K C f = true := c.pg
noncomputable def NoAttr (K : W.Frag) (C : Addr) (f : Str) : Prop := W.findIn K (.ref C) f = some none
theorem NoAttr.taker {K : W.Frag} {C : Addr} {f : Str} (n : NoAttr K C f) : W.takerIn K C f = some none := by
 unfold W.takerIn
 rw [show W.findIn K (.ref C) f = some none from n]
 rfl
structure Meth (K : W.Frag) (C : Addr) (m : Str) (f : Addr) : Prop where
 at_ : W.findIn K (.ref C) m = some (some (.ref f))
 fn : W.isFn K (.ref f) = true
 kp : W.keepIn K (.ref f) = true
section
variable {X : Cx} {pins : List (Addr × Obj)} {σ : St} {H : Hp} {s : Shared} {a C dx : Addr} {fs : List (Str × V)} {f : Str} {v : V} {A : Around} {E : Value -> Shared -> Prop}
theorem getattr_ok {b : Bool} {Q : Value -> Shared -> Prop} (I : Inv X pins σ H s) (e : H a = some (.ins C dx fs)) (c : Cls X.K C) (n : NoAttr X.K C f) (l : fs.lookup f = some v)
  (h : ∀ u s', Inv X pins σ H s' -> RelV v u -> Q u s') : wpAny (model X.prog X.w) A (getAttr (.ref a) f b) Q E s := by
 obtain ⟨mA, O, r, _, _, _⟩ := ins_get I.hok e
 obtain ⟨u, hu, ru⟩ := RelO.some_of (v := v) (o := mA f) (by rw [<- l]; exact r f)
 exact get_map I.kIn O (c.get f) c.hd n hu (handed_of ru) (h u _ (I.tok _) ru)
theorem getmeth_ok {m : Str} {g : Addr} {pl : Sem Bool} {Q : Value × List Value -> Shared -> Prop} (I : Inv X pins σ H s) (e : H a = some (.ins C dx fs)) (c : Cls X.K C) (k : Meth X.K C m g) (l : fs.lookup m = none)
  (h : Q (.ref g, [.ref a]) s) : wpAny (model X.prog X.w) A (getMethod (.ref a) m pl) Q E s := by
 obtain ⟨mA, O, r, _, _, _⟩ := ins_get I.hok e
 have hn : mA m = none := RelO.none_of (by rw [<- l]; exact r m)
 exact get_meth I.kIn O (c.get m) k.at_ k.fn hn h
theorem setattr_ok {y : V} {u : Value} {Q : Unit -> Shared -> Prop} (I : Inv X pins σ H s) (e : H a = some (.ins C dx fs)) (c : Cls X.K C) (n : NoAttr X.K C f) (hl : fs.length < 1000) (ry : RelV y u)
  (h : ∀ s', Inv X pins σ (upd H a (.ins C dx (putF f y fs))) s' -> Q () s') : wpAny (model X.prog X.w) A (setAttr (.ref a) f u) Q E s := by
 obtain ⟨mA, O, r, wi, _, ho⟩ := ins_get I.hok e
 have hz : (fs.map (·.1)).length <= sizeLine := by rw [List.length_map, sizeLine_eq]; omega
 refine set_map I.kIn O c.sa c.po n.taker c.hd wi hz fun h' O' sb => h _ ?_
 have hd : ∃ o, h'.get? dx = some o := let ⟨o, _, _, e', _⟩ := O'.ns; ⟨o, e'⟩
 refine I.write (x := a) (e := dx) (by rw [e]; exact True.intro) (.inr ho) (fun b q hb z => (sb.2 b hb).trans z) hd ?_
 refine ⟨by rw [upd_ne O.ne]; exact ho, ?_, O.ne, O'.obj, _, O'.ns, fun g => ?_, fun g hg => ?_⟩
 ·have := length_putF f y fs; omega
 ·show RelO ((putF f y fs).lookup g) (if g = f then some u else mA g)
  rw [lookup_putF]
  by_cases q : g = f
  ·rw [if_pos q, if_pos q]; exact ry
  ·rw [if_neg q, if_neg q]; exact r g
 ·by_cases q : g = f
  ·rw [q]; exact (keys_putF f y fs).1
  ·refine (keys_putF f y fs).2 g (wi g fun z => hg ?_)
   show (if g = f then some u else mA g) = none
   rw [if_neg q]; exact z
theorem Inv.made (I : Inv X pins σ H s) : Inv X pins σ (upd (upd H s.heap.objs.size (.own (s.heap.objs.size + 1))) (s.heap.objs.size + 1) (.ins C s.heap.objs.size []))
  { s with heap := (s.heap.push W.emptyDict).push (W.instObj C s.heap.objs.size) } := by
 have e1 : (s.heap.push W.emptyDict).get? s.heap.objs.size = some W.emptyDict := Heap.get?_push_size s.heap rfl
 have e2 : ((s.heap.push W.emptyDict).push (W.instObj C s.heap.objs.size)).get? (s.heap.objs.size + 1) = some (W.instObj C s.heap.objs.size) := by
  have := Heap.get?_push_size (s.heap.push W.emptyDict) (o := W.instObj C s.heap.objs.size) rfl
  rwa [Heap.size_push] at this
 have e3 : (s.heap.push W.emptyDict).Ns s.heap.objs.size (fun _ => none) := ⟨W.emptyDict, #[], _, e1, rfl, (fun e he => absurd he (by simp)), fun _ => rfl⟩
 have I1 := I.laid (a := s.heap.objs.size) (o := .own (s.heap.objs.size + 1)) (h' := s.heap.push W.emptyDict) (t' := s.toks) (fun b u q => Heap.get?_push_of_some _ q) (Nat.le_refl _) ⟨_, e1⟩
 refine I1.laid (a := s.heap.objs.size + 1) (o := .ins C s.heap.objs.size []) (t' := s.toks) (fun b u q => Heap.get?_push_of_some _ q) (Nat.le_of_eq (Heap.size_push _ _)) ?_
 have ne : s.heap.objs.size ≠ s.heap.objs.size + 1 := Nat.ne_of_lt (Nat.lt_succ_self _)
 refine ⟨by rw [upd_ne ne, upd_same], Nat.zero_le _, ne, e2, fun _ => none, (Heap.Ns1.of_empty e3).at fun o q => Heap.get?_push_of_some _ q, fun _ => True.intro, fun y hy => absurd rfl hy⟩
theorem attr_of {prog : Program} {w : World} {env : Env} {e : Expr} {f : Str} {pos : Pos} {s : Shared} {Q : Value -> Shared -> Prop} (hb : attributeBase e f env (eval e env) = eval e env)
  (h : wpAny (model prog w) A (eval e env) (fun o s₁ => wpAny (model prog w) A (getAttr o f true) Q E s₁) E s) : wpAny (model prog w) A (eval (.Attribute e f pos) env) Q E s :=
 Attribute_any_ h (by rw [arm_eval_Attribute, hb])
end
noncomputable def tFld (K : W.Frag) (ta : TE) (f : Str) : TE := fun σ H Q => ta σ H fun x H1 => ∃ a C dx fs v, x = .ref a /\ H1 a = some (.ins C dx fs) /\ Cls K C /\ NoAttr K C f /\ fs.lookup f = some v /\ Q v H1
noncomputable def sFld (K : W.Frag) (ta tv : TE) (f : Str) : TS := fun D σ H => tv σ H fun y H1 => ta σ H1 fun x H2 => ∃ a C dx fs, x = .ref a /\ H2 a = some (.ins C dx fs) /\ Cls K C /\ NoAttr K C f /\ fs.length < 1000 /\
 D.nx σ (upd H2 a (.ins C dx (putF f y fs)))
section
variable {X : Cx} {o e value : Expr} {f : Str} {pos pos' tpos : Pos} {ta tv : TE}
theorem pe_fld (he : PE X e ta) (hb : attributeBase e f X.env (eval e X.env) = eval e X.env) : PE X (.Attribute e f pos) (tFld X.K ta f) := by
 intro pins s σ H Q I h
 refine attr_of hb (thn (he pins s σ H _ I h) fun u s1 ⟨x, H1, I1, rx, a, C, dx, fs, v, ex, ea, c, n, l, q⟩ => ?_)
 subst ex
 obtain rfl : u = Value.ref a := rx
 exact getattr_ok I1 ea c n l fun u' s2 I2 ru => ⟨v, H1, I2, ru, q⟩
theorem ps_fld (ha : PE X o ta) (hv : PE X value tv) (hs : swapsWith value (some (.Attribute o f pos')) pos.line X.env = pure false) : PS X (.Assign [.Attribute o f pos'] value pos) (sFld X.K ta tv f) := by
 intro pins s σ H D I h
 refine plainObj_wpAny_Assign_Attribute (thn (hv pins s σ H _ I h) fun u s1 ⟨y, H1, I1, ry, q⟩ => thn (ha pins s1 σ H1 _ I1 q) fun ov s2 ⟨x, H2, I2, rx, a, C, dx, fs, ex, ea, c, n, l, q2⟩ => ?_) hs
 subst ex
 obtain rfl : ov = Value.ref a := rx
 exact setattr_ok I2 ea c n l ry fun s3 I3 => ⟨σ, _, I3, q2⟩
theorem methcall_of {pl : Sem Bool} {m : Str} {apos : Pos} {args : List Expr} {pins : List (Addr × Obj)} {s : Shared} {σ : St} {H : Hp} {Q : Value -> Shared -> Prop} {te : TE} (he : PE X e te) (I : Inv X pins σ H s)
  (h : te σ H fun x H1 => ∃ a C dx fs g, x = .ref a /\ H1 a = some (.ins C dx fs) /\ Cls X.K C /\ Meth X.K C m g /\ fs.lookup m = none /\
   ∀ s1, Inv X pins σ H1 s1 -> wpAny (model X.prog X.w) X.A (callWith pos (.ref g) [.ref a] (backTo pos (starEach args X.env)) (backToKw pos (keywordEach [] X.env))) Q X.xe s1)
  (ht : eval (.Call (.Attribute e m apos) args [] pos) X.env = (do
   let ov <- eval e X.env
   standAt apos.atName
   let (f, first) <- holding [ov] (getMethod ov m pl)
   callWith pos f first (backTo pos (starEach args X.env)) (backToKw pos (keywordEach [] X.env)))) :
  wpAny (model X.prog X.w) X.A (eval (.Call (.Attribute e m apos) args [] pos) X.env) Q X.xe s := by
 refine W.methodCall_KW (pl := pl) (thn (he pins s σ H _ I h) fun u s1 ⟨x, H1, I1, rx, a, C, dx, fs, g, ex, ea, c, k, l, q⟩ => ?_) ht
 subst ex
 obtain rfl : u = Value.ref a := rx
 exact getmeth_ok I1 ea c k l (q s1 I1)
end
section
variable {X : Cx} {pins : List (Addr × Obj)} {σ : St} {H : Hp} {s : Shared} {A : Around} {E : Value -> Shared -> Prop} {Q : Value -> Shared -> Prop} {c : Value} {b : Bool}
end
end L2
namespace L2
open PySem PySem.Spec PyProof.Rows
structure Room (k : Nat) (A : Around) : Prop where
 hd : A.handled = none
 dp : A.depth + 3 * k + 5 < recursionLimit
 un : A.units + 16 * k + 200 < cLine
theorem Room.mono {j k : Nat} {A : Around} (r : Room k A) (h : j <= k) : Room j A := ⟨r.hd, by have := r.dp; omega, by have := r.un; omega⟩
theorem Room.deeper {k : Nat} {A : Around} (r : Room (k + 1) A) (env : Env) : Room k (A.deeper env) :=
 ⟨r.hd, by have := r.dp; show A.depth + 1 + 3 * k + 5 < _; omega, by have := r.un; show A.units + 3 + 16 * k + 200 < _; omega⟩
theorem Room.in1 {k : Nat} {A : Around} (r : Room (k + 1) A) : Room k A.in1 :=
 ⟨r.hd, by have := r.dp; show A.depth + 3 * k + 5 < _; omega, by have := r.un; show A.units + 1 + 16 * k + 200 < _; omega⟩
theorem make_depth {A : Around} {C : Addr} {us : List Value} {kw : List (Str × Value)} : (A.under (.builtin "type.__call__" ⟨.ref C :: us, kw⟩)).depth = A.depth + 1 := by
 first | rfl | simp [Around.under, Code.weight, Code.isCreation, Code.isGuard, Code.isCaller, Code.frames, Code.isFrame, guardIds]
theorem make_units {A : Around} {C : Addr} {us : List Value} {kw : List (Str × Value)} : (A.under (.builtin "type.__call__" ⟨.ref C :: us, kw⟩)).units = A.units + 1 := by
 first | rfl | simp [Around.under, Code.cUnits, Code.frames, Code.isFrame]
theorem Room.make {k : Nat} {A : Around} (r : Room (k + 1) A) (C : Addr) (us : List Value) (kw : List (Str × Value)) : Room k (A.under (.builtin "type.__call__" ⟨.ref C :: us, kw⟩)) :=
 ⟨r.hd, by have := r.dp; rw [make_depth]; omega, by have := r.un; rw [make_units]; omega⟩
theorem Room.depth {k : Nat} {A : Around} (r : Room k A) : A.depth < recursionLimit := by have := r.dp; omega
theorem Room.units {k : Nat} {A : Around} (r : Room k A) : A.units + 64 < cLine := by have := r.un; omega
noncomputable def tNil : TA := fun _ H Q => Q [] H
noncomputable def tCons (ta : TE) (tr : TA) : TA := fun σ H Q => ta σ H fun x H1 => tr σ H1 fun xs H2 => Q (x :: xs) H2
section
variable {X : Cx} {e : Expr} {es : List Expr} {te : TE} {t : TA} {pos : Pos}
theorem pa_nil : PA X [] tNil := fun _ _ _ _ H Q I h => Calls.spliced_nil ⟨[], H, I, .nil, h⟩
theorem pa_cons (ha : PE X e te) (hr : PA X es t) (hs : starEach (e :: es) X.env = (false, eval e X.env) :: starEach es X.env := by rfl) : PA X (e :: es) (tCons te t) := by
 intro pos pins s σ H Q I h
 rw [hs]
 show wpAny _ _ (spliced ((false, eval e X.env) :: backTo pos (starEach es X.env))) _ _ s
 refine Calls.spliced_cons (thn (ha pins s σ H _ I h) fun u s1 ⟨x, H1, I1, r1, q1⟩ => ?_)
 exact thn (hr pos pins s1 σ H1 _ I1 q1) fun us s2 ⟨xs, H2, I2, r2, q2⟩ => ⟨x :: xs, H2, I2, .cons r1 r2, q2⟩
noncomputable def tTup (t : TA) : TE := fun σ H Q => t σ H fun xs H1 => xs.length <= sizeLine /\ ∀ p, H1 p = none -> Q (.ref p) (upd H1 p (.tup xs))
noncomputable def tLst (t : TA) : TE := fun σ H Q => t σ H fun xs H1 => xs.length <= sizeLine /\ ∀ p, H1 p = none -> Q (.ref p) (upd H1 p (.lst xs))
theorem pe_tup {x1} (h : PA X es t) : PE X (.Tuple es x1 pos) (tTup t) := by
 intro pins s σ H Q I hq
 refine wpAny_Tuple_spliced (thn (h pos pins s σ H _ I hq) fun us s1 ⟨xs, H1, I1, r, z, q⟩ => ⟨by rw [<- r.length]; exact z, ?_⟩)
 have hf : H1 s1.heap.objs.size = none := I1.hok.fresh (Nat.le_refl _)
 refine ⟨.ref s1.heap.objs.size, upd H1 s1.heap.objs.size (.tup xs), I1.laid (t' := s1.toks) (fun b u e => Heap.get?_push_of_some _ e) (Nat.le_refl _) ?_, rfl, q _ hf⟩
 exact ⟨z, us, r, ⟨_, Heap.get?_push_size _ rfl, rfl, _, rfl⟩⟩
theorem pe_lst (h : PA X es t) : PE X (.List es pos) (tLst t) := by
 intro pins s σ H Q I hq
 refine wpAny_List_spliced (thn (h pos pins s σ H _ I hq) fun us s1 ⟨xs, H1, I1, r, z, q⟩ => ⟨by rw [<- r.length]; exact z, ?_⟩)
 have hf : H1 s1.heap.objs.size = none := I1.hok.fresh (Nat.le_refl _)
 refine ⟨.ref s1.heap.objs.size, upd H1 s1.heap.objs.size (.lst xs), I1.laid (t' := s1.toks) (fun b u e => Heap.get?_push_of_some _ e) (Nat.le_refl _) ?_, rfl, q _ hf⟩
 exact ⟨z, us, 0, r, Heap.get?_push_size _ rfl⟩
end
abbrev Sp := List V -> Hp -> VK -> XK -> Prop
abbrev CXT := List Env -> Hp -> Shared -> XK -> Value -> Shared -> Prop
structure Env0 (P : Program) (w : World) (K : W.Frag) (mg : Str -> Option Value) (base : Heap) (A : Around) (outer : List Env) (s : Shared) (H : Hp) : Prop where
 frames : A.frames = some outer
 mod : Mod K mg base
 bs : ∀ b o, base.get? b = some o -> s.heap.get? b = some o /\ H b = none
 bsz : base.objs.size <= s.heap.objs.size
 funs : s.heap.FunFrames base outer
 frf : ∀ b ∈ frs outer, H b = none
 hok : HOk P w H s.heap
 bare : AllBare s.gens
noncomputable def CE (outer : List Env) (P : Program) (w : World) (H : Hp) (s : Shared) (Q : VK) (u : Value) (s' : Shared) : Prop :=
 ∃ v H', s'.os = s.os /\ AllBare s'.gens /\ Un (frs outer) [] H H' s.heap s'.heap /\ HOk P w H' s'.heap /\ RelV v u /\ Q v H'
noncomputable def CR (CX : CXT) (outer : List Env) (P : Program) (w : World) (H : Hp) (s : Shared) (Q : VK) (E : XK) (r : Result) (s' : Shared) : Prop :=
 match r with
 | .ok (.ret u) => CE outer P w H s Q u s'
 | .ok _ => False
 | .error e => CX outer H s E e s'
structure FnOk (P : Program) (w : World) (K : W.Frag) (mg : Str -> Option Value) (base : Heap) (CX : CXT) (k : Nat) (f : Addr) (fd : FuncData) (ps : List Str) (sp : Sp) : Prop where
 len : ∀ vs H Q E, sp vs H Q E -> vs.length = ps.length
 run : ∀ (A : Around) (outer : List Env) (s : Shared) (H : Hp) (args : Args) (us : List Value) (vs : List V) (Q : VK) (E : XK), Room k A -> Env0 P w K mg base A outer s H -> BindsTo s fd args (ps.zip us) -> Vals vs us -> sp vs H Q E ->
  codeAny (model P w) A (.call (.ref f) args) (CR CX outer P w H s Q E) s
theorem FnOk.mono {P : Program} {w : World} {K : W.Frag} {mg : Str -> Option Value} {base : Heap} {CX : CXT} {j k : Nat} {f : Addr} {fd : FuncData} {ps : List Str} {sp : Sp} (F : FnOk P w K mg base CX j f fd ps sp) (h : j <= k) :
  FnOk P w K mg base CX k f fd ps sp := ⟨F.len, fun A outer s H args us vs Q E hr => F.run A outer s H args us vs Q E (hr.mono h)⟩
theorem Env0.make {P : Program} {w : World} {K : W.Frag} {mg : Str -> Option Value} {base : Heap} {A : Around} {outer : List Env} {s : Shared} {H : Hp} (e : Env0 P w K mg base A outer s H) (C : Addr) (us : List Value) (kw : List (Str × Value)) :
  Env0 P w K mg base (A.under (.builtin "type.__call__" ⟨.ref C :: us, kw⟩)) outer s H := ⟨by first | exact e.frames | (simpa [Around.under, Code.envs, Code.isFrame, pushEnvs] using e.frames), e.mod, e.bs, e.bsz, e.funs, e.frf, e.hok, e.bare⟩
theorem Env0.in1 {P : Program} {w : World} {K : W.Frag} {mg : Str -> Option Value} {base : Heap} {A : Around} {outer : List Env} {s : Shared} {H : Hp} (e : Env0 P w K mg base A outer s H) :
  Env0 P w K mg base A.in1 outer s H := ⟨e.frames, e.mod, e.bs, e.bsz, e.funs, e.frf, e.hok, e.bare⟩
section
variable {X : Cx} {pins : List (Addr × Obj)} {σ : St} {H : Hp} {s s' : Shared}
theorem Inv.env0 (I : Inv X pins σ H s) : Env0 X.prog X.w X.K X.mg X.base X.A X.stack s H :=
 ⟨I.ok.frames, I.ok.mod, I.bs, Nat.le_trans I.ok.bsz I.sz, I.stack, I.stkFree, I.hok, I.bare⟩
theorem Inv.after {Q : VK} {u : Value} (I : Inv X pins σ H s) (h : CE X.stack X.prog X.w H s Q u s') : EP X pins σ Q u s' := by
 obtain ⟨v, H', os, bare, un, hok, r, q⟩ := h
 obtain ⟨hh, g, d, t, os'⟩ := s'
 obtain rfl : os' = s.os := os
 exact ⟨v, H', I.call (h' := hh) (g' := g) (d' := d) (t' := t) (ch := []) un hok bare (fun b z => absurd z (by simp)), r, q⟩
end
noncomputable def tCall (sp : Sp) (dvs : List V) (E : XK) (t : TA) : TE := fun σ H Q => t σ H fun vs H1 => sp (vs ++ dvs) H1 Q E
noncomputable def tMeth (C : Addr) (m : Str) (sp : Sp) (dvs : List V) (E : XK) (ta : TE) (t : TA) : TE := fun σ H Q => ta σ H fun x H1 => ∃ a dx fs, x = .ref a /\ H1 a = some (.ins C dx fs) /\ fs.lookup m = none /\
 t σ H1 fun vs H2 => sp (x :: (vs ++ dvs)) H2 Q E
noncomputable def tMake (C : Addr) (sp : Sp) (dvs : List V) (E : XK) (t : TA) : TE := fun σ H Q => t σ H fun vs H1 => ∀ x dx, H1 x = none -> H1 dx = none -> dx ≠ x ->
 sp (.ref x :: (vs ++ dvs)) (upd (upd H1 dx (.own x)) x (.ins C dx [])) (fun v H2 => v = .non /\ Q (.ref x) H2) E
noncomputable def Binds (K : W.Frag) (fd : FuncData) (ps : List Str) (ds : List Value) : Prop :=
 ∀ (s : Shared) (us : List Value), K.In s.heap -> (us ++ ds).length = ps.length -> BindsTo s fd ⟨us, []⟩ (ps.zip (us ++ ds))
theorem Binds.all {K : W.Frag} {fd : FuncData} {ps : List Str} (h : ∀ us : List Value, us.length = ps.length -> bindArgs fd ⟨us, []⟩ = pure (ps.zip us)) : Binds K fd ps [] := fun s us _ hl => by
 rw [List.append_nil] at hl ⊢
 exact .of_eq (h us hl)
noncomputable def Passes (CX : CXT) (X : Cx) (E : XK) : Prop := ∀ (pins : List (Addr × Obj)) (σ : St) (H : Hp) (s : Shared) (e : Value) (s' : Shared), Inv X pins σ H s -> CX X.stack H s E e s' -> X.xe e s'
section
variable {X : Cx} {CX : CXT} {k : Nat} {f C : Addr} {fd : FuncData} {ps : List Str} {sp : Sp} {dvs : List V} {ds : List Value} {E : XK} {x m : Str} {p pos apos : Pos} {e o : Expr} {es : List Expr} {ta : TE} {t : TA}
theorem run_fn {pins : List (Addr × Obj)} {σ : St} {H : Hp} {s : Shared} {Q : VK} {us : List Value} {vs : List V} (F : FnOk X.prog X.w X.K X.mg X.base CX k f fd ps sp) (hr : Room k X.A) (hb : Binds X.K fd ps ds) (hd : Vals dvs ds) (hx : Passes CX X E)
  (I : Inv X pins σ H s) (r : Vals vs us) (h : sp (vs ++ dvs) H Q E) : wpAny (model X.prog X.w) X.A (call (.ref f) us) (EP X pins σ Q) X.xe s := by
 have r2 : Vals (vs ++ dvs) (us ++ ds) := r.append hd
 have hl : (us ++ ds).length = ps.length := by rw [<- r2.length]; exact F.len _ _ _ _ h
 refine wpAny_call (codeAny_mono (F.run X.A X.stack s H ⟨us, []⟩ (us ++ ds) (vs ++ dvs) Q E hr I.env0 (hb s us I.kIn hl) r2 h) fun r s' hq => ?_)
 cases r with
 | error e => exact hx pins σ H s e s' I hq
 | ok fl =>
  cases fl with
  | ret u => exact I.after hq
  | next => exact False.elim hq
  | brk => exact False.elim hq
  | cont => exact False.elim hq
theorem pe_call (F : FnOk X.prog X.w X.K X.mg X.base CX k f fd ps sp) (hr : Room k X.A) (hg : Gl X x) (hm : X.mg x = some (.ref f)) (hk : W.keepIn X.K (.ref f) = true) (hb : Binds X.K fd ps ds) (hd : Vals dvs ds) (hx : Passes CX X E)
  (ha : PA X (e :: es) t) (hdb : (x == ("__debug__" : Str)) = false := by decide) (he : starEach (e :: es) X.env = (false, eval e X.env) :: starEach es X.env := by rfl) (hpl : (backTo pos (starEach es X.env)).any (·.1) = false := by rfl) :
  PE X (.Call (.Name x p) (e :: es) [] pos) (tCall sp dvs E t) := by
 intro pins s σ H Q I h
 refine wpAny_Call_Name_kw (ld_glob I hg hm ?_ hdb)
 refine W.callWith_K (h₀ := X.base) I.ok.mod.kin hk (thn (ha pos pins s σ H _ I h) fun us s1 ⟨vs, H1, I1, r, q⟩ => ⟨I1.kIn, ?_⟩) he hpl
 exact run_fn F hr hb hd hx I1 r q
theorem pe_meth {pl : Sem Bool} (he : PE X o ta) (c : Cls X.K C) (hm : Meth X.K C m f) (F : FnOk X.prog X.w X.K X.mg X.base CX k f fd ps sp) (hr : Room k X.A) (hb : Binds X.K fd ps ds) (hd : Vals dvs ds) (hx : Passes CX X E) (ha : PA X (e :: es) t)
  (hst : starEach (e :: es) X.env = (false, eval e X.env) :: starEach es X.env := by rfl) (hpl : (backTo pos (starEach es X.env)).any (·.1) = false := by rfl)
  (ht : eval (.Call (.Attribute o m apos) (e :: es) [] pos) X.env = (do
   let ov <- eval o X.env
   standAt apos.atName
   let (f, first) <- holding [ov] (getMethod ov m pl)
   callWith pos f first (backTo pos (starEach (e :: es) X.env)) (backToKw pos (keywordEach [] X.env))) := by rfl) :
  PE X (.Call (.Attribute o m apos) (e :: es) [] pos) (tMeth C m sp dvs E ta t) := by
 intro pins s σ H Q I h
 refine W.methodCall_KW (pl := pl) (thn (he pins s σ H _ I h) fun u s1 ⟨x, H1, I1, rx, a, dx, fs, ex, ea, l, q⟩ => ?_) ht
 subst ex
 obtain rfl : u = Value.ref a := rx
 refine getmeth_ok I1 ea c hm l ?_
 refine W.callWith_K (first := [.ref a]) (h₀ := X.base) I.ok.mod.kin hm.kp (thn (ha pos pins s1 σ H1 _ I1 q) fun us s2 ⟨vs, H2, I2, r, q2⟩ => ⟨I2.kIn, ?_⟩) hst hpl
 exact run_fn (us := .ref a :: us) (vs := .ref a :: vs) F hr hb hd hx I2 (.cons rfl r) q2
theorem pe_meth0 {pl : Sem Bool} (he : PE X o ta) (c : Cls X.K C) (hm : Meth X.K C m f) (F : FnOk X.prog X.w X.K X.mg X.base CX k f fd ps sp) (hr : Room k X.A) (hb : Binds X.K fd ps ds) (hd : Vals dvs ds) (hx : Passes CX X E)
  (ht : eval (.Call (.Attribute o m apos) [] [] pos) X.env = (do
   let ov <- eval o X.env
   standAt apos.atName
   let (f, first) <- holding [ov] (getMethod ov m pl)
   callWith pos f first (backTo pos (starEach [] X.env)) (backToKw pos (keywordEach [] X.env))) := by rfl) :
  PE X (.Call (.Attribute o m apos) [] [] pos) (tMeth C m sp dvs E ta tNil) := by
 intro pins s σ H Q I h
 refine W.methodCall_KW (pl := pl) (thn (he pins s σ H _ I h) fun u s1 ⟨x, H1, I1, rx, a, dx, fs, ex, ea, l, q⟩ => ?_) ht
 subst ex
 obtain rfl : u = Value.ref a := rx
 refine getmeth_ok I1 ea c hm l ?_
 exact W.callWith_K0 (first := [.ref a]) I1.kIn hm.kp (run_fn (us := [.ref a]) (vs := [.ref a]) F hr hb hd hx I1 (.cons rfl .nil) q)
structure Mk (K : W.Frag) (C f : Addr) : Prop where
 makes : W.makesIn K C = true
 init : W.findIn K (.ref C) "__init__" = some (some (.ref f))
 fn : W.isFn K (.ref f) = true
 kp : W.keepIn K (.ref C) = true
theorem run_make {pins : List (Addr × Obj)} {σ : St} {H : Hp} {s : Shared} {Q : VK} {us : List Value} {vs : List V} (M : Mk X.K C f) (F : FnOk X.prog X.w X.K X.mg X.base CX k f fd ps sp) (hr : Room (k + 1) X.A) (hb : Binds X.K fd ps ds) (hd : Vals dvs ds)
  (hx : Passes CX X E) (I : Inv X pins σ H s) (r : Vals vs us)
  (h : ∀ x dx, H x = none -> H dx = none -> dx ≠ x -> sp (.ref x :: (vs ++ dvs)) (upd (upd H dx (.own x)) x (.ins C dx [])) (fun v H2 => v = .non /\ Q (.ref x) H2) E) :
  wpAny (model X.prog X.w) X.A (call (.ref C) us) (EP X pins σ Q) X.xe s := by
 have hq := h (s.heap.objs.size + 1) s.heap.objs.size (I.hok.fresh (Nat.le_succ _)) (I.hok.fresh (Nat.le_refl _)) (Nat.ne_of_lt (Nat.lt_succ_self _))
 have I2 := Inv.made (C := C) I
 have r2 : Vals (V.ref (s.heap.objs.size + 1) :: (vs ++ dvs)) (Value.ref (s.heap.objs.size + 1) :: (us ++ ds)) := .cons rfl (r.append hd)
 have hl : (Value.ref (s.heap.objs.size + 1) :: us ++ ds).length = ps.length := by
  have e := r2.length
  rw [F.len _ _ _ _ hq] at e
  exact e.symm
 refine wpAny_call (make_map (f := f) I.kIn M.makes M.init (beq_iff_eq.mp M.fn) (codeAny_mono (F.run _ X.stack _ _ ⟨Value.ref (s.heap.objs.size + 1) :: us, []⟩ (Value.ref (s.heap.objs.size + 1) :: (us ++ ds)) _ _ E (hr.make C us [])
  (I2.env0.make C us []) (hb _ (Value.ref (s.heap.objs.size + 1) :: us) I2.kIn hl) r2 hq) fun r s' hq' => ?_))
 cases r with
 | error e => exact hx pins σ _ _ e s' I2 hq'
 | ok fl =>
  cases fl with
  | ret u =>
   obtain ⟨v, H', I3, rv, ev, q3⟩ := I2.after hq'
   subst ev
   exact ⟨rv, ⟨V.ref (s.heap.objs.size + 1), H', I3, rfl, q3⟩⟩
  | next => exact False.elim hq'
  | brk => exact False.elim hq'
  | cont => exact False.elim hq'
theorem pe_make (M : Mk X.K C f) (F : FnOk X.prog X.w X.K X.mg X.base CX k f fd ps sp) (hr : Room (k + 1) X.A) (hg : Gl X x) (hm : X.mg x = some (.ref C)) (hb : Binds X.K fd ps ds) (hd : Vals dvs ds) (hx : Passes CX X E)
  (ha : PA X (e :: es) t) (hdb : (x == ("__debug__" : Str)) = false := by decide) (he : starEach (e :: es) X.env = (false, eval e X.env) :: starEach es X.env := by rfl) (hpl : (backTo pos (starEach es X.env)).any (·.1) = false := by rfl) :
  PE X (.Call (.Name x p) (e :: es) [] pos) (tMake C sp dvs E t) := by
 intro pins s σ H Q I h
 refine wpAny_Call_Name_kw (ld_glob I hg hm ?_ hdb)
 refine W.callWith_K (h₀ := X.base) I.ok.mod.kin M.kp (thn (ha pos pins s σ H _ I h) fun us s1 ⟨vs, H1, I1, r, q⟩ => ⟨I1.kIn, ?_⟩) he hpl
 exact run_make M F hr hb hd hx I1 r q
theorem pe_make0 (M : Mk X.K C f) (F : FnOk X.prog X.w X.K X.mg X.base CX k f fd ps sp) (hr : Room (k + 1) X.A) (hg : Gl X x) (hm : X.mg x = some (.ref C)) (hb : Binds X.K fd ps ds) (hd : Vals dvs ds) (hx : Passes CX X E)
  (hdb : (x == ("__debug__" : Str)) = false := by decide) : PE X (.Call (.Name x p) [] [] pos) (tMake C sp dvs E tNil) := by
 intro pins s σ H Q I h
 refine wpAny_Call_Name_kw (ld_glob I hg hm ?_ hdb)
 exact W.callWith_K0 I.kIn M.kp (run_make (us := []) M F hr hb hd hx I .nil h)
end
section
variable {X : Cx} {CX : CXT} {k : Nat} {f C : Addr} {fd : FuncData} {ps ks : List Str} {sp : Sp} {E : XK} {x m : Str} {p pos apos kpos : Pos} {e o : Expr} {es : List Expr} {kws : List Keyword} {te ta : TE} {t tk : TA} {nm : Option Str}
variable {g : List Value -> List Value -> List Value} {gV : List V -> List V -> List V}
end
structure FnScope (N P : List Str) (sc : Scope) : Prop where
 kind : sc.kind = .function
 co : sc.isCoroutine = false
 gen : sc.isGenerator = false
 nd : N.Nodup
 pre : N.take P.length = P
 par : ∀ x ∈ P, sc.names.lookup x = some .local \/ sc.names.lookup x = some .cell
 nofree : ∀ y ∈ sc.names, y.2 ≠ .free
theorem bindL_out {kindOf : Str -> Option NameKind} {x : Str} : ∀ {binds : List (Str × Value)} {m : Str -> Option Value}, (∀ v, (x, v) ∉ binds) -> bindL kindOf binds m x = m x
 | [], _, _ => rfl
 | (n, v) :: r, m, h => by
  unfold bindL
  rw [bindL_out fun w hw => h w (List.mem_cons_of_mem _ hw)]
  split
  ·have : x ≠ n := by rintro rfl; exact h v List.mem_cons_self
   simp [this]
  ·rfl
theorem bindC_out {kindOf : Str -> Option NameKind} {x : Str} : ∀ {binds : List (Str × Value)} {m : Str -> Option Value}, (∀ v, (x, v) ∉ binds) -> bindC kindOf binds m x = m x
 | [], _, _ => rfl
 | (n, v) :: r, m, h => by
  unfold bindC
  rw [bindC_out fun w hw => h w (List.mem_cons_of_mem _ hw)]
  split
  ·rfl
  ·have : x ≠ n := by rintro rfl; exact h v List.mem_cons_self
   simp [this]
theorem bindL_get {kindOf : Str -> Option NameKind} {x : Str} {v : Value} : ∀ {P : List Str} {vs : List Value} {i : Nat} {m : Str -> Option Value}, P.Nodup -> P[i]? = some x -> vs[i]? = some v -> kindOf x = some .local ->
  bindL kindOf (P.zip vs) m x = some v
 | [], _, _, _, _, h, _, _ => by simp at h
 | _ :: _, [], _, _, _, _, h, _ => by simp at h
 | p :: P, w :: vs, 0, m, nd, h1, h2, hk => by
  simp at h1 h2; subst h1; subst h2
  show bindL kindOf ((p, w) :: P.zip vs) m p = _
  unfold bindL
  rw [bindL_out fun v hv => (List.nodup_cons.mp nd).1 (List.of_mem_zip hv).1, if_pos hk]
  simp
 | p :: P, w :: vs, i + 1, m, nd, h1, h2, hk => by
  show bindL kindOf ((p, w) :: P.zip vs) m x = _
  unfold bindL
  exact bindL_get (i := i) (List.nodup_cons.mp nd).2 (by simpa using h1) (by simpa using h2) hk
theorem bindC_get {kindOf : Str -> Option NameKind} {x : Str} {v : Value} : ∀ {P : List Str} {vs : List Value} {i : Nat} {m : Str -> Option Value}, P.Nodup -> P[i]? = some x -> vs[i]? = some v -> kindOf x ≠ some .local ->
  bindC kindOf (P.zip vs) m x = some v
 | [], _, _, _, _, h, _, _ => by simp at h
 | _ :: _, [], _, _, _, _, h, _ => by simp at h
 | p :: P, w :: vs, 0, m, nd, h1, h2, hk => by
  simp at h1 h2; subst h1; subst h2
  show bindC kindOf ((p, w) :: P.zip vs) m p = _
  unfold bindC
  rw [bindC_out fun v hv => (List.nodup_cons.mp nd).1 (List.of_mem_zip hv).1, if_neg hk]
  simp
 | p :: P, w :: vs, i + 1, m, nd, h1, h2, hk => by
  show bindC kindOf ((p, w) :: P.zip vs) m x = _
  unfold bindC
  exact bindC_get (i := i) (List.nodup_cons.mp nd).2 (by simpa using h1) (by simpa using h2) hk
noncomputable def start (N : List Str) (vs : List V) : St := vs.map some ++ List.replicate (N.length - vs.length) none
noncomputable def cxOf (CX : CXT) (P : Program) (w : World) (K : W.Frag) (mg : Str -> Option Value) (base : Heap) (N : List Str) (qual : Str) (scope : Scope) (f : Addr) (cd : Value) (A : Around) (outer : List Env) (s : Shared) (H : Hp) (E : XK) : Cx where
 prog := P
 w := w
 K := K
 mg := mg
 base := base
 A := A.deeper (envOfC qual scope s.heap.objs.size f cd)
 N := N
 s_0 := s
 H_0 := H
 env := envOfC qual scope s.heap.objs.size f cd
 outer := outer
 stack := envOfC qual scope s.heap.objs.size f cd :: outer
 ex := []
 calm := true
 fn := fun _ => true
 pn := []
 xe := fun e s' => wpAny (model P w) (A.deeper (envOfC qual scope s.heap.objs.size f cd)) (leaving (envOfC qual scope s.heap.objs.size f cd) e) (fun _ s'' => CX outer H s E e s'') (fun e' s'' => CX outer H s E e' s'') s'
theorem cell_has {sc : Scope} {n : Nat} {x : Str} (h : sc.names.lookup x = some .cell) : ∃ c, (cellsFrom n sc.names []).lookup x = some c := by
 have q := W.cellsFrom_some sc.names n [] (.inl h)
 exact Option.isSome_iff_exists.mp q
theorem inv_start {CX : CXT} {P : Program} {w : World} {K : W.Frag} {mg : Str -> Option Value} {base : Heap} {N ps : List Str} {qual : Str} {scope : Scope} {f : Addr} {cd : Value} {A : Around} {outer : List Env} {s s1 : Shared} {H : Hp} {E : XK} {us : List Value} {vs : List V}
  (S : FnScope N ps scope) (hd : A.handled = none) (e0 : Env0 P w K mg base A outer s H) (hl : vs.length = ps.length) (r : Vals vs us)
  (x : InCallC s s.heap.objs.size (bindL (envOfC qual scope s.heap.objs.size f cd).kindOf (ps.zip us) fun _ => none) (cellsFrom (s.heap.objs.size + 1) scope.names []) (bindC (envOfC qual scope s.heap.objs.size f cd).kindOf (ps.zip us) fun _ => none) s1) :
  Inv (cxOf CX P w K mg base N qual scope f cd A outer s H E) [] (start N vs) H s1 := by
 have hpl : ps.length <= N.length := by have := congrArg List.length S.pre; rw [List.length_take] at this; omega
 obtain ⟨h1, tk, rfl, hk⟩ := x.done
 have noA : ∀ b : Addr, b ∉ (cxOf CX P w K mg base N qual scope f cd A outer s H E).ex := fun b z => absurd (show b ∈ ([] : List Addr) from z) (by simp)
 refine ⟨⟨e0.mod, S.kind, rfl, rfl, Nat.le_refl _, fun y z c h1 h2 => ?_, fun y hy => ?_, fun y c _ h => ?_, fun _ => hd, Around.frames_deeper e0.frames, .inr ⟨rfl, rfl⟩, fun b z => absurd z (noA b), e0.bs, e0.bsz, fun b _ _ => noA b, fun b z => absurd z (noA b), e0.funs, e0.frf⟩,
  rfl, e0.bare, Un.kept hk, ⟨_, x.toInCall.ns, fun i y v h1 h2 h3 => ?_⟩, fun y c h => ⟨_, x.cell y c h⟩, e0.hok.fresh (Nat.le_refl _), fun y c h => ?_, fun p hp => absurd (show p ∈ ([] : List (Addr × Obj)) from hp) (by simp), e0.hok.kept hk, ?_⟩
 ·exact name_of_addr x.apart (PySem.mem_of_lookup h1) (PySem.mem_of_lookup h2)
 ·have hy : scope.names.lookup y = some .cell \/ scope.names.lookup y = some .free := hy
  rcases hy with hy | hy
  ·exact cell_has hy
  ·exact absurd rfl (S.nofree _ (PySem.mem_of_lookup hy))
 ·exact Nat.le_of_lt (x.above y c (PySem.mem_of_lookup h))
 ·have hi : i < vs.length := by
   unfold start at h2
   by_cases hi : i < vs.length
   ·exact hi
   ·rw [List.getElem?_append_right (by simpa using hi)] at h2
    rw [List.getElem?_replicate] at h2
    split at h2 <;> cases h2
  have ha : vs[i]? = some v := by
   unfold start at h2
   rw [List.getElem?_append_left (by simpa using hi), List.getElem?_map] at h2
   cases e : vs[i]? with
   | none => rw [e] at h2; cases h2
   | some a => rw [e] at h2; cases h2; rfl
  obtain ⟨u, hu, rv⟩ := r.get ha
  have hp : ps[i]? = some y := by
   rw [<- S.pre, List.getElem?_take_of_lt (by omega)]; exact h1
  have ndP : ps.Nodup := by rw [<- S.pre]; exact S.nd.sublist (List.take_sublist _ _)
  refine ⟨u, rv, ?_⟩
  rcases S.par y (List.mem_of_getElem? hp) with k | k
  ·exact .inl ⟨k, bindL_get ndP hp hu k⟩
  ·obtain ⟨c, e⟩ := cell_has (n := s.heap.objs.size + 1) k
   refine .inr ⟨.inl k, c, e, ?_⟩
   have q := x.cell y c e
   rw [bindC_get ndP hp hu (by show scope.names.lookup y ≠ _; rw [k]; decide)] at q
   exact q
 ·exact e0.hok.fresh (Nat.le_of_lt (x.above y c (PySem.mem_of_lookup h)))
 ·unfold start
  show _ = N.length
  rw [List.length_append, List.length_map, List.length_replicate]
  omega
theorem fn_of {CX : CXT} {P : Program} {w : World} {K : W.Frag} {mg : Str -> Option Value} {base : Heap} {k : Nat} {f : Addr} {name qual : Str} {params : Arguments} {body : List Stmt} {scope : Scope} {dV kV doc pm cdv ct oc : Value} {an od : Option Addr}
  {osl : Array (Option Value)} {N ps : List Str} {sp : Sp} (lk : K.lookup f = some ⟨oc, od, .func (W.fnOf name qual params body scope dV kV doc pm an cdv ct), osl⟩) (hcd : W.codeIn K cdv qual = true) (S : FnScope N ps scope)
  (len : ∀ vs H Q E, sp vs H Q E -> vs.length = ps.length)
  (hbody : ∀ (A : Around) (outer : List Env) (s : Shared) (H : Hp) (vs : List V) (Q : VK) (E : XK), Room k (A.deeper (envOfC qual scope s.heap.objs.size f cdv)) -> sp vs H Q E ->
   ∃ t, PSs (cxOf CX P w K mg base N qual scope f cdv A outer s H E) body t /\ t { nx := fun _ H' => Q .non H', rt := Q } (start N vs) H) :
  FnOk P w K mg base CX (k + 1) f (W.fnOf name qual params body scope dV kV doc pm an cdv ct) ps sp := by
 refine ⟨len, fun A outer s H args us vs Q E hr e0 hb r hsp => ?_⟩
 have hl := len _ _ _ _ hsp
 have KX : K.In s.heap := e0.mod.kin.keeps fun b o e => (e0.bs b o e).1
 have lim : s.heap.NoLimit := e0.mod.nolimit.keeps fun b o e => (e0.bs b o e).1
 have hkind : ∀ y ∈ ps.zip us, scope.names.lookup y.1 = some .local \/ (scope.names.lookup y.1 = some .cell /\ ((cellsFrom (s.heap.objs.size + 1) scope.names []).lookup y.1).isSome = true) := fun ⟨n, v⟩ hy => by
  rcases S.par n (List.of_mem_zip hy).1 with q | q
  ·exact .inl q
  ·exact .inr ⟨q, W.cellsFrom_some _ _ _ (.inl q)⟩
 refine codeAny_call_function hr.depth (KX _ _ lk) rfl S.co S.gen rfl (W.codeRec_of KX hcd) (hb _ _ _ _ ?_)
 refine wpAny_newFunctionEnv_cells S.kind hkind fun env he s1 x => ?_
 subst he
 refine ⟨lim.keeps x.toInCall.keep, codeAny_func ?_⟩
 obtain ⟨t, ht, hq⟩ := hbody A outer s H vs Q E (hr.deeper _) hsp
 have I : Inv (cxOf CX P w K mg base N qual scope f cdv A outer s H E) [] (start N vs) H s1 := inv_start S hr.hd e0 hl r x
 refine wpAny_mono (ht [] s1 (start N vs) H _ I hq) (fun fl s' hs => ?_) fun e s' hs => hs
 have fin : ∀ {σ' : St} {H' : Hp} {v : V} {u : Value}, Inv (cxOf CX P w K mg base N qual scope f cdv A outer s H E) [] σ' H' s' -> RelV v u -> Q v H' -> CE outer P w H s Q u s' :=
  fun {σ' H' v u} J rv q => ⟨v, H', J.os, J.bare, J.base, J.hok, rv, q⟩
 cases fl with
 | ret u =>
  obtain ⟨v, σ', H', J, rv, q⟩ := hs
  exact fin J rv q
 | next =>
  obtain ⟨σ', H', J, q⟩ := hs
  exact fin (v := V.non) (u := Value.none) J rfl q
 | brk =>
  obtain ⟨_, _, _, q⟩ := hs
  exact False.elim q
 | cont =>
  obtain ⟨_, _, _, q⟩ := hs
  exact False.elim q
end L2
namespace L2
open PySem PySem.Spec PyProof.Rows
section
variable {X : Cx} {x : Str} {p pos : Pos} {e : Expr} {es : List Expr} {t : TA} {id T : String} {r : List V -> Hp -> VK -> Prop}
noncomputable def tCB (r : List V -> Hp -> VK -> Prop) (t : TA) : TE := fun σ H Q => t σ H fun vs H1 => r vs H1 Q
theorem pe_callB (hc : CallR X (.builtin id) r) (hg : Gl X x) (hm : X.mg x = none) (hv : bootBuiltins x = some (.builtin id)) (ha : PA X (e :: es) t) (hn : x ≠ "__name__" := by decide) (hdb : (x == ("__debug__" : Str)) = false := by decide)
  (he : starEach (e :: es) X.env = (false, eval e X.env) :: starEach es X.env := by rfl) (hpl : (backTo pos (starEach es X.env)).any (·.1) = false := by rfl) : PE X (.Call (.Name x p) (e :: es) [] pos) (tCB r t) := by
 intro pins s σ H Q I h
 refine wpAny_Call_Name_kw (ld_blt I hg hm hv ?_ hn hdb)
 exact PyProof.Rows.callWith_builtin1 (thn (ha pos pins s σ H _ I h) fun us s1 ⟨vs, H1, I1, r1, q1⟩ => hc pins s1 σ H1 vs us Q I1 r1 q1) he hpl
theorem pe_callTy (hc : CallR X (.type T) r) (hg : Gl X x) (hm : X.mg x = none) (hv : bootBuiltins x = some (.type T)) (ha : PA X (e :: es) t) (hn : x ≠ "__name__" := by decide) (hdb : (x == ("__debug__" : Str)) = false := by decide)
  (he : starEach (e :: es) X.env = (false, eval e X.env) :: starEach es X.env := by rfl) (hpl : (backTo pos (starEach es X.env)).any (·.1) = false := by rfl) : PE X (.Call (.Name x p) (e :: es) [] pos) (tCB r t) := by
 intro pins s σ H Q I h
 refine wpAny_Call_Name_kw (ld_blt I hg hm hv ?_ hn hdb)
 exact PyProof.Rows.callWith_type1 (thn (ha pos pins s σ H _ I h) fun us s1 ⟨vs, H1, I1, r1, q1⟩ => hc pins s1 σ H1 vs us Q I1 r1 q1) he hpl
end
end L2
namespace HT
open PySem PyProof.Rows
section
open PySem.SeqAt
open PySem.AutoSeq1 (wpAny_loadPart')
open PySem.MeetsSeq PySem.MeetsSeq2 PySem.MeetsSeq3
end
section
variable {prog : Program} {w : World} {A : Around} {E : Value -> Shared -> Prop} {s : Shared}
noncomputable def sIx (n d : Nat) : Option Int -> Nat
 | none => d
 | some v => if v < 0 then (v + (n : Int)).toNat else min v.toNat n
theorem sIx_nat (n d k : Nat) : sIx n d (some (k : Int)) = min k n := by
 show (if (k : Int) < 0 then ((k : Int) + (n : Int)).toNat else min (k : Int).toNat n) = min k n
 rw [if_neg (by omega), Int.toNat_natCast]
end
end HT
namespace L2
open PySem PySem.Spec PyProof.Rows
abbrev TO := St -> Hp -> (Option Int -> Hp -> Prop) -> Prop
noncomputable def PO (X : Cx) (e : Option Expr) (t : TO) : Prop :=
 ∀ (pins : List (Addr × Obj)) (s : Shared) (σ : St) (H : Hp) (Q : Option Int -> Hp -> Prop), Inv X pins σ H s -> t σ H Q ->
  wpAny (model X.prog X.w) X.A (evalPart e X.env) (fun u s' => ∃ o H', Inv X pins σ H' s' /\ IsPart u o /\ Q o H') X.xe s
noncomputable def tPart (t : TE) : TO := fun σ H Q => t σ H fun x H1 => ∃ i, x = .int i /\ Q (some i) H1
section
variable {X : Cx} {e : Expr} {te : TE} {lo hi : Option Expr} {tl th : TO} {pos p2 : Pos}
theorem po_some (h : PE X e te) : PO X (some e) (tPart te) := by
 intro pins s σ H Q I hw
 rw [evalPart_some]
 refine thn (h pins s σ H _ I hw) fun u s1 ⟨x, H1, I1, r1, q1⟩ => ?_
 obtain ⟨i, rfl, q⟩ := q1
 obtain ⟨t, rfl⟩ := r1
 exact ⟨some i, H1, I1, .int i t, q⟩
noncomputable def SlR (X : Cx) (r : V -> Option Int -> Option Int -> Hp -> VK -> Prop) : Prop :=
 ∀ (pins : List (Addr × Obj)) (s : Shared) (σ : St) (H : Hp) (x : V) (v vl vu : Value) (lo hi : Option Int) (sl : Addr) (Q : VK), Inv X pins σ H s -> RelV x v -> s.heap.IsSliceOf sl vl vu .none -> IsPart vl lo -> IsPart vu hi -> r x lo hi H Q ->
  ∃ T id, typeLookup (.type T) "__getitem__" = pure (some (.builtin id)) /\ s.TypeIs v T /\ wpAny (model X.prog X.w) X.A (getItem v (.ref sl)) (EP X pins σ Q) X.xe s
theorem SlR.or {r r' : V -> Option Int -> Option Int -> Hp -> VK -> Prop} (h : SlR X r) (h' : SlR X r') : SlR X (fun x lo hi H Q => r x lo hi H Q \/ r' x lo hi H Q) := by
 intro pins s σ H x v vl vu lo hi sl Q I rx hs pl pu q
 rcases q with q | q
 ·exact h pins s σ H x v vl vu lo hi sl Q I rx hs pl pu q
 ·exact h' pins s σ H x v vl vu lo hi sl Q I rx hs pl pu q
noncomputable def tSl (r : V -> Option Int -> Option Int -> Hp -> VK -> Prop) (te : TE) (tl th : TO) : TE := fun σ H Q => te σ H fun x H1 => tl σ H1 fun l H2 => th σ H2 fun u H3 => r x l u H3 Q
theorem pe_slice {r : V -> Option Int -> Option Int -> Hp -> VK -> Prop} (hr : SlR X r) (he : PE X e te) (hl : PO X lo tl) (hu : PO X hi th) : PE X (.Subscript e (.Slice lo hi none p2) pos) (tSl r te tl th) := by
 intro pins s σ H Q I h
 refine Subscript_ (thn (he pins s σ H _ I h) fun v s1 ⟨x, H1, I1, r1, q1⟩ => ?_)
 refine wpAny_Slice (thn (hl pins s1 σ H1 _ I1 q1) fun vl s2 ⟨l, H2, I2, pl, q2⟩ => thn (hu pins s2 σ H2 _ I2 q2) fun vu s3 ⟨u, H3, I3, pu, q3⟩ => ?_)
 rw [evalPart_none]
 refine wpAny_pure ?_
 have I4 : Inv X pins σ H3 { s3 with heap := s3.heap.push { cls := .type "slice", data := .fields #[vl, vu, .none] } } := I3.kept (t' := s3.toks) fun b ob q => Heap.get?_push_of_some _ q
 obtain ⟨T, id, hT, ht, hg⟩ := hr pins { s3 with heap := s3.heap.push { cls := .type "slice", data := .fields #[vl, vu, .none] } } σ H3 x v vl vu l u s3.heap.objs.size Q I4 r1 (Heap.IsSliceOf.new ..) pl pu q3
 show wpAny (model X.prog X.w) X.A (subscriptTail e (.Slice lo hi none p2) v (.ref s3.heap.objs.size)) (EP X pins σ Q) X.xe { s3 with heap := s3.heap.push { cls := .type "slice", data := .fields #[vl, vu, .none] } }
 exact tail_any (ops := [.ref s3.heap.objs.size, v]) ht hT hg (by with_unfolding_all rfl)
noncomputable def cutV (xs : List V) (lo hi : Option Int) : List V := (xs.drop (HT.sIx xs.length 0 lo)).take (HT.sIx xs.length xs.length hi - HT.sIx xs.length 0 lo)
theorem cutV_length (xs : List V) (lo hi : Option Int) : (cutV xs lo hi).length <= xs.length := by
 unfold cutV
 rw [List.length_take, List.length_drop]
 omega
end
end L2
namespace L2
open PySem PySem.Spec PyProof.Rows
noncomputable def ixN (n : Nat) (i : Int) : Option Nat := if 0 <= i then (if i < n then some i.toNat else none) else if -(n : Int) <= i then some (i + n).toNat else none
noncomputable def atI {α : Type} (xs : List α) (i : Int) : Option α := (ixN xs.length i).bind fun j => xs[j]?
theorem ixN_seq {n : Nat} {i : Int} {j : Nat} (h : ixN n i = some j) : seqIndex? i n = some j /\ j < n /\ -(n : Int) <= i /\ i < n := by
 unfold ixN at h
 by_cases h0 : 0 <= i
 ·rw [if_pos h0] at h
  by_cases h1 : i < n
  ·rw [if_pos h1] at h
   have e : i.toNat = j := Option.some.inj h
   exact ⟨by rw [seqIndex_of h0 h1, e], by omega, by omega, h1⟩
  ·rw [if_neg h1] at h; cases h
 ·rw [if_neg h0] at h
  by_cases h1 : -(n : Int) <= i
  ·rw [if_pos h1] at h
   have e : (i + n).toNat = j := Option.some.inj h
   exact ⟨by rw [seqIndex_neg (by omega) h1, e], by omega, h1, by omega⟩
  ·rw [if_neg h1] at h; cases h
theorem atI_get {α : Type} {xs : List α} {i : Int} {v : α} (h : atI xs i = some v) : ∃ j, seqIndex? i xs.length = some j /\ xs[j]? = some v /\ j < xs.length /\ -(xs.length : Int) <= i /\ i < xs.length := by
 unfold atI at h
 cases e : ixN xs.length i with
 | none => rw [e] at h; cases h
 | some j =>
  rw [e] at h
  obtain ⟨h1, h2, h3, h4⟩ := ixN_seq e
  exact ⟨j, h1, h, h2, h3, h4⟩
theorem atI_nat {α : Type} {xs : List α} {j : Nat} {v : α} (h : xs[j]? = some v) : atI xs (j : Int) = some v := by
 have hj : j < xs.length := (List.getElem?_eq_some_iff.mp h).1
 have e : ixN xs.length (j : Int) = some j := by
  unfold ixN
  rw [if_pos (by omega), if_pos (by omega)]; simp
 unfold atI; rw [e]; exact h
noncomputable def PlainIx (b : Expr) : Prop := ∀ o i, subscripted b false o i = operate [o, i] (getItem o i)
noncomputable def IxR (X : Cx) (r : R2) : Prop :=
 ∀ (value slice : Expr) (pins : List (Addr × Obj)) (s : Shared) (σ : St) (H : Hp) (x y : V) (v u : Value) (Q : VK), Inv X pins σ H s -> RelV x v -> RelV y u -> r x y H Q ->
  subscripted slice false v u = operate [v, u] (getItem v u) -> wpAny (model X.prog X.w) X.A (subscriptTail value slice v u) (EP X pins σ Q) X.xe s
noncomputable def MtR (X : Cx) (id : String) (r : V -> List V -> Hp -> VK -> Prop) : Prop :=
 ∀ (pins : List (Addr × Obj)) (s : Shared) (σ : St) (H : Hp) (x : V) (xs : List V) (v : Value) (us : List Value) (Q : VK), Inv X pins σ H s -> RelV x v -> Vals xs us -> r x xs H Q ->
  wpAny (model X.prog X.w) X.A (call (.builtin id) (v :: us)) (EP X pins σ Q) X.xe s
section
variable {X : Cx} {a b : Expr} {ta tb : TE} {pos : Pos}
theorem IxR.or {r r' : R2} (h : IxR X r) (h' : IxR X r') : IxR X (fun x y H Q => r x y H Q \/ r' x y H Q) := by
 intro value slice pins s σ H x y v u Q I rx ry q hs
 rcases q with q | q
 ·exact h value slice pins s σ H x y v u Q I rx ry q hs
 ·exact h' value slice pins s σ H x y v u Q I rx ry q hs
theorem MtR.or {id : String} {r r' : V -> List V -> Hp -> VK -> Prop} (h : MtR X id r) (h' : MtR X id r') : MtR X id (fun x xs H Q => r x xs H Q \/ r' x xs H Q) := by
 intro pins s σ H x xs v us Q I rx rs q
 rcases q with q | q
 ·exact h pins s σ H x xs v us Q I rx rs q
 ·exact h' pins s σ H x xs v us Q I rx rs q
theorem pe_ix {r : R2} (hr : IxR X r) (ha : PE X a ta) (hb : PE X b tb) (hs : PlainIx b) : PE X (.Subscript a b pos) (tOp r ta tb) := by
 intro pins s σ H Q I h
 exact Subscript_ (binT ha hb I h fun v u s2 x y H2 I2 rx ry q => hr a b pins s2 σ H2 x y v u Q I2 rx ry q (hs _ _))
noncomputable def rIxL (K : W.Frag) : R2 := fun x y H Q => ∃ p xs i v, x = .ref p /\ y = .int i /\ SqL K H p xs /\ atI xs i = some v /\ Q v H
theorem ix_list : IxR X (rIxL X.K) := by
 intro value slice pins s σ H x y v u Q I rx ry h hs
 obtain ⟨p, xs, i, z, rfl, rfl, hq, he, q⟩ := h
 cases rx
 obtain ⟨t, rfl⟩ := ry
 obtain ⟨its, r, pl, hz⟩ := I.list hq
 obtain ⟨j, h1, h2, h3, h4, h5⟩ := atI_get he
 obtain ⟨w, ew, rw'⟩ := r.get h2
 have hl := r.length
 have hn := line63
 have fin : EP X pins σ Q w s := ⟨z, H, I, rw', q⟩
 by_cases h0 : 0 <= i
 ·have hj : i.toNat = j := by
   rw [seqIndex_of h0 h5] at h1
   exact Option.some.inj h1
  exact item_listR pl.isList h0 (by omega) (by rw [hj]; simpa using ew) fin hs
 ·have hj : (i + (its.toArray.size : Int)).toNat = j := by
   rw [seqIndex_neg (by omega) h4] at h1
   rw [List.size_toArray, <- hl]
   exact Option.some.inj h1
  exact subscriptTail_builtinR (x := w) pl.isList.typeIs slot_list_getitem.lookup
   (wpAny_getItem_list_neg (Q := fun r s' => r = w /\ EP X pins σ Q r s') pl.isList (by omega) (by rw [List.size_toArray] <;> omega) (by omega) (by rw [hj]; simpa using ew) ⟨rfl, fin⟩) hs
theorem mapSeq_set (its : List Value) (n j : Nat) (u : Value) : Obj.mapSeq (·.setIfInBounds j u) { cls := .type "list", data := .seq its.toArray n } = { cls := .type "list", data := .seq (its.set j u).toArray n } := by
 simp [Obj.mapSeq]
theorem Inv.lst {pins : List (Addr × Obj)} {σ : St} {H : Hp} {s : Shared} {p : Addr} {xs : List V} (I : Inv X pins σ H s) (h : H p = some (.lst xs)) :
  ∃ (its : List Value) (n : Nat), Vals xs its /\ s.heap.get? p = some { cls := .type "list", data := .seq its.toArray n } /\ xs.length <= sizeLine := by
 obtain ⟨z, its, n, r, e⟩ := I.hok p _ h
 exact ⟨its, n, r, e, z⟩
theorem Inv.lstUpd {pins : List (Addr × Obj)} {σ : St} {H : Hp} {s : Shared} {p : Addr} {xs ys : List V} {its its' : List Value} {n n' : Nat} {f : Obj -> Obj} (I : Inv X pins σ H s) (h : H p = some (.lst xs))
  (ho : s.heap.get? p = some { cls := .type "list", data := .seq its.toArray n }) (hf : f { cls := .type "list", data := .seq its.toArray n } = { cls := .type "list", data := .seq its'.toArray n' }) (r : Vals ys its') (hz : ys.length <= sizeLine) (t : Nat) :
  Inv X pins σ (upd H p (.lst ys)) { s with heap := s.heap.update p f, toks := t } := by
 have e : (s.heap.update p f).get? p = some { cls := .type "list", data := .seq its'.toArray n' } := by
  rw [Heap.get?_update_self f ho (by rw [hf] <;> rfl), hf]
 refine I.write (x := p) (e := p) (by rw [h]; trivial) (.inl rfl) (fun b u hb q => (Heap.get?_update_other _ _ (Ne.symm hb)).trans q) ⟨_, e⟩ ?_
 exact ⟨hz, its', n', r, e⟩
noncomputable def rSetL : V -> V -> V -> Hp -> (Hp -> Prop) -> Prop := fun o i v H Q => ∃ p xs k j, o = .ref p /\ i = .int k /\ H p = some (.lst xs) /\ ixN xs.length k = some j /\ Q (upd H p (.lst (xs.set j v)))
theorem set_list : PSet X rSetL := by
 intro pins s σ H o i v ov iv u Q I ro ri rv h
 obtain ⟨p, xs, k, j, rfl, rfl, hp, hj, q⟩ := h
 cases ro
 obtain ⟨t, rfl⟩ := ri
 obtain ⟨its, n, r, ho, hz⟩ := I.lst hp
 obtain ⟨h1, h2, h3, h4⟩ := ixN_seq hj
 have hl := r.length
 have hn := line63
 have I' : Inv X pins σ (upd H p (.lst (xs.set j v))) { s with heap := s.heap.update p (Obj.mapSeq (·.setIfInBounds j u)) } :=
  I.lstUpd hp ho (mapSeq_set its n j u) (r.set rv j) (by rw [List.length_set]; exact hz) s.toks
 by_cases h0 : 0 <= k
 ·have hk : k.toNat = j := by
   rw [seqIndex_of h0 h4] at h1
   exact Option.some.inj h1
  exact W.ki_setAt ho h0 (by omega) (by rw [List.size_toArray, <- hl]; exact h4) (by rw [hk]; exact ⟨_, I', q⟩)
 ·have hk : (k + (its.toArray.size : Int)).toNat = j := by
   rw [seqIndex_neg (by omega) h3] at h1
   rw [List.size_toArray, <- hl]
   exact Option.some.inj h1
  exact W.ki_setBack ho (by omega) (by rw [List.size_toArray, <- hl]; exact h3) (by omega) (by rw [hk]; exact ⟨_, I', q⟩)
theorem slice_bounds (lo hi : Option Int) (n : Nat) : (sliceBounds lo hi none n).1 = ((HT.sIx n 0 lo : Nat) : Int) /\ (sliceBounds lo hi none n).2.1 = ((HT.sIx n n hi : Nat) : Int) /\ (sliceBounds lo hi none n).2.2 = 1 := by
 refine ⟨?_, ?_, rfl⟩
 ·cases lo with
  | none => simp [sliceBounds, HT.sIx]
  | some i =>
   simp only [sliceBounds, HT.sIx, Option.getD_none, show (1 : Int) > 0 by decide, if_true]
   by_cases h : i < 0
   ·simp only [h, if_true] <;> omega
   ·simp only [h, if_false] <;> omega
 ·cases hi with
  | none => simp [sliceBounds, HT.sIx]
  | some i =>
   simp only [sliceBounds, HT.sIx, Option.getD_none, show (1 : Int) > 0 by decide, if_true]
   by_cases h : i < 0
   ·simp only [h, if_true] <;> omega
   ·simp only [h, if_false] <;> omega
theorem slicePick_cut (its : List Value) (lo hi : Option Int) : slicePick its.toArray lo hi none = ((its.drop (HT.sIx its.length 0 lo)).take (HT.sIx its.length its.length hi - HT.sIx its.length 0 lo)).toArray := by
 obtain ⟨h1, h2, h3⟩ := slice_bounds lo hi its.toArray.size
 unfold slicePick
 rw [h1, h2, h3]
 simp only [sliceRange_one, pick_run, List.size_toArray] <;> rfl
noncomputable def rSlL (K : W.Frag) : V -> Option Int -> Option Int -> Hp -> VK -> Prop := fun x lo hi H Q => ∃ a xs, x = .ref a /\ SqL K H a xs /\ ∀ p, H p = none -> Q (.ref p) (upd H p (.lst (cutV xs lo hi)))
theorem sl_list : SlR X (rSlL X.K) := by
 intro pins s σ H x v vl vu lo hi sl Q I rx hs pl pu h
 obtain ⟨a, xs, rfl, hx, q⟩ := h
 cases rx
 obtain ⟨its, r, ht, hz⟩ := I.list hx
 have hlen := r.length
 refine ⟨"list", _, slot_list_getitem.lookup, ht.isList.typeIs, ?_⟩
 refine wpAny_getItem_list_slice ht.isList hs pl pu .none (by simp) ?_ (by rw [List.size_toArray] <;> omega)
 rw [slicePick_cut, <- hlen]
 refine ⟨.ref s.heap.objs.size, _, I.laid (t' := s.toks) (o := .lst (cutV xs lo hi)) (fun b ob q => Heap.get?_push_of_some _ q) (Nat.le_refl _) ?_, rfl, q _ (I.hok.fresh (Nat.le_refl _))⟩
 exact ⟨Nat.le_trans (cutV_length xs lo hi) hz, _, 0, (r.drop (HT.sIx xs.length 0 lo)).take (HT.sIx xs.length xs.length hi - HT.sIx xs.length 0 lo), Heap.get?_push_size _ rfl⟩
noncomputable def flatV : V -> Bool
 | .non => true
 | .bl _ => true
 | .int _ => true
 | .str _ => true
 | _ => false
noncomputable def eqV : V -> V -> Bool
 | .non, .non => true
 | .bl a, .bl b => a == b
 | .bl a, .int b => (if a then 1 else 0) == b
 | .int a, .bl b => a == (if b then 1 else 0)
 | .int a, .int b => a == b
 | .str a, .str b => a == b
 | _, _ => false
theorem eqAt_V {A : Around} {s : Shared} {y x : V} {u v : Value} (ry : RelV y u) (rx : RelV x v) (fy : flatV y = true) (fx : flatV x = true) : SeqAt.EqAt A s u v (eqV y x) := by
 cases y with
 | non =>
  cases ry
  cases x with
  | non => cases rx; exact SeqAt.EqAt.same _
  | bl b => cases rx; exact SeqAt.EqAt.none_bool b
  | int b => obtain ⟨t, rfl⟩ := rx; exact SeqAt.EqAt.none_int b t
  | str b => obtain ⟨t, rfl⟩ := rx; exact SeqAt.EqAt.none_str b t
  | _ => exact absurd (show false = true from fx) Bool.false_ne_true
 | bl a =>
  cases ry
  cases x with
  | non => cases rx; exact SeqAt.EqAt.bool_none a
  | bl b => cases rx; exact SeqAt.EqAt.bool_bool a b
  | int b => obtain ⟨t, rfl⟩ := rx; exact SeqAt.EqAt.bool_int a b t
  | str b => obtain ⟨t, rfl⟩ := rx; exact SeqAt.EqAt.bool_str a b t
  | _ => exact absurd (show false = true from fx) Bool.false_ne_true
 | int a =>
  obtain ⟨t', rfl⟩ := ry
  cases x with
  | non => cases rx; exact SeqAt.EqAt.int_none a t'
  | bl b => cases rx; exact SeqAt.EqAt.int_bool a t' b
  | int b => obtain ⟨t, rfl⟩ := rx; exact SeqAt.EqAt.int_int a t' b t
  | str b => obtain ⟨t, rfl⟩ := rx; exact SeqAt.EqAt.int_str a t' b t
  | _ => exact absurd (show false = true from fx) Bool.false_ne_true
 | str a =>
  obtain ⟨t', rfl⟩ := ry
  cases x with
  | non => cases rx; exact SeqAt.EqAt.str_none a t'
  | bl b => cases rx; exact SeqAt.EqAt.str_bool a t' b
  | int b => obtain ⟨t, rfl⟩ := rx; exact SeqAt.EqAt.str_int a t' b t
  | str b => obtain ⟨t, rfl⟩ := rx; exact SeqAt.EqAt.str_str a t' b t
  | _ => exact absurd (show false = true from fx) Bool.false_ne_true
 | _ => exact absurd (show false = true from fy) Bool.false_ne_true
noncomputable def eqU (x : V) (u : Value) : Bool := match u with
 | .none => eqV .non x
 | .bool b => eqV (.bl b) x
 | .int i _ => eqV (.int i) x
 | .str z _ => eqV (.str z) x
 | _ => false
theorem eqU_of {x y : V} {u : Value} (r : RelV y u) (f : flatV y = true) : eqU x u = eqV y x := by
 cases y with
 | non => cases r; rfl
 | bl b => cases r; rfl
 | int i => obtain ⟨t, rfl⟩ := r; rfl
 | str z => obtain ⟨t, rfl⟩ := r; rfl
 | _ => exact absurd (show false = true from f) Bool.false_ne_true
theorem any_eqU {x : V} : ∀ {xs : List V} {us : List Value}, Vals xs us -> xs.all flatV = true -> us.any (eqU x) = xs.any fun y => eqV y x
 | _, _, .nil, _ => rfl
 | y :: xs, u :: us, .cons r t, f => by
  rw [List.all_cons, Bool.and_eq_true] at f
  rw [List.any_cons, List.any_cons, eqU_of r f.1, any_eqU t f.2]
theorem mem_eqAt {A : Around} {s : Shared} {x : V} {v : Value} (rx : RelV x v) (fx : flatV x = true) : ∀ {xs : List V} {us : List Value}, Vals xs us -> xs.all flatV = true -> ∀ u ∈ us, SeqAt.EqAt A s u v (eqU x u)
 | _, _, .nil, _ => fun u hu => by cases hu
 | y :: xs, u :: us, .cons r t, f => fun u' hu => by
  rw [List.all_cons, Bool.and_eq_true] at f
  rcases List.mem_cons.mp hu with rfl | hu
  ·rw [eqU_of r f.1]; exact eqAt_V r rx f.1 fx
  ·exact mem_eqAt rx fx t f.2 u' hu
noncomputable def inV (x : V) (xs : List V) : Bool := xs.any fun y => eqV y x
noncomputable def rIn (K : W.Frag) (neg : Bool) : R2 := fun x y H Q => ∃ p xs, y = .ref p /\ (SqL K H p xs \/ SqT K H p xs) /\ flatV x = true /\ xs.all flatV = true /\ Q (.bl (if neg then !inV x xs else inV x xs)) H
theorem op_in_seq : OpR X (compareOp .In) (rIn X.K false) := by
 intro pins s σ H x y v u Q I rx ry h
 obtain ⟨p, xs, rfl, hq, fx, fs, q⟩ := h
 cases ry
 rcases hq with hq | hq
 ·obtain ⟨its, r, pl, hz⟩ := I.list hq
  refine SeqAt.in_listAt (eqU x) pl.isList (fun w hw => mem_eqAt rx fx r fs w (by simpa using hw)) ⟨.bl _, H, I, rfl, ?_⟩
  rw [show its.toArray.any (eqU x) = its.any (eqU x) by simp, any_eqU r fs]
  exact q
 ·obtain ⟨its, r, pl, hz⟩ := I.tuple hq
  refine SeqAt.in_tupleAt (eqU x) pl (fun w hw => mem_eqAt rx fx r fs w (by simpa using hw)) ⟨.bl _, H, I, rfl, ?_⟩
  rw [show its.toArray.any (eqU x) = its.any (eqU x) by simp, any_eqU r fs]
  exact q
theorem op_notIn_seq : OpR X (compareOp .NotIn) (rIn X.K true) := by
 intro pins s σ H x y v u Q I rx ry h
 obtain ⟨p, xs, rfl, hq, fx, fs, q⟩ := h
 cases ry
 rcases hq with hq | hq
 ·obtain ⟨its, r, pl, hz⟩ := I.list hq
  refine SeqAt.notIn_listAt (eqU x) pl.isList (fun w hw => mem_eqAt rx fx r fs w (by simpa using hw)) ⟨.bl _, H, I, rfl, ?_⟩
  rw [show its.toArray.any (eqU x) = its.any (eqU x) by simp, any_eqU r fs]
  exact q
 ·obtain ⟨its, r, pl, hz⟩ := I.tuple hq
  refine SeqAt.notIn_tupleAt (eqU x) pl (fun w hw => mem_eqAt rx fx r fs w (by simpa using hw)) ⟨.bl _, H, I, rfl, ?_⟩
  rw [show its.toArray.any (eqU x) = its.any (eqU x) by simp, any_eqU r fs]
  exact q
theorem call_len_seq : CallR X (.builtin "len") (fun xs H Q => ∃ p ys, xs = [.ref p] /\ (SqL X.K H p ys \/ SqT X.K H p ys) /\ Q (.int ys.length) H) := by
 intro pins s σ H xs us Q I r h
 obtain ⟨p, ys, rfl, hq, q⟩ := h
 obtain ⟨u, rfl, rx⟩ := vals1 r
 cases rx
 have hn := line63
 rcases hq with hq | hq
 ·obtain ⟨its, r', pl, hz⟩ := I.list hq
  have hlen := r'.length
  exact Calls.call_len_list pl.isList (by simp only [List.size_toArray] <;> omega) ⟨.int ys.length, H, I.tok _, ⟨s.toks + 1, by rw [List.size_toArray, hlen]⟩, q⟩
 ·obtain ⟨its, r', pl, hz⟩ := I.tuple hq
  have hlen := r'.length
  exact len_tuple pl (by simp only [List.size_toArray] <;> omega) ⟨.int ys.length, H, I.tok _, ⟨s.toks + 1, by rw [List.size_toArray, hlen]⟩, q⟩
theorem CallR.or {f : Value} {r r' : List V -> Hp -> VK -> Prop} (h : CallR X f r) (h' : CallR X f r') : CallR X f (fun xs H Q => r xs H Q \/ r' xs H Q) := by
 intro pins s σ H xs us Q I rs q
 rcases q with q | q
 ·exact h pins s σ H xs us Q I rs q
 ·exact h' pins s σ H xs us Q I rs q
theorem call_list_of : CallR X (.type "list") (fun xs H Q => ∃ p ys, xs = [.ref p] /\ (SqL X.K H p ys \/ SqT X.K H p ys) /\ ∀ l, H l = none -> Q (.ref l) (upd H l (.lst ys))) := by
 intro pins s σ H xs us Q I r h
 obtain ⟨p, ys, rfl, hq, q⟩ := h
 obtain ⟨u, rfl, rx⟩ := vals1 r
 cases rx
 have fin : ∀ (its : List Value), Vals ys its -> ys.length <= sizeLine -> ∀ (h' : Heap) (c' : Nat), (∀ b o', s.heap.get? b = some o' -> h'.get? b = some o') ->
   h'.get? s.heap.objs.size = some { cls := .type "list", dict := none, data := .seq its.toArray c', slots := #[] } -> EP X pins σ Q (.ref s.heap.objs.size) { s with heap := h' } := fun its r' hz h' c' kp e =>
  ⟨.ref s.heap.objs.size, _, I.laid (t' := s.toks) kp (Nat.le_refl _) (show ObjOk X.prog X.w _ h' _ (.lst ys) from ⟨hz, its, c', r', e⟩), rfl, q _ (I.hok.fresh (Nat.le_refl _))⟩
 rcases hq with hq | hq
 ·obtain ⟨its, r', pl, hz⟩ := I.list hq
  have hlen := r'.length
  obtain ⟨o, ho, hc, n, hd⟩ := pl.isList
  exact call_list_seq p (.inl rfl) ho hc hd (fun h' c' kp e => fin its r' hz h' c' kp e) (by simp only [List.size_toArray] <;> omega)
 ·obtain ⟨its, r', pl, hz⟩ := I.tuple hq
  have hlen := r'.length
  obtain ⟨o, ho, hc, n, hd⟩ := pl
  exact call_list_seq p (.inr rfl) ho hc hd (fun h' c' kp e => fin its r' hz h' c' kp e) (by simp only [List.size_toArray] <;> omega)
noncomputable def tyV (K : W.Frag) (T : String) (x : V) (H : Hp) : Prop := match x with
 | .str _ => T = "str"
 | .int _ => T = "int"
 | .ref p => (T = "list" /\ ∃ xs, SqL K H p xs) \/ (T = "tuple" /\ ∃ o, K.lookup p = some o /\ o.cls = .type "tuple" /\ o.dict = none) \/
   (T = "dict" /\ ((∃ kvs, H p = some (.dK kvs)) \/ ∃ kvs, H p = some (.dT kvs))) \/ (T = "set" /\ ∃ S n, H p = some (.set S n))
 | _ => False
theorem tyV_is {pins : List (Addr × Obj)} {σ : St} {H : Hp} {s : Shared} {T : String} {x : V} {v : Value} (I : Inv X pins σ H s) (r : RelV x v) (ty : tyV X.K T x H) :
  s.TypeIs v T /\ ∀ a, v = .ref a -> ∃ ob, s.heap.get? a = some ob /\ ob.dict = none := by
 cases x with
 | str z =>
  obtain ⟨t, rfl⟩ := r
  cases (show T = "str" from ty)
  exact ⟨typeIs_str s z t, fun _ e => nomatch e⟩
 | int i =>
  obtain ⟨t, rfl⟩ := r
  cases (show T = "int" from ty)
  exact ⟨typeIs_int s i t, fun _ e => nomatch e⟩
 | ref p =>
  cases r
  rcases ty with ⟨rfl, xs, hq⟩ | ⟨rfl, o, hk, hc, hd⟩ | ⟨rfl, hk⟩ | ⟨rfl, S, n, hk⟩
  ·obtain ⟨its, _, pl, _⟩ := I.list hq
   refine ⟨pl.isList.typeIs, fun a e => ?_⟩
   cases e
   obtain ⟨o, n, e, c, hd, _⟩ := pl
   exact ⟨o, e, hd⟩
  ·refine ⟨⟨o, I.kIn p o hk, hc⟩, fun a e => ?_⟩
   cases e
   exact ⟨o, I.kIn _ o hk, hd⟩
  ·have z : ∃ o, s.heap.get? p = some o /\ o.ExactDict := by
    rcases hk with ⟨kvs, hk⟩ | ⟨kvs, hk⟩
    ·obtain ⟨_, _, _, _, o, _, _, e, ex, _⟩ := I.hok p _ hk
     exact ⟨o, e, ex⟩
    ·obtain ⟨_, _, _, _, o, _, _, e, ex, _⟩ := I.hok p _ hk
     exact ⟨o, e, ex⟩
   obtain ⟨o, e, ex⟩ := z
   refine ⟨⟨o, e, ex.1⟩, fun a e2 => ?_⟩
   cases e2
   exact ⟨o, e, ex.2.1⟩
  ·obtain ⟨o, _, _, _, e, ex, _⟩ := I.hok p _ hk
   refine ⟨⟨o, e, ex.1⟩, fun a e2 => ?_⟩
   cases e2
   exact ⟨o, e, ex.2.1⟩
 | _ => exact False.elim ty
noncomputable def tBM0 (K : W.Frag) (T : String) (r : V -> List V -> Hp -> VK -> Prop) (to : TE) : TE := fun σ H Q => to σ H fun x H1 => tyV K T x H1 /\ r x [] H1 Q
noncomputable def tBM (K : W.Frag) (T : String) (r : V -> List V -> Hp -> VK -> Prop) (to : TE) (t : TA) : TE := fun σ H Q => to σ H fun x H1 => tyV K T x H1 /\ t σ H1 fun xs H2 => r x xs H2 Q
variable {o e : Expr} {es : List Expr} {to : TE} {t : TA} {name : Str} {apos cpos : Pos} {T id : String} {r : V -> List V -> Hp -> VK -> Prop}
theorem pe_bm0 (pa : PlainAttrs T) (slot : Slot T name id) (hty : typeOf (.builtin id) = pure (.type "method_descriptor")) (hm : MtR X id r) (ho : PE X o to)
  (hbase : attributeBase o name X.env (eval o X.env) = eval o X.env := by rfl) (hline : (apos.endLine == cpos.line) = true := by rfl) : PE X (.Call (.Attribute o name apos) [] [] cpos) (tBM0 X.K T r to) := by
 intro pins s σ H Q I h
 refine wpAny_Call_method0_late hbase hline (thn (ho pins s σ H _ I h) fun v s1 ⟨x, H1, I1, r1, ty, q1⟩ => ?_)
 obtain ⟨h1, h2⟩ := tyV_is I1 r1 ty
 exact ⟨T, id, pa, slot, hty, h1, h2, Calls.callWith_builtin rfl (PySem.evalArgs_none (hm pins s1 σ H1 x [] v [] Q I1 r1 .nil q1))⟩
theorem pe_bm (pa : PlainAttrs T) (slot : Slot T name id) (hty : typeOf (.builtin id) = pure (.type "method_descriptor")) (hm : MtR X id r) (ho : PE X o to) (ha : PA X (e :: es) t)
  (hbase : attributeBase o name X.env (eval o X.env) = eval o X.env := by rfl)
  (hfew : ((backTo cpos (starEach (e :: es) X.env)).all (fun x => !x.1) && (backToKw cpos (keywordEach [] X.env)).all (fun x => x.1.isSome)
   && decide ((e :: es).length + ([] : List Keyword).length + (if ([] : List Keyword).isEmpty then 0 else 1) < 30)) = true := by rfl)
  (hline : (apos.endLine == cpos.line) = true := by rfl) (hs : starEach (e :: es) X.env = (false, eval e X.env) :: starEach es X.env := by rfl) (hplain : (backTo cpos (starEach es X.env)).any (·.1) = false := by rfl) :
  PE X (.Call (.Attribute o name apos) (e :: es) [] cpos) (tBM X.K T r to t) := by
 intro pins s σ H Q I h
 refine wpAny_Call_method_late hbase hfew hline rfl (thn (ho pins s σ H _ I h) fun v s1 ⟨x, H1, I1, r1, ty, q1⟩ => ?_)
 obtain ⟨h1, h2⟩ := tyV_is I1 r1 ty
 refine ⟨T, id, pa, slot, hty, h1, h2, ?_⟩
 have hA := ha cpos pins s1 σ H1 _ I1 q1
 rw [hs] at hA ⊢
 refine Calls.callWith_builtin (by show (false || (backTo cpos (starEach es X.env)).any (·.1)) = false; rw [hplain] <;> rfl) (Calls.evalArgs_plain ?_)
 exact thn hA fun us s2 ⟨vs, H2, I2, r2, q2⟩ => hm pins s2 σ H2 x vs v us Q I2 r1 r2 q2
end
end L2
namespace L2
open PySem PySem.Spec PyProof.Rows
noncomputable def MtM (X : Cx) (id : String) (r : V -> List V -> Hp -> VK -> Prop) : Prop :=
 ∀ (pins : List (Addr × Obj)) (s : Shared) (σ : St) (H : Hp) (x : V) (xs : List V) (v : Value) (us : List Value) (Q : VK), Inv X pins σ H s -> RelV x v -> Vals xs us -> r x xs H Q ->
  wpAny (model X.prog X.w) X.A (call (.builtin id) (v :: us)) (EP X pins σ Q) X.xe s
theorem Vals.one : ∀ {x : V} {us : List Value}, Vals [x] us -> ∃ u, us = [u] /\ RelV x u
 | _, _, .cons r .nil => ⟨_, rfl, r⟩
theorem Vals.zero : ∀ {us : List Value}, Vals [] us -> us = []
 | _, .nil => rfl
theorem Vals.dropLast {xs : List V} {us : List Value} (h : Vals xs us) : Vals xs.dropLast us.dropLast := by
 induction h with
 | nil => exact .nil
 | cons r t ih =>
  cases t with
  | nil => exact .nil
  | cons q t' => exact .cons r ih
theorem Vals.eraseIdx : ∀ {xs : List V} {us : List Value} (i : Nat), Vals xs us -> Vals (xs.eraseIdx i) (us.eraseIdx i)
 | _, _, _, .nil => .nil
 | _, _, 0, .cons _ t => t
 | _, _, i + 1, .cons r t => .cons r (Vals.eraseIdx i t)
theorem Vals.reverse {xs : List V} {us : List Value} (h : Vals xs us) : Vals xs.reverse us.reverse := by
 induction h with
 | nil => exact .nil
 | cons r t ih => rw [List.reverse_cons, List.reverse_cons]; exact Vals.append ih (.cons r .nil)
theorem Vals.rep {xs : List V} {us : List Value} (h : Vals xs us) : ∀ k : Nat, Vals (List.replicate k xs).flatten (List.replicate k us).flatten
 | 0 => .nil
 | k + 1 => by
  rw [List.replicate_succ, List.replicate_succ, List.flatten_cons, List.flatten_cons]
  exact Vals.append h (Vals.rep h k)
theorem erase_last {α : Type} (l : List α) : l.eraseIdx (l.length - 1) = l.dropLast := by
 induction l with
 | nil => rfl
 | cons a r ih =>
  cases r with
  | nil => rfl
  | cons b r =>
   have e : (a :: b :: r).length - 1 = ((b :: r).length - 1) + 1 := by
    have h1 : (a :: b :: r).length = r.length + 2 := rfl
    have h2 : (b :: r).length = r.length + 1 := rfl
    omega
   rw [e, List.eraseIdx_cons_succ, ih]
   all_goals rfl
theorem len_erase {α : Type} : ∀ (l : List α) (i : Nat), (l.eraseIdx i).length <= l.length
 | [], _ => Nat.le_refl _
 | _ :: _, 0 => Nat.le_succ _
 | _ :: r, i + 1 => Nat.succ_le_succ (len_erase r i)
theorem foldl_rep (its : List Value) : ∀ (k : Nat) (acc : List Value),
  List.foldl (fun x1 x2 => x1 ++ x2) acc.toArray (List.replicate k its.toArray) = (acc ++ (List.replicate k its).flatten).toArray
 | 0, acc => by simp
 | k + 1, acc => by
  have e : acc.toArray ++ its.toArray = (acc ++ its).toArray := by simp
  have e2 : (acc ++ its) ++ (List.replicate k its).flatten = acc ++ (List.replicate (k + 1) its).flatten := by
   rw [List.replicate_succ, List.flatten_cons, List.append_assoc]
  rw [<- e2, <- foldl_rep its k (acc ++ its), <- e, List.replicate_succ, List.foldl_cons]
section
variable {X : Cx} {pins : List (Addr × Obj)} {σ : St} {H : Hp} {s : Shared} {l b : Addr} {xs ys zs : List V}
theorem Inv.lset {its its' : List Value} {n : Nat} {f : Array Value -> Array Value} {t' : Nat} (I : Inv X pins σ H s) (hH : H l = some (.lst xs))
  (e : s.heap.get? l = some { cls := .type "list", data := .seq its.toArray n }) (hf : f its.toArray = its'.toArray) (hv : Vals ys its') (hz : ys.length <= sizeLine) :
  Inv X pins σ (upd H l (.lst ys)) { s with heap := s.heap.update l (Obj.mapSeq f), toks := t' } := by
 have q := PySem.IsL.update e f
 rw [hf] at q
 refine I.write (x := l) (e := l) (by rw [hH]; exact trivial) (.inl rfl) (fun b' u hb hu => (Heap.get?_update_other s.heap (Obj.mapSeq f) (Ne.symm hb)).trans hu) ⟨_, q⟩ ?_
 exact ⟨hz, its', _, hv, q⟩
theorem Inv.lnew {its : List Value} {t' : Nat} (I : Inv X pins σ H s) (hv : Vals ys its) (hz : ys.length <= sizeLine) :
  Inv X pins σ (upd H s.heap.objs.size (.lst ys)) { s with heap := s.heap.push { cls := .type "list", data := .seq its.toArray }, toks := t' } :=
 I.laid (fun _ _ q => Heap.get?_push_of_some _ q) (Nat.le_refl _) ⟨hz, its, 0, hv, Heap.get?_push_size _ rfl⟩
theorem Inv.fresh (I : Inv X pins σ H s) : H s.heap.objs.size = none := I.hok.fresh (Nat.le_refl _)
theorem Inv.lstM (I : Inv X pins σ H s) (hH : H l = some (.lst xs)) : xs.length <= sizeLine /\ ∃ (its : List Value) (n : Nat), Vals xs its /\ xs.length = its.length /\ s.heap.get? l = some { cls := .type "list", data := .seq its.toArray n } := by
 obtain ⟨z, its, n, r, e⟩ := I.hok l _ hH
 exact ⟨z, its, n, r, r.length, e⟩
theorem notLongL {n : Nat} (h : n <= sizeLine) : Builtin.List.listTooLong n = false := by
 unfold Builtin.List.listTooLong
 exact decide_eq_false (by omega)
end
section
variable {X : Cx}
noncomputable def rAppend : V -> List V -> Hp -> VK -> Prop := fun x vs H Q => ∃ l xs y, x = .ref l /\ vs = [y] /\ H l = some (.lst xs) /\ xs.length < sizeLine /\ Q .non (upd H l (.lst (xs ++ [y])))
theorem mt_append : MtM X "list.append" rAppend := by
 intro pins s σ H x vs v us Q I rx rv h
 obtain ⟨l, xs, y, rfl, rfl, hH, hz, q⟩ := h
 cases rx
 obtain ⟨u, rfl, ru⟩ := rv.one
 obtain ⟨z, its, n, r, hl, e⟩ := I.lstM hH
 refine call_meets F.slot_list_append ⟨_, e, rfl⟩ F.entry_list_append (F.args_list_append_2 _ _) (PySem.list_append l its.toArray n u (by rw [List.size_toArray]; omega)) ⟨e, ?_⟩
 refine ⟨.non, _, I.lset (its' := its ++ [u]) hH e (by simp) (r.append (.cons ru .nil)) ?_, rfl, q⟩
 rw [List.length_append, List.length_singleton]
 omega
noncomputable def rExtend : V -> List V -> Hp -> VK -> Prop := fun x vs H Q => ∃ l b xs zs, x = .ref l /\ vs = [.ref b] /\ H l = some (.lst xs) /\ H b = some (.lst zs) /\ xs.length + zs.length <= sizeLine /\ Q .non (upd H l (.lst (xs ++ zs)))
theorem mt_extend : MtM X "list.extend" rExtend := by
 intro pins s σ H x vs v us Q I rx rv h
 obtain ⟨l, b, xs, zs, rfl, rfl, hH, hB, hz, q⟩ := h
 cases rx
 obtain ⟨u, rfl, ru⟩ := rv.one
 cases ru
 obtain ⟨z, its, n, r, hl, e⟩ := I.lstM hH
 obtain ⟨z2, its2, n2, r2, hl2, e2⟩ := I.lstM hB
 have hsz : its.toArray.size + its2.toArray.size <= sizeLine := by rw [List.size_toArray, List.size_toArray]; omega
 have hlong : ¬ (!its.toArray.isEmpty && Builtin.List.listTooLong (its.toArray.size + its2.toArray.size)) = true := by
  rw [notLongL hsz, Bool.and_false]
  exact Bool.false_ne_true
 refine call_meets F.slot_list_extend ⟨_, e, rfl⟩ F.entry_list_extend (F.args_list_extend_2 _ _)
  (AutoSeq1.list_extend_list_list_0 l its.toArray n b its2.toArray n2 hlong (by rw [List.size_toArray]; omega) (by omega)) ⟨e, e2, ?_⟩
 refine ⟨.non, _, I.lset (its' := its ++ its2) hH e (by simp) (r.append r2) ?_, rfl, q⟩
 rw [List.length_append]
 omega
noncomputable def rPop : V -> List V -> Hp -> VK -> Prop := fun x vs H Q => ∃ l xs y, x = .ref l /\ vs = [] /\ H l = some (.lst xs) /\ xs[xs.length - 1]? = some y /\ Q y (upd H l (.lst xs.dropLast))
theorem mt_pop : MtM X "list.pop" rPop := by
 intro pins s σ H x vs v us Q I rx rv h
 obtain ⟨l, xs, y, rfl, rfl, hH, hy, q⟩ := h
 cases rx
 have hus := rv.zero
 subst hus
 obtain ⟨z, its, n, r, hl, e⟩ := I.lstM hH
 obtain ⟨u, hu, ru⟩ := r.get hy
 have hy' : its.toArray[its.toArray.size - 1]? = some u := by
  show its.toArray[its.length - 1]? = some u
  rw [<- Array.getElem?_toList, <- hl]
  exact hu
 refine call_meets F.slot_list_pop ⟨_, e, rfl⟩ F.entry_list_pop (F.args_list_pop_1 _) (MeetsSeq.list_pop_last l its.toArray n u hy' (by rw [List.size_toArray]; omega)) ⟨e, ?_⟩
 refine ⟨y, _, I.lset (its' := its.dropLast) hH e ?_ r.dropLast ?_, ru, q⟩
 ·show its.toArray.eraseIdxIfInBounds (its.toArray.size - 1) = its.dropLast.toArray
  rw [List.size_toArray, List.eraseIdxIfInBounds_toArray, erase_last]
 ·rw [List.length_dropLast]
  omega
noncomputable def rPopAt : V -> List V -> Hp -> VK -> Prop := fun x vs H Q => ∃ l xs i k y, x = .ref l /\ vs = [.int i] /\ H l = some (.lst xs) /\ -(2 ^ 63) <= i /\ i < 2 ^ 63 /\ seqIndex? i xs.length = some k /\ xs[k]? = some y /\ Q y (upd H l (.lst (xs.eraseIdx k)))
theorem mt_popAt : MtM X "list.pop" rPopAt := by
 intro pins s σ H x vs v us Q I rx rv h
 obtain ⟨l, xs, i, k, y, rfl, rfl, hH, h1, h2, hk, hy, q⟩ := h
 cases rx
 obtain ⟨u, rfl, ru⟩ := rv.one
 obtain ⟨t, rfl⟩ := ru
 obtain ⟨z, its, n, r, hl, e⟩ := I.lstM hH
 obtain ⟨w, hw, rw'⟩ := r.get hy
 refine call_meets F.slot_list_pop ⟨_, e, rfl⟩ F.entry_list_pop (F.args_list_pop_2 _ _)
  (MeetsSeq.list_pop_at l its.toArray n i t k w (fitsIndex_both h1 h2) (by rw [List.size_toArray, <- hl]; exact hk) (by rw [<- Array.getElem?_toList]; exact hw) (by rw [List.size_toArray]; omega)) ⟨e, ?_⟩
 refine ⟨y, _, I.lset (its' := its.eraseIdx k) hH e ?_ (r.eraseIdx k) ?_, rw', q⟩
 ·show its.toArray.eraseIdxIfInBounds k = (its.eraseIdx k).toArray
  rw [List.eraseIdxIfInBounds_toArray]
 ·have := len_erase xs k
  omega
noncomputable def rCat : R2 := fun x y H Q => ∃ l b xs zs, x = .ref l /\ y = .ref b /\ H l = some (.lst xs) /\ H b = some (.lst zs) /\ xs.length + zs.length <= sizeLine /\ ∀ p, H p = none -> Q (.ref p) (upd H p (.lst (xs ++ zs)))
theorem op_cat : OpR X (binaryOp .Add) rCat := by
 intro pins s σ H x y v u Q I rx ry h
 obtain ⟨l, b, xs, zs, rfl, rfl, hH, hB, hz, q⟩ := h
 cases rx
 cases ry
 obtain ⟨z, its, n, r, hl, e⟩ := I.lstM hH
 obtain ⟨z2, its2, n2, r2, hl2, e2⟩ := I.lstM hB
 refine PySem.P.add_list e e2 ?_ (by rw [List.size_toArray, List.size_toArray]; omega)
 have ea : its.toArray ++ its2.toArray = (its ++ its2).toArray := by simp
 rw [ea]
 exact ⟨.ref _, _, I.lnew (t' := s.toks) (r.append r2) (by rw [List.length_append]; omega), rfl, q _ I.fresh⟩
noncomputable def rRep : R2 := fun x y H Q => ∃ l k xs, x = .ref l /\ y = .int k /\ H l = some (.lst xs) /\ -(2 ^ 63) <= k /\ k < 2 ^ 63 /\ xs.length * k.toNat <= sizeLine /\
 ∀ p, H p = none -> Q (.ref p) (upd H p (.lst (List.replicate k.toNat xs).flatten))
theorem len_rep {α : Type} (xs : List α) (k : Nat) : (List.replicate k xs).flatten.length = k * xs.length := by
 induction k with
 | zero => simp
 | succ k ih => rw [List.replicate_succ, List.flatten_cons, List.length_append, ih, Nat.succ_mul, Nat.add_comm]
theorem op_rep : OpR X (binaryOp .Mult) rRep := by
 intro pins s σ H x y v u Q I rx ry h
 obtain ⟨l, k, xs, rfl, rfl, hH, h1, h2, hz, q⟩ := h
 cases rx
 obtain ⟨t, rfl⟩ := ry
 obtain ⟨z, its, n, r, hl, e⟩ := I.lstM hH
 have hlen : its.toArray.size * k.toNat <= sizeLine := by rw [List.size_toArray, <- hl]; exact hz
 have hcap : ¬ its.toArray.size * k.toNat > (2 ^ 63 - 1) / 8 := by
  have : (sizeLine : Nat) <= (2 ^ 63 - 1) / 8 := by decide
  omega
 have hfit : ¬ (!Builtin.List.listFitsIndex k) = true := by
  rw [fitsIndex_both h1 h2]
  exact Bool.false_ne_true
 have hlong : ¬ Builtin.List.listTooLong (its.toArray.size * k.toNat) = true := by
  rw [notLongL hlen]
  exact Bool.false_ne_true
 have hnew : List.foldl (fun x1 x2 => x1 ++ x2) #[] (List.replicate (if its.toArray.isEmpty = true then 0 else k.toNat) its.toArray) = (List.replicate k.toNat its).flatten.toArray := by
  have f0 : ∀ m : Nat, List.foldl (fun x1 x2 => x1 ++ x2) #[] (List.replicate m its.toArray) = (List.replicate m its).flatten.toArray := fun m => by
   have := foldl_rep its m []
   rw [List.nil_append] at this
   exact this
  rw [f0]
  cases its with
  | nil => simp
  | cons a r' => rw [if_neg (by simp)]
 refine wpAny_binaryOp_repeat_ref (T := "list") (U := "int") (by decide) ⟨_, e, rfl⟩ (fun s' => typeIs_int s' k t) noFill_list_mul F.fills_int_mul F.slot_int_rmul repeat_list F.slot_int_index.lookup
  (call_meets F.slot_int_rmul (typeIs_int s k t) F.entry_int_rmul (F.args_int_rmul_2 _ _) (int___rmul___int_list k t l its.toArray n)
   ⟨e, rfl, ⟨_, e, rfl⟩, call_meets F.slot_list_mul ⟨_, e, rfl⟩ F.entry_list_mul (F.args_list_mul_2 _ _) (AutoListH.list___mul___list_int_3 l its.toArray n k t hfit hcap hlong) ⟨e, ?_⟩⟩)
 rw [hnew]
 exact ⟨.ref _, _, I.lnew (t' := s.toks) (r.rep k.toNat) (by rw [len_rep, Nat.mul_comm]; exact hz), rfl, q _ I.fresh⟩
end
section
variable {prog : Program} {w : World} {A : Around} {E : Value -> Shared -> Prop} {s : Shared}
end
section
variable {X : Cx}
end
end L2
namespace L2
open PySem PySem.Spec PyProof.Rows
theorem Vals.ints : ∀ {ns : List Int} {us : List Value}, Vals (ns.map V.int) us -> IntsAre us ns
 | [], us, h => by
  rw [List.map_nil] at h
  cases h
  exact IntsAre.nil
 | n :: ns, us, h => by
  rw [List.map_cons] at h
  cases h with
  | cons r t =>
   obtain ⟨k, rfl⟩ := r
   exact IntsAre.cons n k (Vals.ints t)
theorem Vals.ref1 {a : Addr} {us : List Value} (r : Vals [V.ref a] us) : us = [Value.ref a] := by
 cases r with
 | cons r t =>
  cases t
  cases r
  rfl
section
variable {prog : Program} {w : World} {A : Around} {E : Value -> Shared -> Prop} {s : Shared} {l : Addr} {its : List Value} {ns : List Int} {Q : Value -> Shared -> Prop}
end
section
variable {X : Cx}
end
section
variable {X : Cx}
end
section
variable {X : Cx}
end
section
variable {X : Cx}
end
mutual
inductive Dp (K : W.Frag) (H : Hp) : V -> PyData -> Prop
 | non : Dp K H .non .none
 | bl (b : Bool) : Dp K H (.bl b) (.bool b)
 | int (i : Int) : Dp K H (.int i) (.int i)
 | str (x : Str) : Dp K H (.str x) (.str x)
 | lst {a : Addr} {xs : List V} {ds : List PyData} : SqL K H a xs -> DpAll K H xs ds -> Dp K H (.ref a) (.list ds)
 | tup {a : Addr} {xs : List V} {ds : List PyData} : SqT K H a xs -> DpAll K H xs ds -> Dp K H (.ref a) (.tuple ds)
inductive DpAll (K : W.Frag) (H : Hp) : List V -> List PyData -> Prop
 | nil : DpAll K H [] []
 | cons {v : V} {vs : List V} {d : PyData} {ds : List PyData} : Dp K H v d -> DpAll K H vs ds -> DpAll K H (v :: vs) (d :: ds)
end
section
variable {X : Cx} {pins : List (Addr × Obj)} {σ : St} {H : Hp} {s : Shared}
mutual
theorem Dp.reads (I : Inv X pins σ H s) : ∀ (d : PyData) (v : V) (u : Value), Dp X.K H v d -> RelV v u -> ∃ as, Reads s.heap u d as
 | .none, _, _, h, r => by
  cases h
  cases r
  exact ⟨_, Reads.none⟩
 | .bool b, _, _, h, r => by
  cases h
  cases r
  exact ⟨_, Reads.bool b⟩
 | .int i, _, _, h, r => by
  cases h
  obtain ⟨t, rfl⟩ := r
  exact ⟨_, Reads.int i t⟩
 | .str x, _, _, h, r => by
  cases h
  obtain ⟨t, rfl⟩ := r
  exact ⟨_, Reads.str x t⟩
 | .list ds, _, _, h, r => by
  cases h with
  | lst hs ha =>
   cases r
   obtain ⟨its, rv, ⟨o, n, ho, hc, _, hd⟩, _⟩ := I.list hs
   obtain ⟨as, hr⟩ := Dp.readsAll I ds _ its ha rv
   exact ⟨_, Reads.list ho hc hd hr⟩
 | .tuple ds, _, _, h, r => by
  cases h with
  | tup hs ha =>
   cases r
   obtain ⟨its, rv, ⟨o, ho, hc, n, hd⟩, _⟩ := I.tuple hs
   obtain ⟨as, hr⟩ := Dp.readsAll I ds _ its ha rv
   exact ⟨_, Reads.tuple ho hc hd hr⟩
 | .dict _, _, _, h, _ => by cases h
theorem Dp.readsAll (I : Inv X pins σ H s) : ∀ (ds : List PyData) (vs : List V) (us : List Value), DpAll X.K H vs ds -> Vals vs us -> ∃ as, ReadsAll s.heap us ds as
 | [], _, _, h, r => by
  cases h
  cases r
  exact ⟨_, ReadsAll.nil⟩
 | d :: ds, _, _, h, r => by
  cases h with
  | cons h1 h2 =>
   cases r with
   | cons r1 r2 =>
    obtain ⟨as, q1⟩ := Dp.reads I d _ _ h1 r1
    obtain ⟨bs, q2⟩ := Dp.readsAll I ds _ _ h2 r2
    exact ⟨_, ReadsAll.cons q1 q2⟩
end
end
section
variable {X : Cx}
end
end L2
namespace L2
open PySem PySem.Spec PyProof.Rows
abbrev CellAt (h : Heap) (c : Addr) (v : Option Value) : Prop := h.IsCell c v
noncomputable def relS (scope sc : Scope) : Scope :=
 { scope with names := scope.names.map fun (n, k) => if (k == .free && sc.kind == .function && sc.names.lookup n == some .cell) then (n, .cell) else (n, k) }
noncomputable def cloFrom (cells : List (Str × Addr)) : List (Str × NameKind) -> List (Str × Addr) -> List (Str × Addr)
 | [], acc => acc
 | (n, k) :: r, acc => if k == .free then cloFrom cells r ((n, (cells.lookup n).getD 0) :: acc) else cloFrom cells r acc
theorem closure_loop (env : Env) (f : Str × NameKind -> List (Str × Addr) -> Sem (ForInStep (List (Str × Addr))))
  (hf : ∀ n k c, f (n, k) c = if k == .free then (do let a <- cellOf env n; pure (.yield ((n, a) :: c))) else pure (.yield c)) :
  ∀ (names : List (Str × NameKind)) (acc : List (Str × Addr)), (∀ y ∈ names, y.2 = .free -> ∃ c, env.cells.lookup y.1 = some c) -> forIn names acc f = pure (cloFrom env.cells names acc)
 | [], acc, _ => by rw [List.forIn_nil]; rfl
 | (n, k) :: r, acc, h => by
  rw [List.forIn_cons, hf]
  have ih := fun acc => closure_loop env f hf r acc fun y hy => h y (List.mem_cons_of_mem _ hy)
  unfold cloFrom
  by_cases hk : (k == NameKind.free) = true
  ·rw [if_pos hk, if_pos hk]
   obtain ⟨c, hc⟩ := h (n, k) List.mem_cons_self (by simpa using hk)
   have e : cellOf env n = pure c := by unfold cellOf; rw [hc]
   rw [e]
   have e2 : (env.cells.lookup n).getD 0 = c := by rw [hc]; rfl
   rw [e2]
   exact ih _
  ·rw [if_neg hk, if_neg hk]
   exact ih _
theorem closure_ok {scope : Scope} {env : Env} (h : ∀ y ∈ scope.names, y.2 = .free -> ∃ c, env.cells.lookup y.1 = some c) : closureFor scope env = pure (cloFrom env.cells scope.names []) := by
 simp only [closureFor]
 rw [closure_loop env _ (fun n k c => rfl) scope.names [] h]
 rfl
theorem mem_lookup {α : Type} : ∀ {l : List (Str × α)} {n : Str} {c : α}, (n, c) ∈ l -> ∃ c', l.lookup n = some c'
 | (k, v) :: r, n, c, h => by
  rw [List.lookup_cons]
  cases hb : n == k with
  | true => exact ⟨_, rfl⟩
  | false =>
   rcases List.mem_cons.mp h with e | h
   ·cases e; simp at hb
   ·exact mem_lookup h
theorem cloFrom_mem {cells : List (Str × Addr)} : ∀ {names : List (Str × NameKind)} {acc : List (Str × Addr)} {n : Str} {c : Addr}, (n, c) ∈ cloFrom cells names acc -> (n, c) ∈ acc \/ ((n, .free) ∈ names /\ c = (cells.lookup n).getD 0)
 | [], _, _, _, h => .inl h
 | (m, k) :: r, acc, n, c, h => by
  unfold cloFrom at h
  split at h
  ·rename_i hk
   have hk : k = .free := by simpa using hk
   rcases cloFrom_mem h with h | ⟨h1, h2⟩
   ·rcases List.mem_cons.mp h with e | h
    ·cases e; exact .inr ⟨hk ▸ List.mem_cons_self, rfl⟩
    ·exact .inl h
   ·exact .inr ⟨List.mem_cons_of_mem _ h1, h2⟩
  ·rcases cloFrom_mem h with h | ⟨h1, h2⟩
   ·exact .inl h
   ·exact .inr ⟨List.mem_cons_of_mem _ h1, h2⟩
theorem cloFrom_acc {cells : List (Str × Addr)} : ∀ {names : List (Str × NameKind)} {acc : List (Str × Addr)} {p : Str × Addr}, p ∈ acc -> p ∈ cloFrom cells names acc
 | [], _, _, h => h
 | (m, k) :: r, acc, p, h => by
  unfold cloFrom
  split
  ·exact cloFrom_acc (List.mem_cons_of_mem _ h)
  ·exact cloFrom_acc h
theorem cloFrom_has {cells : List (Str × Addr)} : ∀ {names : List (Str × NameKind)} {acc : List (Str × Addr)} {n : Str}, (n, .free) ∈ names -> (n, (cells.lookup n).getD 0) ∈ cloFrom cells names acc
 | (m, k) :: r, acc, n, h => by
  unfold cloFrom
  rcases List.mem_cons.mp h with e | h
  ·cases e
   exact cloFrom_acc List.mem_cons_self
  ·split
   ·exact cloFrom_has h
   ·exact cloFrom_has h
theorem cells_mem : ∀ {names : List (Str × NameKind)} {h : Heap} {acc : List (Str × Addr)} {x : Str} {c : Addr}, (x, c) ∈ cellsFrom h.objs.size names acc ->
  (x, c) ∈ acc \/ ((x, .cell) ∈ names /\ h.objs.size <= c /\ CellAt (pushCells h names) c none)
 | [], _, _, _, _, h => .inl h
 | (n, k) :: r, h, acc, x, c, hm => by
  unfold cellsFrom at hm
  unfold pushCells
  split at hm
  ·rename_i hk
   rw [if_pos hk]
   have hk : k = .cell := by simpa using hk
   rw [<- Heap.size_push h { cls := .type "cell", data := .cell none }] at hm
   rcases cells_mem hm with hm | ⟨h1, h2, h3⟩
   ·rcases List.mem_cons.mp hm with e | hm
    ·cases e
     exact .inr ⟨hk ▸ List.mem_cons_self, Nat.le_refl _, _, pushCells_keeps r _ _ _ (Heap.get?_push_size _ rfl), rfl⟩
    ·exact .inl hm
   ·rw [Heap.size_push] at h2
    exact .inr ⟨List.mem_cons_of_mem _ h1, Nat.le_of_succ_le h2, h3⟩
  ·rename_i hk
   rw [if_neg hk]
   rcases cells_mem hm with hm | ⟨h1, h2, h3⟩
   ·exact .inl hm
   ·exact .inr ⟨List.mem_cons_of_mem _ h1, h2, h3⟩
theorem cells_acc : ∀ {names : List (Str × NameKind)} {n : Nat} {acc : List (Str × Addr)} {p : Str × Addr}, p ∈ acc -> p ∈ cellsFrom n names acc
 | [], _, _, _, h => h
 | (m, k) :: r, n, acc, p, h => by
  unfold cellsFrom
  split
  ·exact cells_acc (List.mem_cons_of_mem _ h)
  ·exact cells_acc h
theorem cells_has : ∀ {names : List (Str × NameKind)} {n : Nat} {acc : List (Str × Addr)} {x : Str}, (x, .cell) ∈ names -> ∃ c, (x, c) ∈ cellsFrom n names acc
 | (m, k) :: r, n, acc, x, h => by
  unfold cellsFrom
  rcases List.mem_cons.mp h with e | h
  ·cases e
   exact ⟨n, cells_acc List.mem_cons_self⟩
  ·split
   ·exact cells_has h
   ·exact cells_has h
theorem cells_inj : ∀ {names : List (Str × NameKind)} {h : Heap} {acc : List (Str × Addr)} {x y : Str} {c : Addr}, (∀ p ∈ acc, p.2 < h.objs.size) -> (∀ x y c, (x, c) ∈ acc -> (y, c) ∈ acc -> x = y) ->
  (x, c) ∈ cellsFrom h.objs.size names acc -> (y, c) ∈ cellsFrom h.objs.size names acc -> x = y
 | [], _, _, _, _, _, _, hi, h1, h2 => hi _ _ _ h1 h2
 | (n, k) :: r, h, acc, x, y, c, hl, hi, h1, h2 => by
  unfold cellsFrom at h1 h2
  split at h1
  ·rename_i hk
   rw [if_pos hk] at h2
   rw [<- Heap.size_push h { cls := .type "cell", data := .cell none }] at h1 h2
   refine cells_inj (h := h.push _) (fun p hp => ?_) (fun x y c a b => ?_) h1 h2
   ·rw [Heap.size_push]
    rcases List.mem_cons.mp hp with rfl | hp
    ·exact Nat.lt_succ_self _
    ·exact Nat.lt_succ_of_lt (hl p hp)
   ·rcases List.mem_cons.mp a with e | a <;> rcases List.mem_cons.mp b with e' | b
    ·cases e; cases e'; rfl
    ·cases e; exact absurd (hl _ b) (Nat.lt_irrefl _)
    ·cases e'; exact absurd (hl _ a) (Nat.lt_irrefl _)
    ·exact hi _ _ _ a b
  ·rename_i hk
   rw [if_neg hk] at h2
   exact cells_inj hl hi h1 h2
theorem newEnv_comp {M : Model} {A : Around} {E : Value -> Shared -> Prop} {s : Shared} {scope : Scope} {globals : Addr} {closure : List (Str × Addr)} {qual : Str} {func : Option Addr} {code : Value} {around : Env} {builtins : Addr} {Q : Env -> Shared -> Prop}
  (h : Q (newEnv scope s.heap.objs.size globals (cellsFrom (s.heap.objs.size + 1) scope.names closure) qual func code (some around) builtins)
   { s with heap := pushCells (s.heap.push { cls := .type "dict", data := .dict #[] }) scope.names }) :
  wpAny M A (newFunctionEnv scope globals closure [] qual func code (some around) builtins) Q E s := by
 simp only [newFunctionEnv, Option.isSome_some, if_true]
 refine wpAny_bind (wpAny_alloc ?_)
 refine wpAny_bind (wpAny_layCells _ (fun n k c => rfl) scope.names closure _ _ ?_)
 rw [show ({ s with heap := s.heap.push { cls := .type "dict", data := .dict #[] } } : Shared).heap.objs.size = s.heap.objs.size + 1 from Heap.size_push ..]
 rw [List.forIn_nil]
 exact wpAny_bind (wpAny_pure (wpAny_pure h))
theorem lookup_relS {sc : Scope} : ∀ {names : List (Str × NameKind)} {x : Str} {k : NameKind},
  (names.map fun (n, k) => if (k == NameKind.free && sc.kind == .function && sc.names.lookup n == some .cell) then (n, NameKind.cell) else (n, k)).lookup x = some k ->
  ∃ k', names.lookup x = some k' /\ (k = k' \/ (k' = .free /\ k = .cell))
 | [], _, _, h => by simp at h
 | (n, k₀) :: r, x, k, h => by
  have ih := @lookup_relS sc r x k
  have h' : List.lookup x ((if (k₀ == NameKind.free && sc.kind == .function && sc.names.lookup n == some .cell) = true then (n, NameKind.cell) else (n, k₀)) :: (r.map _)) = some k := h
  cases hx : x == n with
  | true =>
   simp only [List.lookup_cons, hx]
   by_cases hc : (k₀ == NameKind.free && sc.kind == .function && sc.names.lookup n == some .cell) = true
   ·rw [if_pos hc] at h'
    simp only [List.lookup_cons, hx] at h'
    cases h'
    simp only [Bool.and_eq_true, beq_iff_eq] at hc
    exact ⟨k₀, rfl, .inr ⟨hc.1.1, rfl⟩⟩
   ·rw [if_neg hc] at h'
    simp only [List.lookup_cons, hx] at h'
    cases h'
    exact ⟨_, rfl, .inl rfl⟩
  | false =>
   simp only [List.lookup_cons, hx]
   by_cases hc : (k₀ == NameKind.free && sc.kind == .function && sc.names.lookup n == some .cell) = true
   ·rw [if_pos hc] at h'
    simp only [List.lookup_cons, hx] at h'
    exact ih h'
   ·rw [if_neg hc] at h'
    simp only [List.lookup_cons, hx] at h'
    exact ih h'
structure BlkOk (N : List Str) (sc scope : Scope) (own : List (Str × Nat)) : Prop where
 kind : scope.kind = .function
 uniq : ∀ y ∈ scope.names, scope.names.lookup y.1 = some y.2
 ix : ∀ p ∈ own, N[p.2]? = some p.1
 free : ∀ y ∈ scope.names, y.2 = .free -> sc.names.lookup y.1 = some .cell \/ sc.names.lookup y.1 = some .free
 own : ∀ y ∈ scope.names, y.2 = .local \/ y.2 = .cell -> y.1 ∈ own.map (·.1) \/ y.1 ∉ N
noncomputable def wipe (σ : St) : List Nat -> St
 | [] => σ
 | v :: vs => (wipe σ vs).set v none
theorem wipe_length (σ : St) : ∀ vs : List Nat, (wipe σ vs).length = σ.length
 | [] => rfl
 | v :: vs => by unfold wipe; rw [List.length_set, wipe_length σ vs]
theorem wipe_some {σ : St} {i : Nat} {x : V} : ∀ {vs : List Nat}, (wipe σ vs)[i]? = some (some x) -> σ[i]? = some (some x) /\ i ∉ vs
 | [], h => ⟨h, by simp⟩
 | v :: vs, h => by
  unfold wipe at h
  by_cases hi : v = i
  ·subst hi
   by_cases hv : v < (wipe σ vs).length
   ·rw [List.getElem?_set_self hv] at h; cases h
   ·rw [List.getElem?_eq_none (by simpa using hv)] at h; cases h
  ·rw [List.getElem?_set_ne hi] at h
   obtain ⟨h1, h2⟩ := wipe_some h
   exact ⟨h1, by simp only [List.mem_cons, not_or]; exact ⟨fun e => hi e.symm, h2⟩⟩
abbrev Cx.blk (X : Cx) (s : Shared) (H : Hp) (scope : Scope) (cenv : Env) (fp : List Addr) : Cx := { X with s_0 := s, H_0 := H, env := cenv, outer := X.stack, ex := fp, fn := fun x => scope.names.lookup x == some .cell, pn := [], xe := fun _ _ => False }
section
variable {X : Cx} {pins : List (Addr × Obj)} {σ : St} {H : Hp} {s : Shared}
theorem block_start {scope : Scope} {own : List (Str × Nat)} {fp : List Addr} (I : Inv X pins σ H s) (ok : BlkOk X.N X.env.scope scope own) (hN : X.N.Nodup) (hfp : ∀ b ∈ fp, FpOk X pins H b /\ b < s.heap.objs.size) :
  Inv (X.blk s H scope (compEnvC scope (cellsFrom (s.heap.objs.size + 1) scope.names (cloFrom X.env.cells scope.names [])) s.heap.objs.size X.env) fp) [] (wipe σ (own.map (·.2))) H { s with heap := pushCells (s.heap.push { cls := .type "dict", data := .dict #[] }) scope.names } := by
 have hfree : ∀ y ∈ scope.names, y.2 = .free -> ∃ c, X.env.cells.lookup y.1 = some c := fun y hy e => by
  rcases ok.free y hy e with k | k
  ·exact I.ok.has _ (.inl k)
  ·exact I.ok.has _ (.inr k)
 generalize hcenv : compEnvC scope (cellsFrom (s.heap.objs.size + 1) scope.names (cloFrom X.env.cells scope.names [])) s.heap.objs.size X.env = cenv
 have kp : ∀ b o, s.heap.get? b = some o -> (pushCells (s.heap.push { cls := .type "dict", data := .dict #[] }) scope.names).get? b = some o := fun b o e => pushCells_keeps _ _ _ _ (Heap.get?_push_of_some _ e)
 have hL : cenv.locals = s.heap.objs.size := by rw [<- hcenv]; rfl
 have hcl : cenv.cells = cellsFrom (s.heap.objs.size + 1) scope.names (cloFrom X.env.cells scope.names []) := by rw [<- hcenv]; rfl
 have hsc : cenv.scope = relS scope X.env.scope := by rw [<- hcenv]; rfl
 rw [<- Heap.size_push s.heap { cls := .type "dict", data := .dict #[] }] at hcl
 have cm : ∀ {y c}, (y, c) ∈ cloFrom X.env.cells scope.names [] -> X.env.cells.lookup y = some c /\ c < s.heap.objs.size := fun {y c} hm => by
  rcases cloFrom_mem hm with hm | ⟨h1, rfl⟩
  ·cases hm
  ·obtain ⟨c, hc⟩ := hfree _ h1 rfl
   rw [hc]
   obtain ⟨w, z⟩ := I.cell _ _ hc
   exact ⟨rfl, z.lt⟩
 have mem : ∀ {y c}, cenv.cells.lookup y = some c -> (X.env.cells.lookup y = some c /\ c < s.heap.objs.size) \/ (s.heap.objs.size + 1 <= c /\ CellAt (pushCells (s.heap.push { cls := .type "dict", data := .dict #[] }) scope.names) c none) := fun {y c} e => by
  rw [hcl] at e
  rcases cells_mem (PySem.mem_of_lookup e) with hm | ⟨_, h2, h3⟩
  ·exact .inl (cm hm)
  ·rw [Heap.size_push] at h2; exact .inr ⟨h2, h3⟩
 have look : ∀ {y}, scope.names.lookup y = some .free -> ∃ c, cenv.cells.lookup y = some c /\ X.env.cells.lookup y = some c := fun {y} hl => by
  have hy : (y, NameKind.free) ∈ scope.names := PySem.mem_of_lookup hl
  obtain ⟨c', e'⟩ := mem_lookup (cells_acc (names := scope.names) (n := (s.heap.push { cls := .type "dict", data := .dict #[] }).objs.size) (cloFrom_has (cells := X.env.cells) (acc := []) hy))
  rw [<- hcl] at e'
  refine ⟨c', e', ?_⟩
  rw [hcl] at e'
  rcases cells_mem (PySem.mem_of_lookup e') with hm | ⟨h1, _, _⟩
  ·exact (cm hm).1
  ·have := ok.uniq _ h1
   rw [hl] at this; cases this
 have okB : (X.blk s H scope cenv fp).Ok := by
  refine ⟨I.ok.mod, by show cenv.scope.kind = _; rw [hsc]; exact ok.kind, by show cenv.globals = _; rw [<- hcenv]; exact I.ok.glob, by show cenv.builtins = _; rw [<- hcenv]; exact I.ok.blt, by show s.heap.objs.size <= cenv.locals; rw [hL]; exact Nat.le_refl _,
   fun y z c e1 e2 => ?_, fun y hy => ?_, fun y c z e => ?_, I.ok.hd, I.ok.frames, .inl rfl, fun b hb => ⟨?_, fun y c e z => ?_⟩, I.bs, Nat.le_trans I.ok.bsz I.sz, fun b o e hb => ?_, fun b hb z => ?_, I.stack, I.stkFree⟩
  ·have e1 : cenv.cells.lookup y = some c := e1
   have e2 : cenv.cells.lookup z = some c := e2
   rw [hcl] at e1 e2
   refine cells_inj (fun p hp => ?_) (fun y z c a b => I.ok.inj y z c (cm a).1 (cm b).1) (PySem.mem_of_lookup e1) (PySem.mem_of_lookup e2)
   rw [Heap.size_push]
   exact Nat.lt_succ_of_lt (cm (y := p.1) (c := p.2) hp).2
  ·show ∃ c, cenv.cells.lookup y = some c
   have key : ∀ k, cenv.kindOf y = some k -> (k = .cell \/ k = .free) -> ∃ c, cenv.cells.lookup y = some c := fun k hk hk' => by
    unfold Env.kindOf at hk
    rw [hsc] at hk
    obtain ⟨k', e, r⟩ := lookup_relS hk
    have : k' = .cell \/ k' = .free := by
     rcases r with rfl | ⟨rfl, _⟩
     ·exact hk'
     ·exact .inr rfl
    rcases this with rfl | rfl
    ·obtain ⟨c, hm⟩ := cells_has (n := (s.heap.push { cls := .type "dict", data := .dict #[] }).objs.size) (acc := cloFrom X.env.cells scope.names []) (PySem.mem_of_lookup e)
     obtain ⟨c', e'⟩ := mem_lookup hm
     exact ⟨c', by rw [hcl]; exact e'⟩
    ·obtain ⟨c, h1, _⟩ := look e
     exact ⟨c, h1⟩
   rcases hy with hy | hy
   ·exact key _ hy (.inl rfl)
   ·exact key _ hy (.inr rfl)
  ·have z : (scope.names.lookup y == some NameKind.cell) = true := z
   have z : scope.names.lookup y = some .cell := by simpa using z
   have e : cenv.cells.lookup y = some c := e
   rw [hcl] at e
   rcases cells_mem (PySem.mem_of_lookup e) with hm | ⟨_, h2, _⟩
   ·rcases cloFrom_mem hm with hm | ⟨h1, _⟩
    ·cases hm
    ·have q := ok.uniq _ h1
     rw [z] at q; cases q
   ·rw [Heap.size_push] at h2
    exact Nat.le_of_succ_le h2
  ·show b ≠ cenv.locals
   rw [hL]; exact Nat.ne_of_lt (hfp b hb).2
  ·have e : cenv.cells.lookup y = some c := e
   rcases mem e with ⟨h1, _⟩ | ⟨h1, _⟩
   ·exact (hfp b hb).1.2.2.2.2.1 y c h1 z
   ·have h2 : s.heap.objs.size + 1 <= b := by rw [<- z]; exact h1
    exact absurd (Nat.lt_of_lt_of_le (hfp b hb).2 (Nat.le_of_succ_le h2)) (Nat.lt_irrefl _)
  ·rcases (hfp b hb).1.2.2.2.1 with z | z
   ·exact I.ok.noex b o e z
   ·exact absurd (Nat.lt_of_lt_of_le (Heap.lt_size e) (Nat.le_trans I.ok.bsz z)) (Nat.lt_irrefl _)
  ·rcases List.mem_cons.mp (I.stkSub b z) with z | z
   ·exact (hfp b hb).1.2.1 z
   ·exact (hfp b hb).1.2.2.1 z
 refine ⟨okB, rfl, I.bare, Un.kept kp, ⟨fun _ => none, ?_, fun i y av e1 e2 e3 => ?_⟩, fun y c e => ?_, ?_, fun y c e => ?_, fun p hp => ?_, I.hok.kept kp, by rw [wipe_length]; exact I.len⟩
 ·show Heap.Ns _ cenv.locals _
  rw [hL]
  exact Heap.Ns.keeps (Heap.Ns.new ..) fun b o e => pushCells_keeps _ _ _ _ e
 ·obtain ⟨e2, hne⟩ := wipe_some e2
  have hfr : scope.names.lookup y = some .free /\ (cenv.kindOf y = some .cell \/ cenv.kindOf y = some .free) := by
   have key : ∀ k, cenv.scope.names.lookup y = some k -> k = .local \/ k = .cell \/ k = .free -> scope.names.lookup y = some .free /\ (cenv.kindOf y = some .cell \/ cenv.kindOf y = some .free) := fun k hk hk' => by
    have hk0 := hk
    rw [hsc] at hk
    obtain ⟨k', e, r⟩ := lookup_relS hk
    have no : ¬ (k' = .local \/ k' = .cell) := fun hh => by
     rcases ok.own _ (PySem.mem_of_lookup e) hh with e' | e'
     ·obtain ⟨p, hp, hpy⟩ := List.mem_map.mp e'
      have e3 := ok.ix p hp
      have : p.1 = y := hpy
      rw [this] at e3
      exact hne (List.mem_map.mpr ⟨p, hp, nodup_ix hN e3 e1⟩)
     ·exact e' (List.mem_of_getElem? e1)
    rcases r with rfl | ⟨rfl, rfl⟩
    ·rcases hk' with rfl | rfl | rfl
     ·exact absurd (.inl rfl) no
     ·exact absurd (.inr rfl) no
     ·exact ⟨e, .inr hk0⟩
    ·exact ⟨e, .inl hk0⟩
   have e3 : Vis cenv.scope y := e3
   rcases e3 with e3 | e3 | e3
   ·exact key _ e3 (.inl rfl)
   ·exact key _ e3 (.inr (.inl rfl))
   ·exact key _ e3 (.inr (.inr rfl))
  obtain ⟨m, hn, hl⟩ := I.loc
  have hvis : Vis X.env.scope y := (ok.free _ (PySem.mem_of_lookup hfr.1) rfl).elim (fun k => .inr (.inl k)) (fun k => .inr (.inr k))
  obtain ⟨w, r, q⟩ := hl i y av e1 e2 hvis
  refine ⟨w, r, .inr ⟨hfr.2, ?_⟩⟩
  obtain ⟨c, h1, h2⟩ := look hfr.1
  rcases q with ⟨k, _⟩ | ⟨_, c', e', z⟩
  ·have k : X.env.scope.names.lookup y = some .local := k
   rcases ok.free _ (PySem.mem_of_lookup hfr.1) rfl with k' | k' <;> rw [show X.env.scope.names.lookup y = _ from k'] at k <;> cases k
  ·rw [h2] at e'; cases e'
   exact ⟨c, h1, z.keeps kp⟩
 ·have e : cenv.cells.lookup y = some c := e
  rcases mem e with ⟨h1, _⟩ | ⟨_, z⟩
  ·obtain ⟨w, z⟩ := I.cell y c h1
   exact ⟨w, z.keeps kp⟩
  ·exact ⟨_, z⟩
 ·show H cenv.locals = none
  rw [hL]; exact I.hok.fresh (Nat.le_refl _)
 ·have e : cenv.cells.lookup y = some c := e
  rcases mem e with ⟨h1, _⟩ | ⟨h1, _⟩
  ·exact I.freeC y c h1
  ·exact I.hok.fresh (Nat.le_of_succ_le h1)
 ·exact absurd (show p ∈ ([] : List (Addr × Obj)) ++ [] from hp) (by simp)
theorem app_ok {E : Value -> Shared -> Prop} {D : Addr} {xs : List V} {y : V} {v : Value} {Q : Value -> Shared -> Prop} (I : Inv X pins σ H s) (hD : H D = some (.lst xs)) (hz : xs.length < sizeLine) (r : RelV y v)
  (h : ∀ s', Inv X pins σ (upd H D (.lst (xs ++ [y]))) s' -> Q .none s') : wpAny (model X.prog X.w) X.A (call (.builtin "list.append") [.ref D, v]) Q E s := by
 obtain ⟨hz', its, n, ri, e⟩ := I.hok D _ hD
 have hl := ri.length
 refine append_at (hsz := by rw [List.size_toArray]; omega) e fun h' sb ho' => ?_
 refine h { s with heap := h' } (I.write (t' := s.toks) (by rw [hD]; trivial) (.inl rfl) (fun b u hb q => (sb.2 b hb).trans q) ⟨_, ho'⟩ ⟨by rw [List.length_append]; exact hz, its ++ [v], n + 1, ri.append (.cons r .nil), ?_⟩)
 rw [ho']
 simp
noncomputable def PTs (X : Cx) (ifs : List Expr) (t : TT) : Prop :=
 ∀ (pins : List (Addr × Obj)) (s : Shared) (σ : St) (H : Hp) (Q : Bool -> Hp -> Prop), Inv X pins σ H s -> t σ H Q ->
  wpAny (model X.prog X.w) X.A (forIn ifs true fun c r => if r = true then do let ok <- isTrue c X.env (eval c X.env); pure (ForInStep.yield ok) else pure (ForInStep.yield r)) (TP X pins σ Q) X.xe s
noncomputable def tYes : TT := fun _ H Q => Q true H
theorem pts_nil : PTs X [] tYes := fun _ _ _ H _ I h => wpAny_tests_nil ⟨H, I, h⟩
theorem pts_one {c : Expr} {t : TT} (h : PT X c t) : PTs X [c] t := fun pins s σ H Q I hw => wpAny_tests_one (h pins s σ H Q I hw)
end
theorem thnF {α : Type} {t : Sem α} {Q Q' : α -> Shared -> Prop} {M : Model} {A : Around} {E : Value -> Shared -> Prop} {s : Shared} (h : wpAny M A t Q (fun _ _ => False) s) (hQ : ∀ a s, Q a s -> Q' a s) : wpAny M A t Q' E s := wpAny_mono h hQ fun _ _ z => False.elim z
theorem compLoop_any {prog : Program} {w : World} {A : Around} {R : Result -> Shared -> Prop} {s : Shared} {elt target iter : Expr} {ifs : List Expr} {scope : Scope} {pos : Pos} {it acc : Value} {env : Env} (I : Nat -> Shared -> Prop)
  (turn : ∀ n s, I n s -> wpAny (model prog w) A (pyNext it) (fun r s₁ => match r with
   | none => R (.ok .next) s₁
   | some v => wpAny (model prog w) A (letOwnedTupleGo target it v) (fun _ s₁' => wpAny (model prog w) A (assign target env v) (fun _ s₂ =>
     wpAny (model prog w) A (forIn ifs true fun c r => if r = true then do let ok <- isTrue c env (eval c env); pure (ForInStep.yield ok) else pure (ForInStep.yield r)) (fun ok s₃ =>
      if ok = true then wpAny (model prog w) A (eval elt env) (fun x s₄ =>
       wpAny (model prog w) A (call (.builtin "list.append") [acc, x]) (fun _ s₅ => ∃ m, m < n /\ I m s₅) (notedBy (model prog w) A env fun e s' => R (.error e) s') s₄) (notedBy (model prog w) A env fun e s' => R (.error e) s') s₃
      else ∃ m, m < n /\ I m s₃) (notedBy (model prog w) A env fun e s' => R (.error e) s') s₂) (notedBy (model prog w) A env fun e s' => R (.error e) s') s₁') (notedBy (model prog w) A env fun e s' => R (.error e) s') s₁) (notedBy (model prog w) A env fun e s' => R (.error e) s') s)
  (n : Nat) (h : I n s) :
  codeAny (model prog w) A (.compLoop (.ListComp elt [⟨target, iter, ifs, 0⟩] scope pos) 0 it acc env) R s := by
 refine codeAny_loop rfl I (fun n s hI => ?_) n h
 show wpAny _ A ((compTurn (.ListComp elt [⟨target, iter, ifs, 0⟩] scope pos) 0 it acc env).onRaise (fun x => do noteFrame x env; theTreesLotGoes x)) _ _ s
 refine wpAny_noted ?_
 rw [compTurn_list]
 refine wpAny_bind (wpAny_standAt (wpAny_bind (wpAny_mono (turn n s hI) (fun r s₁ h₁ => ?_) fun _ _ h' => h')))
 cases r with
 | none => exact wpAny_pure h₁
 | some v =>
  refine wpAny_bind (wpAny_mono h₁ (fun _ s₁' h₁' => ?_) fun _ _ h' => h')
  refine wpAny_bind (wpAny_mono h₁' (fun _ s₂ h₂ => wpAny_bind (wpAny_mono h₂ (fun ok s₃ h₃ => ?_) fun _ _ h' => h')) fun _ _ h' => h')
  cases ok with
  | false => exact wpAny_pure ⟨rfl, h₃⟩
  | true =>
   exact wpAny_bind (wpAny_bind (wpAny_mono h₃ (fun x s₄ h₄ => wpAny_bind (wpAny_mono h₄ (fun _ s₅ h₅ => wpAny_pure (wpAny_pure ⟨rfl, h₅⟩)) fun _ _ h' => h')) fun _ _ h' => h'))
section
variable {X : Cx}
noncomputable def tLc (wi : TI) (g : TG) (tt : TT) (te : TE) (vs : List Nat) : TE := fun σ H Q => wi σ H fun J H1 => ∀ D, H1 D = none -> ∃ W : Nat -> Nat -> Hp -> Prop, (∃ m, W 0 m (upd H1 D (.lst []))) /\ ∀ i m H, W i m H ->
 (J.stop i H /\ Q (.ref D) H) \/ (J.go i H /\ ∃ Nx : Hp -> Prop, (∀ H', Nx H' -> ∃ m', m' < m /\ W (i + 1) m' H') /\ ∀ x H', J.yld i H x H' -> g x (wipe σ vs) H' fun σ2 H2 => wipe σ2 vs = wipe σ vs /\ tt σ2 H2 fun b H3 =>
  if b = true then te σ2 H3 fun y H4 => ∃ acc, H4 D = some (.lst acc) /\ acc.length < sizeLine /\ Nx (upd H4 D (.lst (acc ++ [y]))) else Nx H3)
theorem lc_core {pins : List (Addr × Obj)} {s : Shared} {σ : St} {H : Hp} {Q : VK} {elt tg iter : Expr} {ifs : List Expr} {scope : Scope} {own : List (Str × Nat)} {pos pos' : Pos} {wi : TI} {g : TG} {tt : TT} {te : TE} {use : Option (Value -> Sem Unit)} {Qf : Value -> Shared -> Prop}
  (hc : X.calm = true) (hN : X.N.Nodup) (I : Inv X pins σ H s) (hi : PI X tg iter wi) (ok : BlkOk X.N X.env.scope scope own)
  (hg : ∀ (s : Shared) (H : Hp) (C : Addr) (cl : List (Str × Addr)) (fp : List Addr), PG (X.blk s H scope (compEnvC scope cl C X.env) fp) tg g) (ht : ∀ (s : Shared) (H : Hp) (C : Addr) (cl : List (Str × Addr)) (fp : List Addr), PTs (X.blk s H scope (compEnvC scope cl C X.env) fp) ifs tt)
  (he : ∀ (s : Shared) (H : Hp) (C : Addr) (cl : List (Str × Addr)) (fp : List Addr), PE (X.blk s H scope (compEnvC scope cl C X.env) fp) elt te) (hs : ∀ x, foldedSetIterable iter X.env x = pure x)
  (h : tLc wi g tt te (own.map (·.2)) σ H Q)
  (hRR : ∀ D C s' m H', Inv X pins σ H' s' -> Q (.ref D) H' -> s'.heap.Ns C m -> FpOk X pins H' C -> compPost (model X.prog X.w) X.A X.xe use Qf (.ref D) C (.ok .next) s') :
  wpAny (model X.prog X.w) X.A (comprehension (.ListComp elt [⟨tg, iter, ifs, 0⟩] scope pos) scope X.env pos' (newList []) false (eval iter X.env) use) Qf X.xe s := by
 have hfree : ∀ y ∈ scope.names, y.2 = .free -> ∃ c, X.env.cells.lookup y.1 = some c := fun y hy e => by
  rcases ok.free y hy e with k | k
  ·exact I.ok.has _ (.inl k)
  ·exact I.ok.has _ (.inr k)
 refine wpAny_comprehension_free (use := use) rfl hs (closure_ok hfree) ok.kind (fun y hy e => by rw [ok.uniq y hy, e])
  (thn (hi pins s σ H _ I h) fun xv s1 hx => thn hx fun itv s2 h2 => ?_)
 obtain ⟨it, fp, tn, J, H2, e, I2, T, st2, f2, q⟩ := h2
 subst e
 refine wpAny_newObj_type (newEnv_comp ?_) (by show 0 <= sizeLine; decide)
 generalize hD : s2.heap.objs.size = D
 have hDn : H2 D = none := I2.hok.fresh (Nat.le_of_eq hD)
 obtain ⟨W, ⟨m0, w0⟩, turn⟩ := q D hDn
 generalize hs3 : ({ s2 with heap := s2.heap.push { cls := .type "list", data := .seq ([] : List Value).toArray } } : Shared) = s3
 have I3 : Inv X pins σ (upd H2 D (.lst [])) s3 := by
  rw [<- hs3]
  refine I2.laid (t' := s2.toks) (fun b o e => Heap.get?_push_of_some _ e) (Nat.le_of_eq hD) ⟨Nat.zero_le _, [], 0, .nil, ?_⟩
  rw [<- hD]
  exact Heap.get?_push_size _ rfl
 have h3 : s3.heap = s2.heap.push { cls := .type "list", data := .seq ([] : List Value).toArray } := by rw [<- hs3]
 have sz : ∀ b ∈ fp, b < s2.heap.objs.size := fun b hb => by
  obtain ⟨o, e, _⟩ := T.obj _ _ st2 b hb
  exact Heap.lt_size e
 have f3 : ∀ b ∈ fp, FpOk X pins (upd H2 D (.lst [])) b /\ b < s3.heap.objs.size := fun b hb => by
  have hlt := sz b hb
  refine ⟨⟨?_, (f2 b hb).2⟩, by rw [h3, Heap.size_push]; exact Nat.lt_succ_of_lt hlt⟩
  rw [upd_ne (by rw [<- hD]; exact Nat.ne_of_lt hlt)]
  exact (f2 b hb).1
 have st3 : tn 0 s3.heap := T.keep _ _ _ st2 fun b _ o e => by rw [h3]; exact Heap.get?_push_of_some _ e
 have I4 := block_start I3 ok hN f3
 have pg := hg s3 (upd H2 D (.lst [])) s3.heap.objs.size (cellsFrom (s3.heap.objs.size + 1) scope.names (cloFrom X.env.cells scope.names [])) fp
 have pt := ht s3 (upd H2 D (.lst [])) s3.heap.objs.size (cellsFrom (s3.heap.objs.size + 1) scope.names (cloFrom X.env.cells scope.names [])) fp
 have pe := he s3 (upd H2 D (.lst [])) s3.heap.objs.size (cellsFrom (s3.heap.objs.size + 1) scope.names (cloFrom X.env.cells scope.names [])) fp
 show codeAny _ _ (.compStart (.ListComp elt [⟨tg, iter, ifs, 0⟩] scope pos) 0 (.ref it) (.ref D) (compEnvC scope (cellsFrom (s3.heap.objs.size + 1) scope.names (cloFrom X.env.cells scope.names [])) s3.heap.objs.size X.env)) (compPost (model X.prog X.w) X.A X.xe use Qf (.ref D) s3.heap.objs.size) { s3 with heap := pushCells (s3.heap.push { cls := .type "dict", data := .dict #[] }) scope.names }
 have nfp : ∀ b ∈ fp, (upd H2 D (.lst [])) b = none := fun b hb => (f3 b hb).1.1
 generalize hce : compEnvC scope (cellsFrom (s3.heap.objs.size + 1) scope.names (cloFrom X.env.cells scope.names [])) s3.heap.objs.size X.env = ce at I4 pg pt pe ⊢
 have cL : ce.locals = s3.heap.objs.size := by subst hce; rfl
 generalize hH3 : upd H2 D (.lst []) = H3 at I3 I4 pg pt pe w0 nfp f3
 generalize hs4 : ({ s3 with heap := pushCells (s3.heap.push { cls := .type "dict", data := .dict #[] }) scope.names } : Shared) = s4 at I4 ⊢
 have st4 : tn 0 s4.heap := T.keep _ _ _ st3 fun b _ o e => by rw [<- hs4]; exact pushCells_keeps _ _ _ _ (Heap.get?_push_of_some _ e)
 have stat : ∀ {σ' : St} {H' : Hp} {s' : Shared}, Inv (X.blk s3 H3 scope ce fp) [] σ' H' s' -> (∀ b ∈ fp, H' b = none) -> ∀ b ∈ fp, FpOk (X.blk s3 H3 scope ce fp) [] H' b := fun {σ' H' s'} I' hn b hb =>
  ⟨hn b hb, (I'.ok.exf b hb).1, I'.ok.exfs b hb, .inl hb, fun x c e => (I'.ok.exf b hb).2 x c e, fun p hp => absurd (show p ∈ ([] : List (Addr × Obj)) ++ [] from hp) (by simp)⟩
 have loop : codeAny (model X.prog X.w) X.A (.compLoop (.ListComp elt [⟨tg, iter, ifs, 0⟩] scope pos) 0 (.ref it) (.ref D) ce) (compPost (model X.prog X.w) X.A X.xe use Qf (.ref D) s3.heap.objs.size) s4 := by
  refine compLoop_any (fun n s' => ∃ i H', Inv (X.blk s3 H3 scope ce fp) [] (wipe σ (own.map (·.2))) H' s' /\ tn i s'.heap /\ (∀ b ∈ fp, H' b = none) /\ W i n H') ?_ m0 ⟨0, H3, I4, st4, nfp, w0⟩
  rintro n s5 ⟨i, H5, I5, st5, n5, w5⟩
  rcases turn i n H5 w5 with ⟨stop, qq⟩ | ⟨go, Nx, hNx, step⟩
  ·have td := T.done (X.blk s3 H3 scope ce fp) rfl rfl rfl hc i [] s5 _ H5 (fun _ _ => False) I5 (stat I5 n5) st5 stop
   refine thnF td fun r s6 ⟨hr, I6⟩ => ?_
   subst hr
   have I7 : Inv X pins σ H5 s6 := I3.call' (ch := fp) I6.os I6.base I6.hok I6.bare fun b hb => ⟨(f3 b hb).1.2.2.2.1, (f3 b hb).1.2.1, (f3 b hb).1.2.2.2.2.1, (f3 b hb).1.2.2.2.2.2⟩
   have nC : H5 s3.heap.objs.size = none := by
    have z : H5 ce.locals = none := I6.free
    rw [cL] at z
    exact z
   obtain ⟨m, hn, _⟩ := I6.loc
   have hn : s6.heap.Ns ce.locals m := hn
   rw [cL] at hn
   exact hRR D s3.heap.objs.size s6 m H5 I7 qq hn (I3.fpOk (Nat.le_refl _) nC)
  ·have ti := T.item (X.blk s3 H3 scope ce fp) rfl rfl rfl hc i [] s5 _ H5 (fun _ _ => False) I5 (stat I5 n5) st5 go
   refine thnF ti fun r s6 ⟨u, hr, h6⟩ => ?_
   subst hr
   refine thnF h6 fun _ s7 ⟨x, H7, I7, r7, y7, st7, n7⟩ => ?_
   have I7' := I7.pinned (stat I7 n7) (T.obj _ _ st7)
   refine thnF (pg _ s7 _ H7 x u _ I7' r7 (step x H7 y7)) fun _ s8 ⟨σ8, H8, I8, hw8, q8⟩ => ?_
   refine thnF (pt _ s8 σ8 H8 _ I8 q8) fun b s9 ⟨H9, I9, q9⟩ => ?_
   have fin : ∀ {s' : Shared} {H' : Hp}, Inv (X.blk s3 H3 scope ce fp) ([] ++ pinsAt fp s7.heap) σ8 H' s' -> Nx H' -> ∃ m, m < n /\ ∃ i H', Inv (X.blk s3 H3 scope ce fp) [] (wipe σ (own.map (·.2))) H' s' /\ tn i s'.heap /\ (∀ b ∈ fp, H' b = none) /\ W i m H' := fun {s' H'} I' nx => by
    obtain ⟨m', hm, w'⟩ := hNx H' nx
    have pin' : ∀ b ∈ fp, ∀ o, s7.heap.get? b = some o -> s'.heap.get? b = some o /\ H' b = none := fun b hb o e =>
     let z := I'.pin (b, o) (List.mem_append_right _ (List.mem_append_right _ (mem_pinsAt hb e)))
     ⟨z.1, z.2.1⟩
    have hl : (wipe σ (own.map (·.2))).length = σ8.length := by rw [<- hw8, wipe_length]
    refine ⟨m', hm, i + 1, H', (I'.unpinned (pins := [])).weak hl (fun j v e => ?_), T.keep _ _ _ st7 fun b hb o e => (pin' b hb o e).1, fun b hb => ?_, w'⟩
    ·rw [<- hw8] at e
     exact (wipe_some e).1
    ·obtain ⟨o, e, _⟩ := T.obj _ _ st7 b hb
     exact (pin' b hb o e).2
   cases b with
   | false =>
    simp only [Bool.false_eq_true, if_false] at q9 ⊢
    exact fin I9 q9
   | true =>
    simp only [if_true] at q9 ⊢
    refine thnF (pe _ s9 σ8 H9 _ I9 q9) fun z s10 ⟨yv, H10, I10, r10, acc, hD10, hz10, nx⟩ => ?_
    exact app_ok (X := X.blk s3 H3 scope ce fp) I10 hD10 hz10 r10 fun s11 I11 => fin I11 nx
 exact codeAny_compStart_list loop (T.self X.A 0 _ _ _ st4 loop)
theorem pe_lc {elt tg iter : Expr} {ifs : List Expr} {scope : Scope} {own : List (Str × Nat)} {pos : Pos} {wi : TI} {g : TG} {tt : TT} {te : TE} (hc : X.calm = true) (hN : X.N.Nodup) (hi : PI X tg iter wi) (ok : BlkOk X.N X.env.scope scope own)
  (hg : ∀ (s : Shared) (H : Hp) (C : Addr) (cl : List (Str × Addr)) (fp : List Addr), PG (X.blk s H scope (compEnvC scope cl C X.env) fp) tg g) (ht : ∀ (s : Shared) (H : Hp) (C : Addr) (cl : List (Str × Addr)) (fp : List Addr), PTs (X.blk s H scope (compEnvC scope cl C X.env) fp) ifs tt)
  (he : ∀ (s : Shared) (H : Hp) (C : Addr) (cl : List (Str × Addr)) (fp : List Addr), PE (X.blk s H scope (compEnvC scope cl C X.env) fp) elt te) (hs : ∀ x, foldedSetIterable iter X.env x = pure x := by intro _; rfl) :
  PE X (.ListComp elt [⟨tg, iter, ifs, 0⟩] scope pos) (tLc wi g tt te (own.map (·.2))) := by
 intro pins s σ H Q I h
 rw [eval_ListComp]
 refine lc_core hc hN I hi ok hg ht he hs h fun D C s' m H' I' q hn f => ⟨m, hn, fun h'' sb => ?_⟩
 obtain ⟨f0, f1, f2, f3, f4, f5⟩ := f
 exact ⟨.ref D, H', I'.turned (t' := s'.toks) (fun b o hb e => (sb.2 b hb).trans e) f0 f1 f3 f4 f5, rfl, q⟩
theorem ps_setLc {i : Nat} {y : Str} {py : Pos} {elt tg iter : Expr} {ifs : List Expr} {scope : Scope} {own : List (Str × Nat)} {pos spos : Pos} {wi : TI} {g : TG} {tt : TT} {te : TE} (hc : X.calm = true) (hN : X.N.Nodup) (hy : X.N[i]? = some y) (hyl : X.env.scope.names.lookup y = some .local)
  (hsw : swapsWith (.ListComp elt [⟨tg, iter, ifs, 0⟩] scope pos) (some (.Name y py)) spos.line X.env = pure true) (hi : PI X tg iter wi) (ok : BlkOk X.N X.env.scope scope own)
  (hg : ∀ (s : Shared) (H : Hp) (C : Addr) (cl : List (Str × Addr)) (fp : List Addr), PG (X.blk s H scope (compEnvC scope cl C X.env) fp) tg g) (ht : ∀ (s : Shared) (H : Hp) (C : Addr) (cl : List (Str × Addr)) (fp : List Addr), PTs (X.blk s H scope (compEnvC scope cl C X.env) fp) ifs tt)
  (he : ∀ (s : Shared) (H : Hp) (C : Addr) (cl : List (Str × Addr)) (fp : List Addr), PE (X.blk s H scope (compEnvC scope cl C X.env) fp) elt te) (hs : ∀ x, foldedSetIterable iter X.env x = pure x := by intro _; rfl) :
  PS X (.Assign [.Name y py] (.ListComp elt [⟨tg, iter, ifs, 0⟩] scope pos) spos) (tAsg (tLc wi g tt te (own.map (·.2))) (gName i)) := by
 intro pins s σ H D I h
 rw [exec_Assign_Name_used _ _ _ _ hsw]
 refine wpAny_bind (wpAny_standAt (wpAny_bind ?_))
 show wpAny _ X.A (do let _ <- comprehension (.ListComp elt [⟨tg, iter, ifs, 0⟩] scope pos) scope X.env (firstIterPos [⟨tg, iter, ifs, 0⟩] pos) (newList []) false (eval iter X.env) (some (assign (.Name y py) X.env))) _ _ s
 have h : tLc wi g tt te (own.map (·.2)) σ H (fun x H1 => gName i x σ H1 D.nx) := h
 refine wpAny_bind (thn (lc_core (Qf := fun _ s' => SP X pins D .next s') hc hN I hi ok hg ht he hs h fun L C s' m H' I' q hn f => ?_) fun _ s' hq => wpAny_pure (wpAny_pure hq))
 show wpAny _ _ (assign (.Name y py) X.env (.ref L)) _ _ _
 refine wpAny_assign_Name (store_ok2 (v := V.ref L) I' hN hy (.inl hyl) rfl (fun s2 I2 ⟨a, sb, ha⟩ => ?_) (.inr hyl))
 obtain ⟨f0, f1, f2, f3, f4, f5⟩ := f
 have haC : C ≠ a := by
  rcases ha with z | z
  ·rw [z]; exact f1
  ·exact fun e => f4 y a z e.symm
 refine ⟨m, hn.sameBut sb haC, fun h3 sb3 => ?_⟩
 exact ⟨_, H', I2.turned (t' := s2.toks) (fun b o hb e => (sb3.2 b hb).trans e) f0 f1 f3 f4 f5, q⟩
theorem sw_true {elt : Expr} {gs : List Comprehension} {scope : Scope} {pos py : Pos} {y : Str} {l : Nat} {env : Env} (hk : env.scope.kind = .function) (hy : env.scope.names.lookup y = some .local) (hl : (py.line == pos.line) = true)
  (ha : (scope.names.any fun (n, k) => n == y && (k == .local || k == .cell)) = false) : swapsWith (.ListComp elt gs scope pos) (some (.Name y py)) l env = pure true := by
 have ky : env.kindOf y = some .local := hy
 have hb : env.blockKind = .function := by unfold Env.blockKind; rw [hk]; rfl
 unfold swapsWith
 simp only [hb, ky, ha, Expr.pos, hl]
 rfl
end
theorem lc_range {lo : Int} {n : Nat} {g : TG} {tt : TT} {te : TE} {vs : List Nat} {σ : St} {H1 : Hp} {D : Addr} {Qd : Hp -> Prop} (Pv : Nat -> Hp -> Prop) (h0 : Pv 0 (upd H1 D (.lst [])))
  (hs : ∀ i H, i < n -> Pv i H -> g (.int (lo + i)) (wipe σ vs) H fun σ2 H2 => wipe σ2 vs = wipe σ vs /\ tt σ2 H2 fun b H3 =>
   if b = true then te σ2 H3 fun y H4 => ∃ acc, H4 D = some (.lst acc) /\ acc.length < sizeLine /\ Pv (i + 1) (upd H4 D (.lst (acc ++ [y]))) else Pv (i + 1) H3) (hd : ∀ H, Pv n H -> Qd H) :
  ∃ W : Nat -> Nat -> Hp -> Prop, (∃ m, W 0 m (upd H1 D (.lst []))) /\ ∀ i m H, W i m H ->
   ((Itr lo n).stop i H /\ Qd H) \/ ((Itr lo n).go i H /\ ∃ Nx : Hp -> Prop, (∀ H', Nx H' -> ∃ m', m' < m /\ W (i + 1) m' H') /\ ∀ x H', (Itr lo n).yld i H x H' -> g x (wipe σ vs) H' fun σ2 H2 => wipe σ2 vs = wipe σ vs /\ tt σ2 H2 fun b H3 =>
    if b = true then te σ2 H3 fun y H4 => ∃ acc, H4 D = some (.lst acc) /\ acc.length < sizeLine /\ Nx (upd H4 D (.lst (acc ++ [y]))) else Nx H3) := by
 refine ⟨fun i m H => m = n - i /\ i <= n /\ Pv i H, ⟨n, by simp, Nat.zero_le _, h0⟩, ?_⟩
 rintro i m H ⟨rfl, hi, p⟩
 by_cases hlt : i < n
 ·refine .inr ⟨hlt, Pv (i + 1), fun H' p' => ⟨n - (i + 1), by omega, rfl, hlt, p'⟩, fun x H' y => ?_⟩
  obtain ⟨e, y⟩ := y
  subst e y
  exact hs i _ hlt p
 ·have e : i = n := by omega
  subst e
  exact .inl ⟨Nat.le_refl _, hd H p⟩
theorem lc_list {K : W.Frag} {a : Addr} {xs : List V} {g : TG} {tt : TT} {te : TE} {vs : List Nat} {σ : St} {H1 : Hp} {D : Addr} {Qd : Hp -> Prop} (Pv : Nat -> Hp -> Prop) (h0 : Pv 0 (upd H1 D (.lst []))) (hl : ∀ i H, i <= xs.length -> Pv i H -> SqL K H a xs)
  (hs : ∀ i x H, xs[i]? = some x -> Pv i H -> g x (wipe σ vs) H fun σ2 H2 => wipe σ2 vs = wipe σ vs /\ tt σ2 H2 fun b H3 =>
   if b = true then te σ2 H3 fun y H4 => ∃ acc, H4 D = some (.lst acc) /\ acc.length < sizeLine /\ Pv (i + 1) (upd H4 D (.lst (acc ++ [y]))) else Pv (i + 1) H3) (hd : ∀ H, Pv xs.length H -> Qd H) :
  ∃ W : Nat -> Nat -> Hp -> Prop, (∃ m, W 0 m (upd H1 D (.lst []))) /\ ∀ i m H, W i m H ->
   ((Itl K a).stop i H /\ Qd H) \/ ((Itl K a).go i H /\ ∃ Nx : Hp -> Prop, (∀ H', Nx H' -> ∃ m', m' < m /\ W (i + 1) m' H') /\ ∀ x H', (Itl K a).yld i H x H' -> g x (wipe σ vs) H' fun σ2 H2 => wipe σ2 vs = wipe σ vs /\ tt σ2 H2 fun b H3 =>
    if b = true then te σ2 H3 fun y H4 => ∃ acc, H4 D = some (.lst acc) /\ acc.length < sizeLine /\ Nx (upd H4 D (.lst (acc ++ [y]))) else Nx H3) := by
 refine ⟨fun i m H => m = xs.length - i /\ i <= xs.length /\ Pv i H, ⟨xs.length, by simp, Nat.zero_le _, h0⟩, ?_⟩
 rintro i m H ⟨rfl, hi, p⟩
 have q := hl i H hi p
 by_cases hlt : i < xs.length
 ·refine .inr ⟨⟨xs, xs[i], q, by simp [hlt]⟩, Pv (i + 1), fun H' p' => ⟨xs.length - (i + 1), by omega, rfl, hlt, p'⟩, fun x H' y => ?_⟩
  obtain ⟨e, y⟩ := y
  subst e
  exact hs i x _ (y xs q) p
 ·have e : i = xs.length := by omega
  subst e
  exact .inl ⟨⟨xs, q, Nat.le_refl _⟩, hd H p⟩
noncomputable def blkC (N : List Str) (sc scope : Scope) (own : List (Str × Nat)) : Bool :=
 (match scope.kind with | .function => true | _ => false) && (scope.names.all fun y => decide (scope.names.lookup y.1 = some y.2)) && (own.all fun p => decide (N[p.2]? = some p.1)) &&
  (scope.names.all fun y => match y.2 with
   | .free => (match sc.names.lookup y.1 with | some .cell => true | some .free => true | _ => false)
   | .local => decide (y.1 ∈ own.map (·.1)) || decide (y.1 ∉ N)
   | .cell => decide (y.1 ∈ own.map (·.1)) || decide (y.1 ∉ N)
   | _ => true)
theorem blkOk_by {N : List Str} {sc scope : Scope} {own : List (Str × Nat)} (h : blkC N sc scope own = true) : BlkOk N sc scope own := by
 unfold blkC at h
 simp only [Bool.and_eq_true, List.all_eq_true, decide_eq_true_eq] at h
 obtain ⟨⟨⟨h1, h2⟩, h3⟩, h4⟩ := h
 refine ⟨?_, h2, h3, fun y hy e => ?_, fun y hy e => ?_⟩
 ·split at h1
  ·assumption
  ·cases h1
 ·have q := h4 y hy
  simp only [e] at q
  split at q <;> first | exact .inl (by assumption) | exact .inr (by assumption) | cases q
 ·have q := h4 y hy
  rcases e with e | e <;> (simp only [e, Bool.or_eq_true, decide_eq_true_eq] at q; exact q)
end L2
namespace L2
open PySem PySem.Spec PyProof.Rows
section
variable {prog : Program} {w : World} {A : Around} {R : Result -> Shared -> Prop} {s : Shared} {elt t0 i0 t1 i1 : Expr} {ifs0 ifs1 : List Expr} {scope : Scope} {pos : Pos} {it acc : Value} {env : Env}
end
section
variable {X : Cx}
end
end L2
namespace L2
open PySem PySem.Spec PyProof.Rows
section
variable {κ : Type} [DecidableEq κ]
noncomputable def valV (kvs : List (κ × V)) (k : κ) : Option V := (kvs.find? fun kv => decide (kv.1 = k)).map (·.2)
noncomputable def putK (kvs : List (κ × V)) (k : κ) (v : V) : List (κ × V) :=
 if (kvs.any fun kv => decide (kv.1 = k)) = true then kvs.map (fun kv => if kv.1 = k then (kv.1, v) else kv) else kvs ++ [(k, v)]
noncomputable def dropK (kvs : List (κ × V)) (k : κ) : List (κ × V) := kvs.filter fun kv => decide (kv.1 ≠ k)
theorem valV_pos {p : κ × V} {r : List (κ × V)} {k : κ} (e : p.1 = k) : valV (p :: r) k = some p.2 := by simp [valV, List.find?_cons, e]
theorem valV_neg {p : κ × V} {r : List (κ × V)} {k : κ} (e : ¬ p.1 = k) : valV (p :: r) k = valV r k := by simp [valV, List.find?_cons, e]
theorem valV_any (k : κ) : ∀ kvs : List (κ × V), (kvs.any fun kv => decide (kv.1 = k)) = (valV kvs k).isSome
 | [] => rfl
 | p :: r => by
  rw [List.any_cons]
  by_cases e : p.1 = k
  ·simp only [valV_pos e, decide_eq_true e, Bool.true_or, Option.isSome_some]
  ·rw [valV_neg e, decide_eq_false e, Bool.false_or]; exact valV_any k r
theorem length_putK (kvs : List (κ × V)) (k : κ) (v : V) : (putK kvs k v).length <= kvs.length + 1 := by
 unfold putK
 split
 ·rw [List.length_map]; omega
 ·rw [List.length_append, List.length_cons, List.length_nil]; omega
theorem RelO.isSome_eq {o : Option V} {u : Option Value} (r : RelO o u) : o.isSome = u.isSome := by
 cases o with
 | none => cases u with
  | none => rfl
  | some _ => exact (show False from r).elim
 | some _ => cases u with
  | none => exact (show False from r).elim
  | some _ => rfl
theorem RelO.getD {o : Option V} {u : Option Value} {d : V} {d' : Value} (r : RelO o u) (rd : RelV d d') : RelV (o.getD d) (u.getD d') := by
 cases o with
 | none => cases u with
  | none => exact rd
  | some _ => exact (show False from r).elim
 | some _ => cases u with
  | none => exact (show False from r).elim
  | some _ => exact r
theorem KV.val {kvs : List (κ × V)} {vs : List (κ × Value)} (r : KV kvs vs) (k : κ) : RelO (valV kvs k) (valueAt vs k) := by
 unfold KV at r
 induction r with
 | nil => exact True.intro
 | @cons p q ps qs h t ih =>
  obtain ⟨h1, h2⟩ := h
  by_cases e : p.1 = k
  ·have e' : q.1 = k := h1.symm.trans e
   have b : valueAt (q :: qs) k = some q.2 := by simp [valueAt, List.find?_cons, e']
   rw [valV_pos e, b]; exact h2
  ·have e' : ¬ q.1 = k := fun z => e (h1.trans z)
   have b : valueAt (q :: qs) k = valueAt qs k := by simp [valueAt, List.find?_cons, e']
   rw [valV_neg e, b]; exact ih
theorem KV.any {kvs : List (κ × V)} {vs : List (κ × Value)} (r : KV kvs vs) (k : κ) : (kvs.any fun kv => decide (kv.1 = k)) = vs.any fun kv => decide (kv.1 = k) := by
 unfold KV at r
 induction r with
 | nil => rfl
 | cons h t ih => rw [List.any_cons, List.any_cons, ih, h.1]
theorem KV.repl {kvs : List (κ × V)} {vs : List (κ × Value)} (r : KV kvs vs) (k : κ) {y : V} {u : Value} (ry : RelV y u) :
  KV (kvs.map fun kv => if kv.1 = k then (kv.1, y) else kv) (vs.map fun kv => if kv.1 = k then (kv.1, u) else kv) := by
 unfold KV at r ⊢
 induction r with
 | nil => exact .nil
 | @cons p q ps qs h t ih =>
  rw [List.map_cons, List.map_cons]
  refine .cons ?_ ih
  obtain ⟨h1, h2⟩ := h
  by_cases e : p.1 = k
  ·rw [if_pos e, if_pos (h1.symm.trans e)]; exact ⟨h1, ry⟩
  ·rw [if_neg e, if_neg (fun z => e (h1.trans z))]; exact ⟨h1, h2⟩
theorem KV.put {kvs : List (κ × V)} {vs : List (κ × Value)} (r : KV kvs vs) (k : κ) {y : V} {u : Value} (ry : RelV y u) : KV (putK kvs k y) (stored vs k u) := by
 unfold putK stored
 rw [r.any k]
 by_cases e : (vs.any fun kv => decide (kv.1 = k)) = true
 ·rw [if_pos e, if_pos e]; exact r.repl k ry
 ·rw [if_neg e, if_neg e]; exact Paired.snoc r ⟨rfl, ry⟩
theorem KV.drop {kvs : List (κ × V)} {vs : List (κ × Value)} (r : KV kvs vs) (k : κ) : KV (dropK kvs k) (without vs k) := by
 unfold KV at r ⊢
 unfold dropK without
 induction r with
 | nil => exact .nil
 | @cons p q ps qs h t ih =>
  obtain ⟨h1, h2⟩ := h
  rw [List.filter_cons, List.filter_cons]
  by_cases e : p.1 = k
  ·have a : ¬ decide (p.1 ≠ k) = true := by simp [e]
   have b : ¬ decide (q.1 ≠ k) = true := by simp [h1.symm.trans e]
   rw [if_neg a, if_neg b]; exact ih
  ·have e' : ¬ q.1 = k := fun z => e (h1.trans z)
   have a : decide (p.1 ≠ k) = true := by simp [e]
   have b : decide (q.1 ≠ k) = true := by simp [e']
   rw [if_pos a, if_pos b]; exact .cons ⟨h1, h2⟩ ih
theorem KV.length {kvs : List (κ × V)} {vs : List (κ × Value)} (r : KV kvs vs) : kvs.length = vs.length := Paired.length r
end
theorem kV_is {P : Program} {w : World} {k : Key} {u : Value} (r : RelV (kV k) u) : (mixKind P w).is k u = true := by
 cases k with
 | inl i => obtain ⟨t, e⟩ := (show ∃ t, u = Value.int i t from r); subst e; exact mixKind_int P w i t
 | inr x => obtain ⟨t, e⟩ := (show ∃ t, u = Value.str x t from r); subst e; exact mixKind_str P w x t
theorem items_are {P : Program} {w : World} : ∀ {ks : List Key} {us : List Value}, Vals (ks.map kV) us -> ItemsAre (mixKind P w) ks us
 | [], _, r => by rw [List.map_nil] at r; cases r; exact .nil
 | k :: ks, _, r => by
  rw [List.map_cons] at r
  cases r with
  | cons h t => exact .cons (kV_is h) (items_are t)
abbrev KT (H : Hp) : List (List Key × V) -> List (List Key × Addr × Value) -> Prop := Paired fun p q => p.1 = q.1 /\ H q.2.1 = some (.tup (p.1.map kV)) /\ RelV p.2 q.2.2
theorem KT.val {H : Hp} {kvs : List (List Key × V)} {xs : List (List Key × Addr × Value)} (r : KT H kvs xs) (k : List Key) : RelO (valV kvs k) ((atKey xs k).map (·.2)) := by
 induction r with
 | nil => exact True.intro
 | @cons p q ps qs h t ih =>
  obtain ⟨h1, _, h2⟩ := h
  by_cases e : p.1 = k
  ·have e' : q.1 = k := h1.symm.trans e
   have b : atKey (q :: qs) k = some q.2 := by simp [atKey, List.find?_cons, e']
   rw [valV_pos e, b]; exact h2
  ·have e' : ¬ q.1 = k := fun z => e (h1.trans z)
   have b : atKey (q :: qs) k = atKey qs k := by simp [atKey, List.find?_cons, e']
   rw [valV_neg e, b]; exact ih
theorem KT.repl {H : Hp} {kvs : List (List Key × V)} {xs : List (List Key × Addr × Value)} (r : KT H kvs xs) (k : List Key) {y : V} {u : Value} (ry : RelV y u) :
  KT H (kvs.map fun kv => if kv.1 = k then (kv.1, y) else kv) (xs.map (putAt k u)) := by
 induction r with
 | nil => exact .nil
 | @cons p q ps qs h t ih =>
  rw [List.map_cons, List.map_cons]
  refine .cons ?_ ih
  obtain ⟨h1, h2, h3⟩ := h
  unfold putAt
  by_cases e : p.1 = k
  ·rw [if_pos e, if_pos (h1.symm.trans e)]; exact ⟨h1, h2, ry⟩
  ·rw [if_neg e, if_neg (fun z => e (h1.trans z))]; exact ⟨h1, h2, h3⟩
theorem KT.put {H : Hp} {kvs : List (List Key × V)} {xs : List (List Key × Addr × Value)} (r : KT H kvs xs) (k : List Key) {b : Addr} {y : V} {u : Value} (hb : H b = some (.tup (k.map kV))) (ry : RelV y u) :
  KT H (putK kvs k y) (storedH xs k b u) := by
 have e : (kvs.any fun kv => decide (kv.1 = k)) = (atKey xs k).isSome := by
  rw [valV_any, (r.val k).isSome_eq, Option.isSome_map]
 unfold putK storedH
 rw [e]
 by_cases q : (atKey xs k).isSome = true
 ·rw [if_pos q, if_pos q]; exact r.repl k ry
 ·rw [if_neg q, if_neg q]; exact Paired.snoc r ⟨rfl, hb, ry⟩
theorem KT.keeps {H H' : Hp} {kvs : List (List Key × V)} {xs : List (List Key × Addr × Value)} (r : KT H kvs xs) (ht : ∀ b ys, H b = some (.tup ys) -> H' b = some (.tup ys)) : KT H' kvs xs :=
 Paired.mapP r fun _ _ z => ⟨z.1, ht _ _ z.2.1, z.2.2⟩
section
variable {P : Program} {w : World} {H : Hp} {h : Heap} {a : Addr}
theorem rd_of {u : HO} (ok : HOk P w H h) (e : Rd H a u) : ObjOk P w H h a u := e.ok ok
theorem dk_rd {kvs : List (Key × V)} (ok : HOk P w H h) (e : Rd H a (.dK kvs)) : kvs.length <= sizeLine /\ (a == sysModules) = false /\ ∃ vs, KV kvs vs /\ h.DictOf (mixKind P w) a vs :=
 show ObjOk P w H h a (.dK kvs) from rd_of ok e
theorem dk_of {kvs : List (Key × V)} (ok : HOk P w H h) (e : H a = some (.dK kvs)) : kvs.length <= sizeLine /\ (a == sysModules) = false /\ ∃ vs, KV kvs vs /\ h.DictOf (mixKind P w) a vs := dk_rd ok (.inl e)
theorem key_of {ks : List Key} (ok : HOk P w H h) (e : H a = some (.tup (ks.map kV))) : (tupleKind (mixKind P w)).is h ks a := by
 obtain ⟨_, its, r, o, h1, h2, n, h3⟩ := (show ObjOk P w H h a (.tup (ks.map kV)) from ok a _ e)
 exact ⟨o, its.toArray, n, h1, h2, h3, by simpa using items_are r⟩
theorem dt_rd {kvs : List (List Key × V)} (ok : HOk P w H h) (e : Rd H a (.dT kvs)) : kvs.length <= sizeLine /\ (a == sysModules) = false /\
  ∃ xs, KT H kvs xs /\ h.DictOfH (tupleKind (mixKind P w)) a xs := by
 obtain ⟨z, y, xs, r, o, es, ep, h1, h2, h3, h4, h5⟩ := (show ObjOk P w H h a (.dT kvs) from rd_of ok e)
 refine ⟨z, y, xs, r, o, es, ep, h1, h2, h3, h4, fun x hx => ?_, h5⟩
 have all : ∀ {l : List (List Key × V)} {m : List (List Key × Addr × Value)}, KT H l m -> ∀ x ∈ m, (tupleKind (mixKind P w)).is h x.1 x.2.1 := by
  intro l m q
  induction q with
  | nil => intro x hx; exact nomatch hx
  | @cons p q ps qs hq t ih =>
   intro x hx
   rcases List.mem_cons.mp hx with e | hx
   ·subst e
    exact key_of ok (by rw [<- hq.1]; exact hq.2.1)
   ·exact ih x hx
 exact all r x hx
theorem dt_of {kvs : List (List Key × V)} (ok : HOk P w H h) (e : H a = some (.dT kvs)) : kvs.length <= sizeLine /\ (a == sysModules) = false /\
  ∃ xs, KT H kvs xs /\ h.DictOfH (tupleKind (mixKind P w)) a xs := dt_rd ok (.inl e)
end
noncomputable def DGet (H : Hp) (a : Addr) (y : V) (r : Option V) : Prop :=
 (∃ kvs k, Rd H a (.dK kvs) /\ y = kV k /\ r = valV kvs k) \/ ∃ kvs k b, Rd H a (.dT kvs) /\ y = .ref b /\ H b = some (.tup (k.map kV)) /\ r = valV kvs k
noncomputable def DPut (H : Hp) (a : Addr) (y v : V) (H' : Hp) : Prop :=
 (∃ kvs k, H a = some (.dK kvs) /\ y = kV k /\ kvs.length < sizeLine /\ H' = upd H a (.dK (putK kvs k v))) \/
 ∃ kvs k b, H a = some (.dT kvs) /\ y = .ref b /\ H b = some (.tup (k.map kV)) /\ kvs.length < sizeLine /\ H' = upd H a (.dT (putK kvs k v))
theorem DGet.k {H : Hp} {a : Addr} {kvs : List (Key × V)} {k : Key} (e : H a = some (.dK kvs)) : DGet H a (kV k) (valV kvs k) := .inl ⟨kvs, k, .inl e, rfl, rfl⟩
theorem DGet.t {H : Hp} {a b : Addr} {kvs : List (List Key × V)} {k : List Key} (e : H a = some (.dT kvs)) (eb : H b = some (.tup (k.map kV))) : DGet H a (.ref b) (valV kvs k) := .inr ⟨kvs, k, b, .inl e, rfl, eb, rfl⟩
theorem DPut.k {H : Hp} {a : Addr} {kvs : List (Key × V)} {k : Key} {v : V} (e : H a = some (.dK kvs)) (hl : kvs.length < sizeLine) : DPut H a (kV k) v (upd H a (.dK (putK kvs k v))) := .inl ⟨kvs, k, e, rfl, hl, rfl⟩
theorem DPut.t {H : Hp} {a b : Addr} {kvs : List (List Key × V)} {k : List Key} {v : V} (e : H a = some (.dT kvs)) (eb : H b = some (.tup (k.map kV))) (hl : kvs.length < sizeLine) :
  DPut H a (.ref b) v (upd H a (.dT (putK kvs k v))) := .inr ⟨kvs, k, b, e, rfl, eb, hl, rfl⟩
section
variable {X : Cx} {pins : List (Addr × Obj)} {σ : St} {H : Hp} {s : Shared} {a : Addr} {y v : V} {u r : Value} {o : Option V} {A : Around} {E : Value -> Shared -> Prop}
theorem Inv.big (I : Inv X pins σ H s) : sysModules < s.heap.objs.size := by
 have h : mainGlobals < s.heap.objs.size := (I.mod.glob.keeps I.bk).lt
 exact Nat.lt_trans (by decide) h
theorem d_getItem {Q : Value -> Shared -> Prop} (hu : A.units + 1 < cLine) (I : Inv X pins σ H s) (g : DGet H a y (some v)) (ry : RelV y u) (h : ∀ w' s', Inv X pins σ H s' -> RelV v w' -> Q w' s') :
  wpAny (model X.prog X.w) A (getItem (.ref a) u) Q E s := by
 rcases g with ⟨kvs, k, e, ey, l⟩ | ⟨kvs, k, b, e, ey, eb, l⟩
 ·subst ey
  obtain ⟨z, hd, vs, rel, dd⟩ := dk_rd I.hok e
  obtain ⟨w', hw, rw'⟩ := RelO.some_of (v := v) (o := valueAt vs k) (by rw [l]; exact rel.val k)
  exact wpAny_getItem_of (kV_is ry) dd.mapOf hw (h w' _ (I.tok _) rw')
 ·subst ey
  cases (show u = Value.ref b from ry)
  obtain ⟨z, hd, xs, rel, dd⟩ := dt_rd I.hok e
  obtain ⟨w', hw, rw'⟩ := RelO.some_of (v := v) (o := (atKey xs k).map (·.2)) (by rw [l]; exact rel.val k)
  obtain ⟨p, hp, hp2⟩ := Option.map_eq_some_iff.mp hw
  refine wpAny_getItem_heap (tupleKind_room_in1 hu) (key_of I.hok eb) dd hp ?_
  rw [hp2]
  exact h w' _ (I.tok _) rw'
theorem d_write {h' : Heap} {t' : Nat} {ob : HO} (I : Inv X pins σ H s) (mu : Mut (H a)) (hs : Heap.SameBut a s.heap h') (he : ∃ q, h'.get? a = some q) (new : ObjOk X.prog X.w (upd H a ob) h' a ob) :
  Inv X pins σ (upd H a ob) { s with heap := h', toks := t' } :=
 I.write (x := a) (e := a) mu (.inl rfl) (fun b q hb z => (hs.2 b hb).trans z) he new
theorem dk_new {P : Program} {w : World} {H' : Hp} {h' : Heap} {kvs : List (Key × V)} {vs : List (Key × Value)} (z : kvs.length <= sizeLine) (hd : (a == sysModules) = false) (rel : KV kvs vs) (dd : h'.DictOf (mixKind P w) a vs) :
  ObjOk P w H' h' a (.dK kvs) := ⟨z, hd, vs, rel, dd⟩
theorem d_setItem {H' : Hp} {Q : Unit -> Shared -> Prop} (hu : A.units + 1 < cLine) (I : Inv X pins σ H s) (g : DPut H a y v H') (ry : RelV y u) (rv : RelV v r) (h : ∀ s', Inv X pins σ H' s' -> Q () s') :
  wpAny (model X.prog X.w) A (setItem (.ref a) u r) Q E s := by
 rcases g with ⟨kvs, k, e, ey, l, eH⟩ | ⟨kvs, k, b, e, ey, eb, l, eH⟩
 ·subst ey eH
  obtain ⟨z, hd, vs, rel, dd⟩ := dk_of I.hok e
  have hz : vs.length <= sizeLine := by rw [<- rel.length]; exact z
  have hl : (putK kvs k v).length <= sizeLine := by have := length_putK kvs k v; omega
  refine wpAny_setItem_pairs (hsz := hz) (kV_is ry) dd fun h' dd' hs => h _ ?_
  have he : ∃ q, h'.get? a = some q := let ⟨q, _, _, hq, _⟩ := dd'; ⟨q, hq⟩
  exact d_write I (by rw [e]; exact True.intro) hs he (dk_new hl hd (rel.put k rv) dd')
 ·subst ey eH
  cases (show u = Value.ref b from ry)
  obtain ⟨z, hd, xs, rel, dd⟩ := dt_of I.hok e
  have hz : xs.length <= sizeLine := by rw [<- Paired.length rel]; exact z
  have hl : (putK kvs k v).length <= sizeLine := by have := length_putK kvs k v; omega
  refine wpAny_setItem_heap (hsz := hz) (tupleKind_room_in1 hu) (key_of I.hok eb) dd fun h' dd' hs => h _ ?_
  obtain ⟨q, es, ep, hq, h2, h3, h4, _, h5⟩ := dd'
  refine d_write I (by rw [e]; exact True.intro) hs ⟨q, hq⟩ ⟨hl, hd, _, (rel.put k eb rv).keeps fun c ys ec => ?_, q, es, ep, hq, h2, h3, h4, h5⟩
  rw [upd_ne (ne_of ec e (fun z => nomatch z))]
  exact ec
end
section
variable {X : Cx} {pins : List (Addr × Obj)} {σ : St} {H : Hp} {s : Shared} {a : Addr} {kvs : List (Key × V)} {k : Key} {u : Value} {A : Around} {E : Value -> Shared -> Prop}
end
noncomputable def NoSl (i : Expr) : Prop := ∀ ov iv, subscripted i false ov iv = operate [ov, iv] (getItem ov iv)
theorem subD_of {prog : Program} {w : World} {A : Around} {E : Value -> Shared -> Prop} {s : Shared} {env : Env} {value slice : Expr} {pos : Pos} {T id : String} {Q : Value -> Shared -> Prop}
  (hl : typeLookup (.type T) "__getitem__" = pure (some (.builtin id))) (hs : NoSl slice)
  (h : wpAny (model prog w) A (eval value env) (fun o s₁ => wpAny (model prog w) A (eval slice env) (fun i s₂ => s₂.TypeIs o T /\ wpAny (model prog w) A (getItem o i) Q E s₂) E s₁) E s) :
  wpAny (model prog w) A (eval (.Subscript value slice pos) env) Q E s := by
 refine Subscript_ (wpAny_mono h (fun o s₁ h₁ => wpAny_mono h₁ (fun i s₂ h₂ => ?_) fun _ _ x => x) fun _ _ x => x)
 obtain ⟨hT, h₂⟩ := h₂
 unfold subscriptTail
 refine wpAny_bind ?_
 rw [getitemInPython_of_ne hT.not_modules]
 refine wpAny_bind (wpAny_specialOf hT hl ?_)
 have fin : wpAny (model prog w) A (subscripted slice false o i) (fun r s₃ => wpAny (model prog w) A (letTemporaryGo value o r >>= fun _ => pure r) Q E s₃) E s₂ := by
  rw [hs o i]
  exact wpAny_operating (wpAny_mono h₂ (fun r s₃ h₃ => wpAny_bind (wpAny_letTemporaryGo (wpAny_pure h₃))) fun _ _ x => x)
 first
  | exact wpAny_pure (wpAny_bind fin)
  | exact wpAny_bind (wpAny_pure (wpAny_bind fin))
  | exact wpAny_bind fin
theorem dict_typeIs {X : Cx} {pins : List (Addr × Obj)} {σ : St} {H : Hp} {s : Shared} {a : Addr} {y : V} {o : Option V} (I : Inv X pins σ H s) (g : DGet H a y o) : s.TypeIs (.ref a) "dict" := by
 rcases g with ⟨kvs, k, e, _, _⟩ | ⟨kvs, k, b, e, _, _, _⟩
 ·obtain ⟨_, _, vs, _, dd⟩ := dk_rd I.hok e
  exact dd.typeIs
 ·obtain ⟨_, _, xs, _, dd⟩ := dt_rd I.hok e
  exact dd.typeIs
noncomputable def tDGet (td ty : TE) : TE := fun σ H Q => td σ H fun x H1 => ty σ H1 fun y H2 => ∃ a v, x = .ref a /\ DGet H2 a y (some v) /\ Q v H2
noncomputable def sDPut (td ty tv : TE) : TS := fun D σ H => tv σ H fun v H1 => td σ H1 fun x H2 => ty σ H2 fun y H3 => ∃ a H4, x = .ref a /\ DPut H3 a y v H4 /\ D.nx σ H4
section
variable {X : Cx} {o i e value : Expr} {pos pos' tpos : Pos} {td ty tv : TE}
theorem pe_dget (hu : X.A.units + 1 < cLine) (ho : PE X o td) (hi : PE X i ty) (hs : NoSl i) : PE X (.Subscript o i pos) (tDGet td ty) := by
 intro pins s σ H Q I h
 refine subD_of PySem.F.slot_dict_getitem.lookup hs (thn (ho pins s σ H _ I h) fun u s1 ⟨x, H1, I1, rx, q1⟩ => thn (hi pins s1 σ H1 _ I1 q1) fun iv s2 ⟨y, H2, I2, ry, a, v, ex, g, q2⟩ => ?_)
 subst ex
 obtain rfl : u = Value.ref a := rx
 exact ⟨dict_typeIs I2 g, d_getItem hu I2 g ry fun w' s3 I3 rw' => ⟨v, H2, I3, rw', q2⟩⟩
theorem ps_dput (hu : X.A.units + 1 < cLine) (ho : PE X o td) (hi : PE X i ty) (hv : PE X value tv) (hs : swapsWith value (some (.Subscript o i pos')) pos.line X.env = pure false) :
  PS X (.Assign [.Subscript o i pos'] value pos) (sDPut td ty tv) := by
 intro pins s σ H D I h
 refine wpAny_Assign_Subscript (thn (hv pins s σ H _ I h) fun r s1 ⟨v, H1, I1, rv, q1⟩ => thn (ho pins s1 σ H1 _ I1 q1) fun u s2 ⟨x, H2, I2, rx, q2⟩ => thn (hi pins s2 σ H2 _ I2 q2) fun iv s3 ⟨y, H3, I3, ry, a, H4, ex, g, q3⟩ => ?_) hs
 subst ex
 obtain rfl : u = Value.ref a := rx
 exact d_setItem hu I3 g ry rv fun s4 I4 => ⟨σ, H4, I4, q3⟩
end
theorem dk_empty {P : Program} {w : World} {H : Hp} (h : Heap) (hb : sysModules < h.objs.size) : ObjOk P w H (h.push { cls := .type "dict", data := .dict #[] }) h.objs.size (.dK []) :=
 ⟨Nat.zero_le _, beq_eq_false_iff_ne.mpr (Ne.symm (Nat.ne_of_lt hb)), [], .nil, Heap.DictOf.new h⟩
noncomputable def tDNewK : TE := fun _ H Q => ∀ p, H p = none -> Q (.ref p) (upd H p (.dK []))
section
variable {X : Cx} {pos : Pos}
theorem pe_dnewK : PE X (.Dict [] [] pos) tDNewK := fun pins s σ H Q I h =>
 wpAny_Dict_empty ⟨.ref s.heap.objs.size, _, I.laid (a := s.heap.objs.size) (o := .dK []) (t' := s.toks) (fun _ _ q => Heap.get?_push_of_some _ q) (Nat.le_refl _) (dk_empty s.heap I.big), rfl, h _ (I.hok.fresh (Nat.le_refl _))⟩
end
noncomputable def tPairs : List (TE × TE) -> St -> Hp -> (List (V × V) -> Hp -> Prop) -> Prop
 | [], _, H, Q => Q [] H
 | (tk, tv) :: r, σ, H, Q => tk σ H fun x H1 => tv σ H1 fun y H2 => tPairs r σ H2 fun ps H3 => Q ((x, y) :: ps) H3
abbrev VV : List (V × V) -> List (Value × Value) -> Prop := Paired fun p q => RelV p.1 q.1 /\ RelV p.2 q.2
noncomputable def PPs (X : Cx) (pos : Pos) (keys : List (Option Expr)) (values : List Expr) (trs : List (TE × TE)) : Prop :=
 ∀ (pins : List (Addr × Obj)) (s : Shared) (σ : St) (H : Hp) (Q : List (V × V) -> Hp -> Prop), Inv X pins σ H s -> tPairs trs σ H Q ->
  wpAny (model X.prog X.w) X.A (evalPairs (pairTrees keys values X.env pos)) (fun vs s' => ∃ ps H', Inv X pins σ H' s' /\ VV ps vs /\ Q ps H') X.xe s
theorem pps_nil {X : Cx} {pos : Pos} : PPs X pos [] [] [] := fun pins s σ H Q I h => pairTrees_nil_walk ⟨[], H, I, .nil, h⟩
theorem pps_cons {X : Cx} {pos : Pos} {k v : Expr} {ks : List (Option Expr)} {vs : List Expr} {tk tv : TE} {trs : List (TE × TE)} (hk : PE X k tk) (hv : PE X v tv) (hr : PPs X pos ks vs trs) :
  PPs X pos (some k :: ks) (v :: vs) ((tk, tv) :: trs) := fun pins s σ H Q I h =>
 pairTrees_cons_walk (thn (hk pins s σ H _ I h) fun u s1 ⟨x, H1, I1, rx, q1⟩ => thn (hv pins s1 σ H1 _ I1 q1) fun w2 s2 ⟨y, H2, I2, ry, q2⟩ =>
  thn (hr pins s2 σ H2 _ I2 q2) fun ws s3 ⟨ps, H3, I3, rel, q3⟩ => ⟨(x, y) :: ps, H3, I3, .cons ⟨rx, ry⟩ rel, q3⟩)
noncomputable def mergeK (kvs more : List (Key × V)) : List (Key × V) := more.foldl (fun acc kv => putK acc kv.1 kv.2) kvs
theorem KV.merge : ∀ {more : List (Key × V)} {rs : List (Key × Value)} {kvs : List (Key × V)} {vs : List (Key × Value)}, KV more rs -> KV kvs vs -> KV (mergeK kvs more) (merged vs rs) := by
 intro more rs kvs vs r
 unfold KV at r
 induction r generalizing kvs vs with
 | nil => intro q; exact q
 | @cons p q ps qs h t ih =>
  intro r0
  have e : KV (putK kvs p.1 p.2) (stored vs q.1 q.2) := by
   have := r0.put p.1 h.2
   rw [<- h.1]; exact this
  exact ih e
theorem length_mergeK : ∀ (more kvs : List (Key × V)), (mergeK kvs more).length <= kvs.length + more.length
 | [], kvs => by show kvs.length <= kvs.length + 0; omega
 | p :: r, kvs => by
  have h1 := length_mergeK r (putK kvs p.1 p.2)
  have h2 := length_putK kvs p.1 p.2
  show (mergeK (putK kvs p.1 p.2) r).length <= _
  rw [List.length_cons]; omega
theorem carries_of {P : Program} {w : World} : ∀ {kvs : List (Key × V)} {ws : List (Value × Value)}, VV (kvs.map fun kv => (kV kv.1, kv.2)) ws -> ∃ rs, Carries (mixKind P w) ws rs /\ KV kvs rs
 | [], _, r => by rw [List.map_nil] at r; cases r; exact ⟨[], True.intro, .nil⟩
 | p :: kvs, _, r => by
  rw [List.map_cons] at r
  cases r with
  | @cons a b as bs h t =>
   obtain ⟨rs, c, q⟩ := carries_of (P := P) (w := w) t
   obtain ⟨b1, b2⟩ := b
   exact ⟨(p.1, b2) :: rs, ⟨kV_is h.1, rfl, c⟩, .cons ⟨rfl, h.2⟩ q⟩
noncomputable def tDisp (trs : List (TE × TE)) : TE := fun σ H Q => ∀ p, H p = none -> tPairs trs σ (upd H p (.dK [])) fun ps H2 => H2 p = some (.dK []) /\ ∃ kvs : List (Key × V), ps = kvs.map (fun kv => (kV kv.1, kv.2)) /\ kvs.length <= 15 /\ Q (.ref p) (upd H2 p (.dK (mergeK [] kvs)))
theorem pe_disp {X : Cx} {pos : Pos} {keys : List (Option Expr)} {values : List Expr} {trs : List (TE × TE)} (h : PPs X pos keys values trs) (hall : keys.all (·.isSome) = true) (hl : keys.length = values.length) (h0 : keys ≠ [])
  (h15 : keys.length <= 15) : PE X (.Dict keys values pos) (tDisp trs) := by
 intro pins s σ H Q I q
 have hn := I.hok.fresh (Nat.le_refl s.heap.objs.size)
 have I1 := I.laid (a := s.heap.objs.size) (o := .dK []) (h' := s.heap.push { cls := .type "dict", data := .dict #[] }) (t' := s.toks) (fun _ _ q => Heap.get?_push_of_some _ q) (Nat.le_refl _) (dk_empty s.heap I.big)
 refine wpAny_Dict_walk (knd := mixKind X.prog X.w) hall hl h0 h15 (thn (h pins _ σ _ _ I1 (q _ hn)) fun ws s2 ⟨ps, H2, I2, rel, e, kvs, ep, lk, q2⟩ => ?_)
 subst ep
 obtain ⟨rs, c, rk⟩ := carries_of (P := X.prog) (w := X.w) rel
 obtain ⟨z, hd, vs0, r0, dd⟩ := dk_of I2.hok e
 cases r0
 refine ⟨rs, c, dd, fun h' dd' hs => ⟨.ref s.heap.objs.size, _, ?_, rfl, q2⟩⟩
 have hz : (mergeK [] kvs).length <= sizeLine := by
  have h1 := length_mergeK kvs []
  rw [List.length_nil] at h1
  rw [sizeLine_eq]; omega
 have he : ∃ q, h'.get? s.heap.objs.size = some q := let ⟨q, _, _, hq, _⟩ := dd'; ⟨q, hq⟩
 exact d_write I2 (by rw [e]; exact True.intro) hs he (dk_new hz hd (rk.merge .nil) dd')
structure M2 (X : Cx) (o : Expr) (m : Str) (apos : Pos) (e f : Expr) (cpos : Pos) : Prop where
 base : attributeBase o m X.env (eval o X.env) = eval o X.env
 few : ((backTo cpos (starEach [e, f] X.env)).all (fun x => !x.1) && (backToKw cpos (keywordEach [] X.env)).all (fun x => x.1.isSome)
  && decide (([e, f] : List Expr).length + ([] : List Keyword).length + (if ([] : List Keyword).isEmpty then 0 else 1) < 30)) = true
 line : (apos.endLine == cpos.line) = true
 trees : backTo cpos (starEach [e, f] X.env) = [(false, eval e X.env), (false, eval f X.env)]
noncomputable def IsD (H : Hp) (a : Addr) : Prop := (∃ kvs, Rd H a (.dK kvs)) \/ ∃ kvs, Rd H a (.dT kvs)
theorem isD_at {X : Cx} {pins : List (Addr × Obj)} {σ : St} {H : Hp} {s : Shared} {a : Addr} (I : Inv X pins σ H s) (d : IsD H a) :
  s.TypeIs (.ref a) "dict" /\ (∀ b, Value.ref a = .ref b -> ∃ ob, s.heap.get? b = some ob /\ ob.dict = none) /\ (a == sysModules) = false := by
 rcases d with ⟨kvs, e⟩ | ⟨kvs, e⟩
 ·obtain ⟨_, hd, vs, _, dd⟩ := dk_rd I.hok e
  refine ⟨dd.typeIs, fun b q => ?_, hd⟩
  cases q
  obtain ⟨ob, _, _, h1, h2, _⟩ := dd
  exact ⟨ob, h1, h2.2.1⟩
 ·obtain ⟨_, hd, xs, _, dd⟩ := dt_rd I.hok e
  refine ⟨dd.typeIs, fun b q => ?_, hd⟩
  cases q
  obtain ⟨ob, _, _, h1, h2, _⟩ := dd
  exact ⟨ob, h1, h2.2.1⟩
section
variable {X : Cx} {pins : List (Addr × Obj)} {σ : St} {H : Hp} {s : Shared} {a : Addr} {y d : V} {u r : Value} {o : Option V} {A : Around} {E : Value -> Shared -> Prop}
theorem d_get2 {Q : Value -> Shared -> Prop} (hu : A.units + 1 < cLine) (I : Inv X pins σ H s) (g : DGet H a y o) (ry : RelV y u) (rd : RelV d r) (h : ∀ w' s', Inv X pins σ H s' -> RelV (o.getD d) w' -> Q w' s') :
  wpAny (model X.prog X.w) A (call (.builtin "dict.get") [.ref a, u, r]) Q E s := by
 rcases g with ⟨kvs, k, e, ey, l⟩ | ⟨kvs, k, b, e, ey, eb, l⟩
 ·subst ey
  obtain ⟨z, hd, vs, rel, dd⟩ := dk_rd I.hok e
  refine call_meetsIn PySem.F.slot_dict_get dd.typeIs PySem.F.entry_dict_get (PySem.F.args_dict_get_3 _ _ _) (meets_dict_get_default (mixKind X.prog X.w) a (kV_is ry) hd r) ⟨_, dd.mapOf, h _ _ (I.tok _) ?_⟩
  rw [l]
  exact (rel.val k).getD rd
 ·subst ey
  cases (show u = Value.ref b from ry)
  obtain ⟨z, hd, xs, rel, dd⟩ := dt_rd I.hok e
  refine call_meetsIn PySem.F.slot_dict_get dd.typeIs PySem.F.entry_dict_get (PySem.F.args_dict_get_3 _ _ _) (meetsH_dict_get_default (tupleKind (mixKind X.prog X.w)) a b hd r) ⟨tupleKind_room_in1 hu, k, xs, key_of I.hok eb, dd, h _ _ (I.tok _) ?_⟩
  rw [l]
  exact (rel.val k).getD rd
end
noncomputable def tDGet2 (td ty tx : TE) : TE := fun σ H Q => td σ H fun x H1 => ∃ a, x = .ref a /\ IsD H1 a /\ ty σ H1 fun y H2 => tx σ H2 fun z H3 => ∃ o, DGet H3 a y o /\ Q (o.getD z) H3
section
variable {X : Cx} {o e f : Expr} {apos cpos : Pos} {td ty tx : TE}
theorem pe_dget2 (hu : X.A.units + 1 < cLine) (ho : PE X o td) (he : PE X e ty) (hf : PE X f tx) (m : M2 X o "get" apos e f cpos) : PE X (.Call (.Attribute o "get" apos) [e, f] [] cpos) (tDGet2 td ty tx) := by
 intro pins s σ H Q I h
 refine wpAny_Call_method m.base m.few m.line PySem.F.plainAttrs_dict PySem.F.slot_dict_get PySem.F.type_dict_get (thn (ho pins s σ H _ I h) fun u s1 ⟨x, H1, I1, rx, a, ex, d, q1⟩ => ?_)
 subst ex
 obtain rfl : u = Value.ref a := rx
 obtain ⟨t1, t2, _⟩ := isD_at I1 d
 refine ⟨t1, t2, ?_⟩
 rw [m.trees]
 refine Calls.callWith_builtin rfl (Calls.evalArgs_plain (Calls.spliced_cons (thn (he pins s1 σ H1 _ I1 q1) fun iv s2 ⟨y, H2, I2, ry, q2⟩ =>
  Calls.spliced_cons (thn (hf pins s2 σ H2 _ I2 q2) fun fv s3 ⟨z, H3, I3, rz, ov, g, q3⟩ => Calls.spliced_nil ?_))))
 exact d_get2 hu I3 g ry rz fun w' s4 I4 rw' => ⟨_, H3, I4, rw', q3⟩
end
section
variable {X : Cx} {pins : List (Addr × Obj)} {σ : St} {H : Hp} {s : Shared} {a : Addr} {kvs : List (Key × V)} {A : Around} {E : Value -> Shared -> Prop}
end
section
variable {X : Cx} {pins : List (Addr × Obj)} {σ : St} {H : Hp} {s : Shared} {a : Addr} {y : V} {u : Value} {A : Around} {E : Value -> Shared -> Prop}
end
end L2
namespace L2
open PySem PySem.Spec PyProof.Rows
section
variable {prog : Program} {w : World} {A : Around} {E : Value -> Shared -> Prop}
end
section
variable {X : Cx}
end
end L2
namespace L2
open PySem PySem.Spec PyProof.Rows
section
variable {X : Cx} {pins : List (Addr × Obj)} {σ : St} {H : Hp} {s : Shared} {h' : Heap}
theorem Inv.lock {d : Addr} {u : HO} (I : Inv X pins σ H s) (h : H d = some u) (mu : Mut (some u)) : ∃ od, Inv X pins σ (upd H d (.frz od u)) s := by
 have x := I.hok d u h
 have ex : ∃ od, s.heap.get? d = some od := by
  cases u with
  | lst xs => obtain ⟨_, _, _, _, e⟩ := x; exact ⟨_, e⟩
  | dK kvs => obtain ⟨_, _, _, _, o, _, _, e, _⟩ := x; exact ⟨o, e⟩
  | dT kvs => obtain ⟨_, _, _, _, o, _, _, e, _⟩ := x; exact ⟨o, e⟩
  | set S n => obtain ⟨o, _, _, _, e, _⟩ := x; exact ⟨o, e⟩
  | ins C dx fs => obtain ⟨_, _, _, e, _⟩ := x; exact ⟨_, e⟩
  | ext φ => obtain ⟨_, ⟨_, e⟩, _⟩ := x; exact ⟨_, e⟩
  | _ => exact False.elim mu
 obtain ⟨od, e⟩ := ex
 have new : ObjOk X.prog X.w (upd H d (.frz od u)) s.heap d (.frz od u) := by
  refine ⟨e, x.stay (fun b v _ q => q) (fun b q => ?_) fun b xs q => ?_⟩
  ·rw [upd_ne (fun z => by rw [z, h] at q; cases q; exact mu)]; exact q
  ·rw [upd_ne (fun z => by rw [z, h] at q; cases q; exact mu)]; exact q
 exact ⟨od, I.write (x := d) (e := d) (t' := s.toks) (h' := s.heap) (by rw [h]; exact mu) (.inl rfl) (fun b v _ q => q) ⟨od, e⟩ new⟩
theorem Inv.nofrz {d : Addr} {u : HO} (I : Inv X pins σ H s) (h : H d = some u) (mu : Mut (some u)) : ∀ o' u', X.H_0 d ≠ some (.frz o' u') := fun o' u' e => by
 have q := I.base.frzs d o' u' e
 rw [h] at q
 cases q
 exact mu
theorem Inv.unlock {d : Addr} {od : Obj} {u : HO} (I : Inv X pins σ H s) (h : H d = some (.frz od u)) (hn : ∀ o' u', X.H_0 d ≠ some (.frz o' u')) : Inv X pins σ (upd H d u) s := by
 have neH : ∀ b o, H b = some o -> (∀ o' u', o ≠ .frz o' u') -> b ≠ d := fun b o e hne z => by
  rw [z, h] at e
  cases e
  exact hne _ _ rfl
 have neN : ∀ b, H b = none -> b ≠ d := fun b e z => by rw [z, h] at e; cases e
 refine ⟨I.ok, I.os, I.bare, ⟨I.base.keep, I.base.slot, fun b o e n hx => ?_, I.base.there, fun b xs e => ?_, fun b o x e => ?_, fun b ps e => ?_⟩, I.loc, I.cell, ?_, fun x c e => ?_, fun p hp => ?_, fun b o e => ?_, I.len⟩
 ·rw [upd_ne (neN b (I.base.free b o e n hx))]; exact I.base.free b o e n hx
 ·have q := I.base.tups b xs e
  rw [upd_ne (neH b _ q (fun _ _ z => nomatch z))]; exact q
 ·have q := I.base.frzs b o x e
  rw [upd_ne (fun z => by rw [z] at e; exact hn _ _ e)]; exact q
 ·obtain ⟨m, q⟩ := I.base.tbls b ps e
  exact ⟨m, by rw [upd_ne (neH b _ q (fun _ _ z => nomatch z))]; exact q⟩
 ·rw [upd_ne (neN _ I.free)]; exact I.free
 ·rw [upd_ne (neN c (I.freeC x c e))]; exact I.freeC x c e
 ·obtain ⟨e, n, r⟩ := I.pin p hp
  exact ⟨e, by rw [upd_ne (neN _ n)]; exact n, r⟩
 ·by_cases hb : b = d
  ·rw [hb, upd_same] at e
   cases e
   rw [hb]
   obtain ⟨_, x⟩ := I.hok d _ h
   exact x.stay (fun c v _ q => q) (fun c q => by rw [upd_ne (neH c _ q (fun _ _ z => nomatch z))]; exact q) fun c xs q => by rw [upd_ne (neH c _ q (fun _ _ z => nomatch z))]; exact q
  ·rw [upd_ne hb] at e
   exact (I.hok b o e).stay (fun c v _ q => q) (fun c q => by rw [upd_ne (neH c _ q (fun _ _ z => nomatch z))]; exact q) fun c xs q => by rw [upd_ne (neH c _ q (fun _ _ z => nomatch z))]; exact q
end
noncomputable def tLock (t : TS) : TS := fun D σ H => ∃ d u, H d = some u /\ Mut (some u) /\ ∀ od, t ⟨fun σ' H' => H' d = some (.frz od u) /\ D.nx σ' (upd H' d u), fun v H' => H' d = some (.frz od u) /\ D.rt v (upd H' d u), fun σ' H' => H' d = some (.frz od u) /\ D.bk σ' (upd H' d u), fun σ' H' => H' d = some (.frz od u) /\ D.ct σ' (upd H' d u)⟩ σ (upd H d (.frz od u))
section
variable {X : Cx}
theorem ps_lock {st : Stmt} {t : TS} (h : PS X st t) : PS X st (tLock t) := by
 intro pins s σ H D I hw
 obtain ⟨d, u, hd, mu, hw⟩ := hw
 obtain ⟨od, I1⟩ := I.lock hd mu
 refine thn (h pins s σ _ _ I1 (hw od)) fun f s1 q => ?_
 cases f with
 | next => obtain ⟨σ', H', I2, e, q⟩ := q; exact ⟨σ', _, I2.unlock e (I.nofrz hd mu), q⟩
 | brk => obtain ⟨σ', H', I2, e, q⟩ := q; exact ⟨σ', _, I2.unlock e (I.nofrz hd mu), q⟩
 | cont => obtain ⟨σ', H', I2, e, q⟩ := q; exact ⟨σ', _, I2.unlock e (I.nofrz hd mu), q⟩
 | ret v => obtain ⟨x, σ', H', I2, r, e, q⟩ := q; exact ⟨x, σ', _, I2.unlock e (I.nofrz hd mu), r, q⟩
theorem pi_one {tg : Expr} {pins : List (Addr × Obj)} {σ : St} {H : Hp} {s : Shared} {R : It -> Hp -> Prop} {J : It} {tn : Nat -> Heap -> Prop} {tk : Nat} (I : Inv X pins σ H s) (o : Obj)
  (T : Turn X.prog X.w X.K tg J [s.heap.objs.size] s.heap.objs.size tn) (st : tn 0 (s.heap.push o)) (q : R J H) : PIE X pins σ tg R (.ref s.heap.objs.size) { s with heap := s.heap.push o, toks := tk } := by
 refine ⟨s.heap.objs.size, [s.heap.objs.size], tn, J, H, rfl, I.kept fun b ob e => Heap.get?_push_of_some _ e, T, st, fun b hb => ?_, q⟩
 have e : b = s.heap.objs.size := by simpa using hb
 subst e
 exact I.fpOk (Nat.le_refl _) (I.hok.fresh (Nat.le_refl _))
end
noncomputable def Itc (lo c : Int) (n : Nat) : It := ⟨fun i _ => i < n, fun i H x H' => H' = H /\ x = .int (lo + (i : Nat) * c), fun i _ => n <= i⟩
theorem turn_rangeC {P : Program} {w : World} {K : W.Frag} {tg : Expr} (it : Addr) (lo c : Int) (n : Nat) : Turn P w K tg (Itc lo c n) [it] it (fun i h => IsRangeIter h it (lo + (i : Nat) * c) ((n : Int) - (i : Nat)) c) where
 mem := by simp
 obj := fun i h st b hb => by
  have e : b = it := by simpa using hb
  subst e
  exact ⟨_, st, fun v z => nomatch z⟩
 keep := fun i h h' st k => k it (by simp) _ st
 item := by
  intro X hP hw hK hc i pins s σ H E I hf st hg
  subst hP hw hK
  obtain ⟨f0, f1, f2, f3, f4, f5⟩ := hf it (by simp)
  have W := Walks.range (prog := X.prog) (w := X.w) (I.ok.hd hc) it lo c n
  refine W.item i s _ _ hg st fun v h' tk hv st' kk => ?_
  obtain ⟨t, rfl⟩ := hv
  have I1 : Inv X pins σ H { s with heap := h', toks := tk } := I.turned (fun b o hb e => kk b o (by simpa using hb) e) f0 f1 f3 f4 f5
  exact ⟨_, rfl, go_of (s := { s with heap := h', toks := tk }) (n := "range_iterator") st' rfl rfl (by decide) ⟨.int (lo + (i : Nat) * c), H, I1, ⟨t, rfl⟩, ⟨rfl, rfl⟩, st', fun b hb => (hf b hb).1⟩⟩
 done := by
  intro X hP hw hK hc i pins s σ H E I hf st hg
  subst hP hw hK
  obtain ⟨f0, f1, f2, f3, f4, f5⟩ := hf it (by simp)
  exact wpAny_pyNext_range_end (I.ok.hd hc) st (by have : n <= i := hg; omega) fun h' eb => ⟨rfl, I.turned (t' := s.toks) (fun b o hb e => eb b o hb e) f0 f1 f3 f4 f5⟩
 self := fun A i s Q E st h => wpAny_pyIter_rangeiter st h
noncomputable def RgC (i j c : Int) (n : Nat) : Prop := c ≠ 0 /\ c.natAbs < 1073741824 /\ Builtin.Range.small i j c = true /\ Builtin.Range.rangeSize i j c = n
theorem RgC.neg {i j : Int} (ha : -(2 ^ 62) <= i) (ha' : i < 2 ^ 62) (hb : -(2 ^ 62) <= j) (hb' : j < 2 ^ 62) : RgC i j (-1) (i - j).toNat :=
 ⟨by decide, by decide, W.small_down ha ha' hb hb', W.rangeSize_downNat i j⟩
noncomputable def iRng3 (ta : TA) : TI := fun σ H R => ta σ H fun vs H1 => ∃ (i j c : Int) (n : Nat), vs = [.int i, .int j, .int c] /\ RgC i j c n /\ R (Itc i c n) H1
section
variable {X : Cx} {tg : Expr}
theorem pi_range3 {a b c : Expr} {ta : TA} {p pos : Pos} (hg : Gl X "range") (hm : X.mg "range" = none) (ha : PA X [a, b, c] ta)
  (hs : starEach [a, b, c] X.env = (false, eval a X.env) :: starEach [b, c] X.env := by rfl) (hpl : (backTo pos (starEach [b, c] X.env)).any (·.1) = false := by rfl) :
  PI X tg (.Call (.Name "range" p) [a, b, c] [] pos) (iRng3 ta) := by
 intro pins s σ H R I h
 refine Call_ (ld_blt I hg hm boot_range (PyProof.Rows.callWith_type1 (thn (ha pos pins s σ H _ I h) fun us s1 ⟨vs, H1, I1, r1, q1⟩ => ?_) hs hpl))
 obtain ⟨i, j, k, n, e, ⟨c0, c1, c2, c3⟩, q⟩ := q1
 subst e
 cases r1 with
 | cons r rr =>
  cases rr with
  | cons r' rr =>
   cases rr with
   | cons r'' rr =>
    cases rr
    obtain ⟨t, rfl⟩ := r
    obtain ⟨t', rfl⟩ := r'
    obtain ⟨t'', rfl⟩ := r''
    refine call_range_3 c0 ?_ (.inl (PyProof.noPylong_small c1))
    refine wpAny_pyIter_range (IsRange.new ..) c2 ?_
    have I2 : Inv X pins σ H1 { s1 with heap := s1.heap.push { cls := .type "range", data := .fields #[.int i t, .int j t', .int k t''] } } := I1.kept (t' := s1.toks) fun b o e => Heap.get?_push_of_some _ e
    refine pi_one (tk := s1.toks) I2 _ (turn_rangeC _ i k n) ?_ q
    have e1 : i + ((0 : Nat) : Int) * k = i := by simp
    have e2 : (n : Int) - ((0 : Nat) : Int) = Builtin.Range.rangeSize i j k := by rw [c3]; simp
    show IsRangeIter _ _ (i + ((0 : Nat) : Int) * k) ((n : Int) - ((0 : Nat) : Int)) k
    rw [e1, e2]
    exact Heap.get?_push_size _ rfl
end
theorem for_rangeC {lo c : Int} {n : Nat} {g : TG} {tb : TS} {D : Ends} {σ : St} {H : Hp} (Pv : Nat -> St -> Hp -> Prop) (h0 : Pv 0 σ H)
  (hs : ∀ i σ H, i < n -> Pv i σ H -> g (.int (lo + (i : Nat) * c)) σ H fun σ2 H2 => tb { D with nx := Pv (i + 1), ct := Pv (i + 1), bk := D.nx } σ2 H2) (hd : ∀ σ H, Pv n σ H -> D.nx σ H) :
  ∃ W : Nat -> Nat -> St -> Hp -> Prop, (∃ m, W 0 m σ H) /\ ∀ i m σ H, W i m σ H ->
   ((Itc lo c n).stop i H /\ D.nx σ H) \/ ((Itc lo c n).go i H /\ ∃ N : St -> Hp -> Prop, (∀ σ' H', N σ' H' -> ∃ m', m' < m /\ W (i + 1) m' σ' H') /\ ∀ x H', (Itc lo c n).yld i H x H' -> g x σ H' fun σ2 H2 => tb { D with nx := N, ct := N, bk := D.nx } σ2 H2) := by
 refine ⟨fun i m σ H => m = n - i /\ i <= n /\ Pv i σ H, ⟨n, by simp, Nat.zero_le _, h0⟩, ?_⟩
 rintro i m σ H ⟨rfl, hi, p⟩
 by_cases hlt : i < n
 ·refine .inr ⟨hlt, Pv (i + 1), fun σ' H' p' => ⟨n - (i + 1), by omega, rfl, hlt, p'⟩, fun x H' y => ?_⟩
  obtain ⟨e, y⟩ := y
  subst e y
  exact hs i σ _ hlt p
 ·have e : i = n := by omega
  subst e
  exact .inl ⟨Nat.le_refl _, hd σ H p⟩
section
variable {X : Cx} {tg : Expr}
end
section
variable {prog : Program} {w : World} {A : Around} {E : Value -> Shared -> Prop} {s : Shared}
theorem iter_keys {d : Addr} {o : Obj} {es : Array DictEntry} {ep : Nat} {Q : Value -> Shared -> Prop} (hd : (d == sysModules) = false) (ho : s.heap.get? d = some o) (hc : o.ExactDict) (hdat : o.data = .dict es ep)
  (hQ : Q (.ref s.heap.objs.size) { s with heap := s.heap.push { cls := .type "dict_keyiterator", data := .fields #[.ref d, .int 0 0, .int es.size 0, .int ep 0] } }) :
  wpAny (model prog w) A (pyIter (.ref d)) Q E s := by
 have hT : s.TypeIs (.ref d) "dict" := ⟨o, ho, hc.1⟩
 refine wpAny_pyIter_slot hT F.slot_dict_iter (wpAny_call_entry F.slot_dict_iter hT F.entry_dict_iter ?_ (F.args_dict_iter_1 _))
 unfold Builtin.«dict.__iter__»
 refine wpAny_bind ?_
 unfold Builtin.Dict.dictSlotNone
 refine wpAny_bind (wpAny_notOrdered_dict hT ?_)
 show wpAny _ _ (pure (Value.ref d)) _ _ s
 refine wpAny_pure ?_
 show wpAny _ _ (Builtin.Dict.showsAll d >>= _) _ _ s
 unfold Builtin.Dict.showsAll
 rw [if_neg (by rw [hd]; exact Bool.false_ne_true)]
 refine wpAny_bind (wpAny_pure ?_)
 refine wpAny_bind (wpAny_dictEntries ho hdat ?_)
 refine wpAny_bind (wpAny_dictEpoch ho hdat ?_)
 refine wpAny_bind (wpAny_newObj_type (wpAny_pure ⟨_, rfl, "dict_keyiterator", _, ⟨_, Heap.get?_push_size _ rfl, rfl⟩, F.slot_dict_keyiterator_next.lookup, ?_⟩))
 simpa [rawInt] using hQ
theorem next_key_item {it d : Addr} {i n ep : Nat} {od : Obj} {es : Array DictEntry} {en : DictEntry} {Q : Option Value -> Shared -> Prop} (hit : s.heap.IsKeyIter it d i n ep) (hod : s.heap.get? d = some od) (hdd : od.data = .dict es ep)
  (hsz : es.size = n) (hx : es[i]? = some en) (hQ : ∀ h', h'.IsKeyIter it d (i + 1) n ep -> Heap.SameBut it s.heap h' -> Q (some en.key) { s with heap := h' }) : wpAny (model prog w) A (pyNext (.ref it)) Q E s := by
 obtain ⟨o, ho, hc, hd⟩ := id hit
 unfold pyNext
 refine wpAny_bind (wpAny_attempt (wpAny_callSpecial?_slot (name := Str.ofString "__next__") hit.typeIs F.slot_dict_keyiterator_next
  (wpAny_call_entry F.slot_dict_keyiterator_next hit.typeIs F.entry_dict_keyiterator_next ?_ (F.args_dict_keyiterator_next_1 _))))
 refine wpAny_bind (wpAny_pure ?_)
 refine wpAny_bind ?_
 refine wpAny_bind ?_
 first | refine wpAny_bind (wpAny_typeNameOfWhole_keyiter hit.typeIs (wpAny_pure ?_)) | refine wpAny_bind (wpAny_typeNameOf_keyiter hit.typeIs (wpAny_pure ?_))
 refine wpAny_bind (wpAny_fieldsOf ho hd ?_)
 have hown : Builtin.Dict_items.ownsTuple "dict_keyiterator" = false := by decide
 simp only [hown, Bool.false_eq_true, if_false]
 show wpAny _ _ (if (Value.ref d == Value.none) = true then _ else _) _ _ s
 rw [if_neg (show ¬ ((Value.ref d == Value.none) = true) from Bool.false_ne_true)]
 refine wpAny_bind (wpAny_pure ?_)
 refine wpAny_bind (wpAny_dictEntries hod hdd ?_)
 rw [if_neg (by rw [hsz]; simp)]
 refine wpAny_bind (wpAny_pure ?_)
 refine wpAny_bind (wpAny_dictEpoch hod hdd ?_)
 rw [if_neg (by simp)]
 refine wpAny_pure ?_
 obtain ⟨hlt', hen⟩ := Array.getElem?_eq_some_iff.mp hx
 simp only [show ¬ ((i : Int) < 0) from by omega, if_false, Int.toNat_natCast, Array.getElem?_eq_getElem hlt']
 refine wpAny_bind ?_
 first | refine wpAny_bind (wpAny_typeNameOfWhole_keyiter hit.typeIs (wpAny_pure ?_)) | refine wpAny_bind (wpAny_typeNameOf_keyiter hit.typeIs (wpAny_pure ?_))
 refine wpAny_bind (wpAny_isOneOf_keyiter hit.typeIs ?_)
 show wpAny _ _ (setField (.ref it) 1 (rawInt ((i : Int) + 1)) >>= _) _ _ s
 refine wpAny_bind (wpAny_setField ho hd (by simp) ?_)
 have hit' : (s.heap.update it (Obj.mapFields (·.setIfInBounds 1 (rawInt ((i : Int) + 1))))).IsKeyIter it d (i + 1) n ep :=
  ⟨_, Heap.get?_update_self _ ho (Obj.isFreed_of_fields (Obj.data_mapFields hd _)), (Obj.cls_mapFields ..).trans hc, by rw [Obj.data_mapFields hd]; simp [rawInt]⟩
 refine wpAny_bind (wpAny_holding ?_)
 refine wpAny_bind (wpAny_isOneOf_keyiter (s := { s with heap := s.heap.update it (Obj.mapFields (·.setIfInBounds 1 (rawInt ((i : Int) + 1)))) }) hit'.typeIs ?_)
 show wpAny _ _ (pure es[i].key) _ _ _
 rw [hen]
 exact wpAny_pure (wpAny_pure ⟨_, rfl, wpAny_pure (hQ _ hit' (Heap.SameBut.update ..))⟩)
theorem next_key_end {it d : Addr} {i n ep : Nat} {od : Obj} {es : Array DictEntry} {Q : Option Value -> Shared -> Prop} (hh : A.handled = none) (hit : s.heap.IsKeyIter it d i n ep) (hod : s.heap.get? d = some od) (hdd : od.data = .dict es ep)
  (hsz : es.size = n) (hge : n <= i) (hQ : ∀ h', Heap.ExtBut it s.heap h' -> Q none { s with heap := h' }) : wpAny (model prog w) A (pyNext (.ref it)) Q E s := by
 obtain ⟨o, ho, hc, hd⟩ := id hit
 unfold pyNext
 refine wpAny_bind (wpAny_attempt (wpAny_callSpecial?_slot (name := Str.ofString "__next__") hit.typeIs F.slot_dict_keyiterator_next
  (wpAny_call_entry F.slot_dict_keyiterator_next hit.typeIs F.entry_dict_keyiterator_next ?_ (F.args_dict_keyiterator_next_1 _))))
 refine wpAny_bind (wpAny_pure ?_)
 refine wpAny_bind ?_
 refine wpAny_bind ?_
 first | refine wpAny_bind (wpAny_typeNameOfWhole_keyiter hit.typeIs (wpAny_pure ?_)) | refine wpAny_bind (wpAny_typeNameOf_keyiter hit.typeIs (wpAny_pure ?_))
 refine wpAny_bind (wpAny_fieldsOf ho hd ?_)
 have hown : Builtin.Dict_items.ownsTuple "dict_keyiterator" = false := by decide
 simp only [hown, Bool.false_eq_true, if_false]
 show wpAny _ _ (if (Value.ref d == Value.none) = true then _ else _) _ _ s
 rw [if_neg (show ¬ ((Value.ref d == Value.none) = true) from Bool.false_ne_true)]
 refine wpAny_bind (wpAny_pure ?_)
 refine wpAny_bind (wpAny_dictEntries hod hdd ?_)
 rw [if_neg (by rw [hsz]; simp)]
 refine wpAny_bind (wpAny_pure ?_)
 refine wpAny_bind (wpAny_dictEpoch hod hdd ?_)
 rw [if_neg (by simp)]
 refine wpAny_pure ?_
 have hge' : es.size <= i := by rw [hsz]; exact hge
 simp only [show ¬ ((i : Int) < 0) from by omega, if_false, Int.toNat_natCast, Array.getElem?_eq_none hge']
 refine wpAny_bind ?_
 first | refine wpAny_bind (wpAny_typeNameOfWhole_keyiter hit.typeIs (wpAny_pure ?_)) | refine wpAny_bind (wpAny_typeNameOf_keyiter hit.typeIs (wpAny_pure ?_))
 show wpAny _ _ (setField (.ref it) 0 .none >>= _) _ _ s
 refine wpAny_bind (wpAny_setField ho hd (by simp) ?_)
 show wpAny _ _ (newExc (.type "StopIteration") [] >>= _) _ _ _
 refine wpAny_bind ?_
 simp only [newExc, newTuple]
 refine wpAny_bind (wpAny_newObj_type ?_ (by size_fits))
 refine wpAny_bind (m := firstArgMember _ _) (wpAny_of_eq (a := Value.none) (by first | rfl | (simp only [firstArgMember]; rfl)) ?_)
 refine wpAny_newObj_type ?_ (by size_fits)
 simp only [raiseNew]
 refine wpAny_bind (wpAny_handled ?_)
 rw [show A.in1.handled = none from hh]
 refine wpAny_bind (wpAny_pure (wpAny_throw ?_))
 refine wpAny_bind (wpAny_isInstance (T := "StopIteration") (b := true) ⟨_, Heap.get?_push_size _ rfl, rfl⟩ isSubtype_stop ?_)
 exact wpAny_pure (hQ _ (((Heap.SameBut.update ..).extBut.push _).push _))
end
theorem kv_get {κ : Type} {kvs : List (κ × V)} {vs : List (κ × Value)} (h : KV kvs vs) : ∀ {i : Nat} {k : κ} {v : V}, kvs[i]? = some (k, v) -> ∃ u, vs[i]? = some (k, u) /\ RelV v u := by
 unfold KV at h
 induction h with
 | nil => intro i k v e; simp at e
 | @cons a b l₁ l₂ r t ih =>
  intro i k v e
  cases i with
  | zero =>
   simp only [List.getElem?_cons_zero, Option.some.injEq] at e
   subst e
   refine ⟨b.2, ?_, r.2⟩
   simp only [List.getElem?_cons_zero]
   exact congrArg some (Prod.ext r.1.symm rfl)
  | succ j =>
   simp only [List.getElem?_cons_succ] at e ⊢
   exact ih e
theorem paired_get {α β : Type} {G : α -> β -> Prop} {l₁ : List α} {l₂ : List β} (h : Paired G l₁ l₂) : ∀ {i : Nat} {a : α}, l₁[i]? = some a -> ∃ b, l₂[i]? = some b /\ G a b := by
 induction h with
 | nil => intro i a e; simp at e
 | @cons a b l₁ l₂ r t ih =>
  intro i a' e
  cases i with
  | zero =>
   simp only [List.getElem?_cons_zero, Option.some.injEq] at e
   subst e
   exact ⟨b, rfl, r⟩
  | succ j =>
   simp only [List.getElem?_cons_succ] at e ⊢
   exact ih e
theorem relV_key {k : Key} {u : Value} (h : keyIs k u = true) : RelV (kV k) u := by
 rcases keyIs_shape h with ⟨i, t, rfl, rfl⟩ | ⟨x, t, rfl, rfl⟩
 ·exact ⟨t, rfl⟩
 ·exact ⟨t, rfl⟩
section
variable {X : Cx} {pins : List (Addr × Obj)} {σ : St} {H : Hp} {s : Shared} {d : Addr} {o : Obj}
theorem Inv.frzK {kvs : List (Key × V)} (I : Inv X pins σ H s) (h : H d = some (.frz o (.dK kvs))) :
  (d == sysModules) = false /\ s.heap.get? d = some o /\ o.ExactDict /\ ∃ (es : Array DictEntry) (ep : Nat) (vs : List (Key × Value)), o.data = .dict es ep /\ es.size = kvs.length /\ KV kvs vs /\ s.heap.DictAt (mixKind X.prog X.w) d vs ep := by
 obtain ⟨hd, z, hs, vs, kv, o', es, ep, ho, hx, hdt, r⟩ := I.hok d _ h
 rw [hd] at ho
 cases ho
 refine ⟨hs, hd, hx, es, ep, vs, hdt, ?_, kv, o, es, hd, hx, hdt, r⟩
 have l1 := r.2.1.length
 have l2 : kvs.length = vs.length := Paired.length kv
 rw [Array.length_toList] at l1
 omega
theorem Inv.frzT {kvs : List (List Key × V)} (I : Inv X pins σ H s) (h : H d = some (.frz o (.dT kvs))) :
  (d == sysModules) = false /\ s.heap.get? d = some o /\ o.ExactDict /\ ∃ (es : Array DictEntry) (ep : Nat), o.data = .dict es ep /\ es.size = kvs.length /\
   ∀ (i : Nat) (k : List Key) (v : V), kvs[i]? = some (k, v) -> ∃ (en : DictEntry) (q : Addr), es[i]? = some en /\ en.key = .ref q /\ H q = some (.tup (k.map kV)) := by
 obtain ⟨hd, z, hs, xs, pr, o', es, ep, ho, hx, hdt, he, _⟩ := I.hok d _ h
 rw [hd] at ho
 cases ho
 refine ⟨hs, hd, hx, es, ep, hdt, ?_, fun i k v e => ?_⟩
 ·have l1 : es.size = xs.length := size_of_entries he
  have l2 : kvs.length = xs.length := Paired.length pr
  omega
 ·obtain ⟨b, hb, e1, e2, _⟩ := paired_get pr e
  have q := entry_at he i
  rw [hb] at q
  exact ⟨_, b.2.1, q, rfl, e2⟩
end
noncomputable def Itk (d : Addr) (o : Obj) (kvs : List (Key × V)) : It :=
 ⟨fun i H => H d = some (.frz o (.dK kvs)) /\ i < kvs.length, fun i H x H' => H' = H /\ ∃ k v, kvs[i]? = some (k, v) /\ x = kV k, fun i H => H d = some (.frz o (.dK kvs)) /\ kvs.length <= i⟩
noncomputable def Itkt (d : Addr) (o : Obj) (kvs : List (List Key × V)) : It :=
 ⟨fun i H => H d = some (.frz o (.dT kvs)) /\ i < kvs.length, fun i H x H' => H' = H /\ ∃ (k : List Key) (v : V) (q : Addr), kvs[i]? = some (k, v) /\ x = .ref q /\ H q = some (.tup (k.map kV)), fun i H => H d = some (.frz o (.dT kvs)) /\ kvs.length <= i⟩
theorem dict_ep {o : Obj} {es es' : Array DictEntry} {ep ep' : Nat} (h : o.data = .dict es ep) (h' : o.data = .dict es' ep') : es' = es /\ ep' = ep := by
 rw [h] at h'
 cases h'
 exact ⟨rfl, rfl⟩
section
variable {P : Program} {w : World} {K : W.Frag} {tg : Expr} {d : Addr} {o : Obj} {es : Array DictEntry} {ep : Nat}
theorem turn_keys {kvs : List (Key × V)} (it : Addr) (hod : o.data = .dict es ep) : Turn P w K tg (Itk d o kvs) [it] it (fun i h => h.IsKeyIter it d i kvs.length ep) where
 mem := by simp
 obj := fun i h st b hb => by
  have e : b = it := by simpa using hb
  subst e
  obtain ⟨oi, e, c, dd⟩ := st
  exact ⟨oi, e, fun v z => by rw [dd] at z; cases z⟩
 keep := fun i h h' st k => st.at fun oi e => k it (by simp) oi e
 item := by
  intro X hP hw hK hc i pins s σ H E I hf st hg
  subst hP hw hK
  obtain ⟨hd, hi⟩ := hg
  obtain ⟨f0, f1, f2, f3, f4, f5⟩ := hf it (by simp)
  obtain ⟨hs, hgd, hx, es', ep', vs, hdt, hsz, kv, hm⟩ := I.frzK hd
  obtain ⟨rfl, rfl⟩ := dict_ep hod hdt
  obtain ⟨⟨k, v⟩, hkv⟩ : ∃ p, kvs[i]? = some p := ⟨kvs[i], List.getElem?_eq_getElem hi⟩
  obtain ⟨u, hu, ru⟩ := kv_get kv hkv
  have hl : kvs.length = vs.length := Paired.length kv
  rw [hl] at st
  refine wpAny_pyNext_dict_item st hm hu fun key h' hkey st' sb => ?_
  have I1 : Inv X pins σ H { s with heap := h' } := I.turned (t' := s.toks) (fun b ob hb e => (sb.2 b hb).trans e) f0 f1 f3 f4 f5
  obtain ⟨oi, e, c, dd⟩ := id st'
  refine ⟨key, rfl, go_of (s := { s with heap := h' }) e c dd (by decide) ⟨kV k, H, I1, relV_key (show keyIs k key = true from hkey), ⟨rfl, k, v, hkv, rfl⟩, ?_, fun b hb => (hf b hb).1⟩⟩
  show h'.IsKeyIter it d (i + 1) kvs.length _
  rw [hl]
  exact st'
 done := by
  intro X hP hw hK hc i pins s σ H E I hf st hg
  subst hP hw hK
  obtain ⟨hd, hi⟩ := hg
  obtain ⟨f0, f1, f2, f3, f4, f5⟩ := hf it (by simp)
  obtain ⟨hs, hgd, hx, es', ep', vs, hdt, hsz, kv, hm⟩ := I.frzK hd
  obtain ⟨rfl, rfl⟩ := dict_ep hod hdt
  exact next_key_end (I.ok.hd hc) st hgd hdt hsz hi fun h' eb => ⟨rfl, I.turned (t' := s.toks) (fun b ob hb e => eb b ob hb e) f0 f1 f3 f4 f5⟩
 self := fun A i s Q E st h => wpAny_pyIter_keyiter st h
theorem turn_keysT {kvs : List (List Key × V)} (it : Addr) (hod : o.data = .dict es ep) : Turn P w K tg (Itkt d o kvs) [it] it (fun i h => h.IsKeyIter it d i kvs.length ep) where
 mem := by simp
 obj := fun i h st b hb => by
  have e : b = it := by simpa using hb
  subst e
  obtain ⟨oi, e, c, dd⟩ := st
  exact ⟨oi, e, fun v z => by rw [dd] at z; cases z⟩
 keep := fun i h h' st k => st.at fun oi e => k it (by simp) oi e
 item := by
  intro X hP hw hK hc i pins s σ H E I hf st hg
  subst hP hw hK
  obtain ⟨hd, hi⟩ := hg
  obtain ⟨f0, f1, f2, f3, f4, f5⟩ := hf it (by simp)
  obtain ⟨hs, hgd, hx, es', ep', hdt, hsz, ent⟩ := I.frzT hd
  obtain ⟨rfl, rfl⟩ := dict_ep hod hdt
  obtain ⟨⟨k, v⟩, hkv⟩ : ∃ p, kvs[i]? = some p := ⟨kvs[i], List.getElem?_eq_getElem hi⟩
  obtain ⟨en, q, hen, hkey, hq⟩ := ent i k v hkv
  refine next_key_item st hgd hdt hsz hen fun h' st' sb => ?_
  have I1 : Inv X pins σ H { s with heap := h' } := I.turned (t' := s.toks) (fun b ob hb e => (sb.2 b hb).trans e) f0 f1 f3 f4 f5
  obtain ⟨oi, e, c, dd⟩ := id st'
  exact ⟨en.key, rfl, go_of (s := { s with heap := h' }) e c dd (by decide) ⟨.ref q, H, I1, hkey, ⟨rfl, k, v, q, hkv, rfl, hq⟩, st', fun b hb => (hf b hb).1⟩⟩
 done := by
  intro X hP hw hK hc i pins s σ H E I hf st hg
  subst hP hw hK
  obtain ⟨hd, hi⟩ := hg
  obtain ⟨f0, f1, f2, f3, f4, f5⟩ := hf it (by simp)
  obtain ⟨hs, hgd, hx, es', ep', hdt, hsz, ent⟩ := I.frzT hd
  obtain ⟨rfl, rfl⟩ := dict_ep hod hdt
  exact next_key_end (I.ok.hd hc) st hgd hdt hsz hi fun h' eb => ⟨rfl, I.turned (t' := s.toks) (fun b ob hb e => eb b ob hb e) f0 f1 f3 f4 f5⟩
 self := fun A i s Q E st h => by
  refine wpAny_pyIter_slot st.typeIs F.slot_dict_keyiterator_iter (wpAny_call_entry F.slot_dict_keyiterator_iter st.typeIs F.entry_dict_keyiterator_iter ?_ (F.args_dict_keyiterator_iter_1 _))
  show wpAny _ _ (ret (.ref it)) _ _ s
  exact wpAny_pure ⟨_, rfl, "dict_keyiterator", _, st.typeIs, F.slot_dict_keyiterator_next.lookup, h⟩
end
noncomputable def iKeys (td : TE) : TI := fun σ H R => td σ H fun x H1 => ∃ d o, x = .ref d /\ ((∃ kvs, H1 d = some (.frz o (.dK kvs)) /\ R (Itk d o kvs) H1) \/ ∃ kvs, H1 d = some (.frz o (.dT kvs)) /\ R (Itkt d o kvs) H1)
section
variable {X : Cx} {tg e : Expr} {td : TE} {apos cpos : Pos}
theorem pi_keys (he : PE X e td) : PI X tg e (iKeys td) := by
 intro pins s σ H R I h
 refine thn (he pins s σ H _ I h) fun u s1 ⟨x, H1, I1, rx, d, o, ex, q⟩ => ?_
 subst ex
 obtain rfl : u = Value.ref d := rx
 rcases q with ⟨kvs, hd, q⟩ | ⟨kvs, hd, q⟩
 ·obtain ⟨hs, hgd, hx, es, ep, vs, hdt, hsz, kv, hm⟩ := I1.frzK hd
  refine iter_keys hs hgd hx hdt (pi_one (tk := s1.toks) I1 _ (turn_keys _ hdt) ⟨_, Heap.get?_push_size _ rfl, rfl, ?_⟩ q)
  rw [hsz] <;> rfl
 ·obtain ⟨hs, hgd, hx, es, ep, hdt, hsz, ent⟩ := I1.frzT hd
  refine iter_keys hs hgd hx hdt (pi_one (tk := s1.toks) I1 _ (turn_keysT _ hdt) ⟨_, Heap.get?_push_size _ rfl, rfl, ?_⟩ q)
  rw [hsz] <;> rfl
end
end L2
section 
namespace Bits
open PySem PyProof.Rows
end Bits
end 
section 
namespace TL
open PySem PySem.Builtin PySem.Builtin.Str PySem.StrLaws
abbrev tl (x : Str) : List Nat := x.cps.toList
end TL
end 
namespace L2
open PySem PySem.Spec PyProof.Rows
section
variable {X : Cx} {pins : List (Addr × Obj)} {σ : St} {H : Hp} {s : Shared} {Q : VK}
end
section
variable {X : Cx}
end
section
variable {X : Cx} {o e : Expr} {to te : TE}
end
end L2
namespace L2
open PySem PySem.Spec PyProof.Rows
section
variable {X : Cx}
end
end L2
namespace Att
open PySem PySem.W PySem.Calls PyProof.Rows
section
variable {prog : Program} {w : World} {A : Around} {E : Value -> Shared -> Prop} {s : Shared} {K : Frag}
end
end Att
namespace L2
open PySem PySem.Spec PyProof.Rows
theorem vals_ints : ∀ {vs : List Value} {ns : List Int}, IntsAre vs ns -> Vals (ns.map V.int) vs
 | _, _, .nil => .nil
 | _, _, .cons n t h => .cons ⟨t, rfl⟩ (vals_ints h)
noncomputable def Only (H : Hp) : Prop := ∀ b, H b = none \/ ∃ o xs, H b = some (.frz o (.lst xs))
theorem law_call {P : Program} {w : World} {K : W.Frag} {mg mb : Str -> Option Value} {CX : CXT} {k : Nat} {fa a : Addr} {fd : FuncData} {x : Str} {sp : Sp} {s₁ : Shared} {vs : List Value} {ns : List Int}
  (KX : K.In s₁.heap) (hns : s₁.heap.Ns mainGlobals mg) (hb : s₁.heap.Ns builtinsNs mb) (hbb : ∀ x : Str, x ≠ "__name__" -> mb x = bootBuiltins x) (hlim : s₁.heap.NoLimit) (hg : s₁.gens = #[])
  (ha : s₁.heap.get? a = some { cls := .type "list", data := .seq vs.toArray }) (hi : IntsAre vs ns) (hl : ns.length <= sizeLine) (hr : Room k callerA)
  (F : ∀ base : Heap, K.In base -> base.Ns mainGlobals mg -> FnOk P w K mg base CX k fa fd [x] sp) (hbind : ∀ (s : Shared) (u : Value), BindsTo s fd ⟨[u], []⟩ [(x, u)])
  (hsp : ∀ H : Hp, Only H -> SqL K H a (ns.map V.int) -> sp [.ref a] H (fun v _ => v = .bl true) fun _ _ _ => False)
  (hCX : ∀ H e s', CX [] H s₁ (fun _ _ _ => False) e s' -> False) :
  codeAny (model P w) callerA (.call (.ref fa) ⟨[.ref a], []⟩) (fun r s' => r = .ok (.ret (.bool true)) /\ OldK s₁.heap s'.heap /\ s'.os = s₁.os /\ AllBare s'.gens) s₁ := by
 have rv := vals_ints hi
 have lenV := hi.length
 have core : ∀ H : Hp, Only H -> SqL K H a (ns.map V.int) -> HOk P w H s₁.heap -> (∀ b, H b ≠ none -> b = a) -> (H a ≠ none -> K.lookup a = none) ->
   codeAny (model P w) callerA (.call (.ref fa) ⟨[.ref a], []⟩) (fun r s' => r = .ok (.ret (.bool true)) /\ OldK s₁.heap s'.heap /\ s'.os = s₁.os /\ AllBare s'.gens) s₁ := by
  intro H hO hS hok hA hK
  have base_of : ∀ {b : Addr} {o : Obj}, s₁.heap.get? b = some o -> H b = none -> (hidT s₁.heap H).get? b = some o := fun e n => hidT_get e n
  have noA : ∀ {b : Addr} {o : Obj} {es : Array DictEntry} {ep : Nat}, s₁.heap.get? b = some o -> o.data = .dict es ep -> H b = none := fun {b o es ep} e d => by
   cases q : H b with
   | none => rfl
   | some u =>
    have e' : b = a := hA b (by rw [q]; simp)
    subst e'
    rw [ha] at e; cases e
    have d' : Data.seq vs.toArray _ = Data.dict es ep := d
    cases d'
  have nsK : ∀ {b : Addr} {m : Str -> Option Value}, s₁.heap.Ns b m -> (hidT s₁.heap H).Ns b m := fun {b m} ⟨o, es, ep, e, d, r⟩ => ⟨o, es, ep, base_of e (noA e d), d, r⟩
  have hKb : K.In (hidT s₁.heap H) := fun b o e => base_of (KX b o e) (by
   cases q : H b with
   | none => rfl
   | some u =>
    have e' : b = a := hA b (by rw [q]; simp)
    subst e'
    rw [hK (by rw [q]; simp)] at e; cases e)
  have hM : Mod K mg (hidT s₁.heap H) := ⟨hKb, nsK hns, ⟨mb, nsK hb, hbb⟩, let ⟨mc, h1, h2⟩ := hlim; ⟨mc, nsK h1, h2⟩⟩
  have e0 : Env0 P w K mg (hidT s₁.heap H) callerA [] s₁ H := ⟨rfl, hM, fun b o e => of_hidT e, Nat.le_of_eq (hidT_size _ _), trivial, fun b hb => absurd (show b ∈ ([] : List Addr) from hb) (by simp), hok, .of_eq hg⟩
  refine codeAny_mono ((F _ hKb (nsK hns)).run callerA [] s₁ H ⟨[.ref a], []⟩ [.ref a] [.ref a] _ _ hr e0 (hbind s₁ (.ref a)) (.cons rfl .nil) (hsp H hO hS)) fun r s' h => ?_
  cases r with
  | error e => exact (hCX H e s' h).elim
  | ok fl =>
   cases fl with
   | next => exact False.elim h
   | brk => exact False.elim h
   | cont => exact False.elim h
   | ret u =>
    obtain ⟨v, H', os, bare, un, hok', r', q⟩ := h
    have q' : v = .bl true := q
    subst q'
    obtain rfl : u = Value.bool true := r'
    refine ⟨rfl, OldK.of_keep fun b o e => ?_, os, bare⟩
    cases q : H b with
    | none => exact un.keep b o e q (by intro z; exact absurd (show b ∈ ([] : List Addr) from z) (by simp)) (by simp)
    | some u =>
     rcases hO b with z | ⟨ob, xs, z⟩
     ·rw [q] at z; cases z
     ·have z2 := un.frzs b ob _ z
      obtain ⟨e1, _⟩ := hok b _ z
      obtain ⟨e2, _⟩ := hok' b _ z2
      rw [e] at e1; cases e1
      exact e2
 cases hk : K.lookup a with
 | some o =>
  have e := KX a o hk
  rw [ha] at e
  cases e
  refine core (fun _ => none) (fun _ => .inl rfl) (.inr ⟨_, vs.toArray, _, hk, rfl, rfl, rfl, by rw [List.size_toArray, lenV]; exact hl, by simpa using rv⟩) (fun b u z => by have z' : (none : Option HO) = some u := z; cases z') (fun b z => absurd rfl z) fun z => absurd rfl z
 | none =>
  refine core (fun b => if b = a then some (.frz { cls := .type "list", data := .seq vs.toArray } (.lst (ns.map V.int))) else none) (fun b => ?_) (.inl (.inr ⟨{ cls := .type "list", data := .seq vs.toArray }, if_pos rfl⟩)) (fun b u z => ?_) (fun b z => ?_) fun _ => hk
  ·by_cases hb : b = a
   ·exact .inr ⟨_, _, if_pos hb⟩
   ·exact .inl (if_neg hb)
  ·by_cases hb : b = a
   ·have z' := (if_pos hb).symm.trans z
    cases z'
    subst hb
    exact ⟨ha, by rw [List.length_map]; exact hl, vs, _, rv, ha⟩
   ·have z' := (if_neg hb).symm.trans z
    cases z'
  ·by_cases hb : b = a
   ·exact hb
   ·exact absurd (if_neg hb) z
end L2
namespace L2
open PySem PySem.Spec PyProof.Rows
abbrev KOf {K : W.Frag} {h : Heap} (_ : K.In h) : W.Frag := K
end L2
namespace L2
open PySem PySem.Spec PyProof.Rows
noncomputable def inClass (s : Stmt) (j : Nat) : Stmt := match s with
 | .ClassDef _ _ _ body _ _ _ _ _ _ _ => body.getD j (.Pass ⟨0, 0, 0, 0⟩)
 | _ => .Pass ⟨0, 0, 0, 0⟩
noncomputable def defArgs (s : Stmt) : Arguments := match s with
 | .FunctionDef _ a _ _ _ _ _ _ _ _ => a
 | _ => { posonlyargs := [], args := [], vararg := none, kwonlyargs := [], kw_defaults := [], kwarg := none, defaults := [] }
noncomputable def defBody (s : Stmt) : List Stmt := match s with
 | .FunctionDef _ _ b _ _ _ _ _ _ _ => b
 | _ => []
noncomputable def defScope (s : Stmt) : Scope := match s with
 | .FunctionDef _ _ _ _ _ _ sc _ _ _ => sc
 | _ => { kind := .function, names := [], isGenerator := false, isCoroutine := false }
abbrev CX0 : CXT := fun _ _ _ _ _ _ => False
abbrev E0 : XK := fun _ _ _ => False
theorem pass0 {X : Cx} : Passes CX0 X E0 := fun _ _ _ _ _ _ _ h => h.elim
structure Fun (K : W.Frag) (x qual : Str) (st : Stmt) (f : Addr) (fd : FuncData) : Prop where
 ex : ∃ (oc : Value) (od : Option Addr) (kV doc pm : Value) (an : Option Addr) (cdv ct : Value) (osl : Array (Option Value)),
  fd = W.fnOf x qual (defArgs st) (defBody st) (defScope st) .none kV doc pm an cdv ct /\ K.lookup f = some ⟨oc, od, .func fd, osl⟩ /\ W.codeIn K cdv qual = true
 kp : W.keepIn K (.ref f) = true
section
variable {P : Program} {w : World} {K : W.Frag} {mg : Str -> Option Value} {base : Heap}
theorem Fun.ok {x qual : Str} {st : Stmt} {f : Addr} {fd : FuncData} {N ps : List Str} {k : Nat} {sp : Sp} (F : Fun K x qual st f fd) (S : FnScope N ps (defScope st)) (len : ∀ vs H Q E, sp vs H Q E -> vs.length = ps.length)
  (hbody : ∀ (cdv : Value) (A : Around) (outer : List Env) (s : Shared) (H : Hp) (vs : List V) (Q : VK) (E : XK), Room k (A.deeper (envOfC qual (defScope st) s.heap.objs.size f cdv)) -> sp vs H Q E ->
   ∃ t, PSs (cxOf CX0 P w K mg base N qual (defScope st) f cdv A outer s H E).nox (defBody st) t /\ t { nx := fun _ H' => Q .non H', rt := Q } (start N vs) H) : FnOk P w K mg base CX0 (k + 1) f fd ps sp := by
 obtain ⟨oc, od, kV, doc, pm, an, cdv, ct, osl, rfl, lk, hcd⟩ := F.ex
 refine fn_of lk hcd S len fun A outer s H vs Q E hr hsp => ?_
 obtain ⟨t, h, q⟩ := hbody cdv A outer s H vs Q E hr hsp
 exact ⟨t, h.nox, q⟩
theorem Fun.binds {x qual : Str} {st : Stmt} {f : Addr} {fd : FuncData} {ps : List Str} (F : Fun K x qual st f fd)
  (h : ∀ (kV doc pm : Value) (an : Option Addr) (cdv ct : Value) (us : List Value), us.length = ps.length -> bindArgs (W.fnOf x qual (defArgs st) (defBody st) (defScope st) .none kV doc pm an cdv ct) ⟨us, []⟩ = pure (ps.zip us)) : Binds K fd ps [] := by
 obtain ⟨oc, od, kV, doc, pm, an, cdv, ct, osl, rfl, lk, hcd⟩ := F.ex
 exact .all (h kV doc pm an cdv ct)
theorem fun_mk {x qual : Str} {st : Stmt} {f : Addr} {oc : Value} {od an : Option Addr} {osl : Array (Option Value)} {kV doc pm cdv ct : Value} (l : K.lookup f = some ⟨oc, od, .func (W.fnOf x qual (defArgs st) (defBody st) (defScope st) .none kV doc pm an cdv ct), osl⟩)
  (c : W.codeIn K cdv qual = true) (k : W.keepIn K (.ref f) = true) : Fun K x qual st f (W.fnOf x qual (defArgs st) (defBody st) (defScope st) .none kV doc pm an cdv ct) := ⟨⟨oc, od, kV, doc, pm, an, cdv, ct, osl, rfl, l, c⟩, k⟩
end
theorem hu_of {A : Around} {k : Nat} (hr : Room k A) : A.units + 1 < cLine := Nat.lt_of_le_of_lt (Nat.add_le_add_left (by decide : 1 <= 64) _) hr.units
section
variable {X : Cx}
theorem pv (i : Nat) {x : Str} {pos : Pos} (hN : X.N[i]? = some x := by rfl) (hv : Vis X.env.scope x := by first | exact Or.inl rfl | exact Or.inr (Or.inl rfl) | exact Or.inr (Or.inr rfl)) (hd : (x == ("__debug__" : Str)) = false := by decide)
  (hcd : (x == ("__classdict__" : Str)) = false := by decide) : PE X (.Name x pos) (tVar i) := pe_var hN hv hd hcd
end
noncomputable def Same (H H' : Hp) : Prop := ∀ b o, H b = some o -> H' b = some o
theorem Same.refl (H : Hp) : Same H H := fun _ _ h => h
theorem Same.trans {H H1 H2 : Hp} (a : Same H H1) (b : Same H1 H2) : Same H H2 := fun c o h => b c o (a c o h)
theorem Same.free {H H' : Hp} (e : Same H H') {l : Addr} (h : H' l = Option.none) : H l = Option.none := by
 cases q : H l with
 | none => rfl
 | some o =>
  rw [e l o q] at h
  cases h
theorem Same.seq {K : W.Frag} {H H' : Hp} {a : Addr} {xs : List V} (e : Same H H') (h : SqL K H a xs) : SqL K H' a xs := by
 rcases h with (h | ⟨o, h⟩) | h
 ·exact .inl (.inl (e _ _ h))
 ·exact .inl (.inr ⟨o, e _ _ h⟩)
 ·exact .inr h
section
variable {κ : Type} [DecidableEq κ]
end
theorem nd_ix {α : Type} {l : List α} (hN : l.Nodup) {i j : Nat} {x : α} (a : l[i]? = some x) (b : l[j]? = some x) : i = j := by
 obtain ⟨h1, e1⟩ := List.getElem?_eq_some_iff.mp a
 obtain ⟨h2, e2⟩ := List.getElem?_eq_some_iff.mp b
 exact (List.getElem_inj hN).mp (e1.trans e2.symm)
theorem Same.made {H H1 : Hp} {x dx C : Addr} (nx : H x = Option.none) (nd : H dx = Option.none) (k : ∀ b o, (upd (upd H dx (.own x)) x (.ins C dx [])) b = some o -> b ≠ x -> H1 b = some o) : Same H H1 := fun b o e =>
 k b o (by rw [upd_ne (ne_of_none e nx), upd_ne (ne_of_none e nd)]; exact e) (ne_of_none e nx)
end L2
namespace L2
open PySem PySem.Spec PyProof.Rows
open PySem.W (WData Codec OpenSpec Well WellAll ReadsW ReadsAllW)
mutual
inductive Dw (K : W.Frag) (H : Hp) : V -> WData -> Prop
 | non : Dw K H .non .none
 | bl (b : Bool) : Dw K H (.bl b) (.bool b)
 | int (i : Int) : Dw K H (.int i) (.int i)
 | str (x : Str) : Dw K H (.str x) (.str x)
 | byt (b : Array UInt8) : Dw K H (.byt b) (.bytes b.toList)
 | lst {a : Addr} {xs : List V} {ds : List WData} : SqL K H a xs -> DwAll K H xs ds -> Dw K H (.ref a) (.list ds)
 | tup {a : Addr} {xs : List V} {ds : List WData} : SqT K H a xs -> DwAll K H xs ds -> Dw K H (.ref a) (.tuple ds)
inductive DwAll (K : W.Frag) (H : Hp) : List V -> List WData -> Prop
 | nil : DwAll K H [] []
 | cons {v : V} {vs : List V} {d : WData} {ds : List WData} : Dw K H v d -> DwAll K H vs ds -> DwAll K H (v :: vs) (d :: ds)
end
theorem dw_ints {K : W.Frag} {H : Hp} : ∀ ns : List Int, DwAll K H (ns.map V.int) (ns.map WData.int)
 | [] => .nil
 | n :: r => .cons (.int n) (dw_ints r)
theorem ints_dw {K : W.Frag} {H : Hp} : ∀ (ns : List Int) (xs : List V), DwAll K H xs (ns.map WData.int) -> xs = ns.map V.int
 | [], xs, h => by
  cases h
  rfl
 | n :: r, xs, h => by
  cases h with
  | cons h1 h2 =>
   cases h1
   rw [ints_dw r _ h2] <;> rfl
section
variable {P : Program} {w : World} {K : W.Frag} {H : Hp} {h : Heap} {R : W.WRecords} {cl : Str -> Option Addr}
theorem sqL_at {a : Addr} {xs : List V} (hok : HOk P w H h) (KX : K.In h) (q : SqL K H a xs) : ∃ (its : List Value) (o : Obj) (n : Nat), Vals xs its /\ h.get? a = some o /\ o.cls = .type "list" /\ o.data = .seq its.toArray n := by
 rcases q with q | ⟨o, its, n, e, hc, _, hd, _, hv⟩
 ·obtain ⟨_, its, n, hv, e⟩ := (show ObjOk P w H h a (.lst xs) from q.ok hok)
  exact ⟨its, _, n, hv, e, rfl, rfl⟩
 ·exact ⟨its.toList, o, n, hv, KX _ _ e, hc, by simp [hd]⟩
theorem sqT_at {a : Addr} {xs : List V} (hok : HOk P w H h) (KX : K.In h) (q : SqT K H a xs) : ∃ (its : List Value) (o : Obj) (n : Nat), Vals xs its /\ h.get? a = some o /\ o.cls = .type "tuple" /\ o.data = .seq its.toArray n := by
 rcases q with q | ⟨o, its, n, e, hc, hd, _, hv⟩
 ·obtain ⟨_, its, hv, o, e, hc, n, hd⟩ := (show ObjOk P w H h a (.tup xs) from q.ok hok)
  exact ⟨its, o, n, hv, e, hc, hd⟩
 ·exact ⟨its.toList, o, n, hv, KX _ _ e, hc, by simp [hd]⟩
mutual
theorem Dw.reads (hok : HOk P w H h) (KX : K.In h) : ∀ (d : WData) (v : V) (u : Value), Dw K H v d -> RelV v u -> ∃ as, ReadsW R cl h u d as
 | .none, _, _, x, r => by
  cases x
  cases r
  exact ⟨_, ReadsW.none⟩
 | .bool b, _, _, x, r => by
  cases x
  cases r
  exact ⟨_, ReadsW.bool b⟩
 | .int i, _, _, x, r => by
  cases x
  obtain ⟨t, rfl⟩ := r
  exact ⟨_, ReadsW.int i t⟩
 | .str s, _, _, x, r => by
  cases x
  obtain ⟨t, rfl⟩ := r
  exact ⟨_, ReadsW.str s t⟩
 | .bytes b, _, _, x, r => by
  cases x
  obtain ⟨t, rfl⟩ := r
  exact ⟨_, ReadsW.bytes _ t⟩
 | .list ds, _, _, x, r => by
  cases x with
  | lst hs ha =>
   cases r
   obtain ⟨its, o, n, rv, ho, hc, hd⟩ := sqL_at hok KX hs
   obtain ⟨as, hr⟩ := Dw.readsAll hok KX ds _ its ha rv
   exact ⟨_, ReadsW.list ho hc hd hr⟩
 | .tuple ds, _, _, x, r => by
  cases x with
  | tup hs ha =>
   cases r
   obtain ⟨its, o, n, rv, ho, hc, hd⟩ := sqT_at hok KX hs
   obtain ⟨as, hr⟩ := Dw.readsAll hok KX ds _ its ha rv
   exact ⟨_, ReadsW.tuple ho hc hd hr⟩
 | .float _, _, _, x, _ => by cases x
 | .dict _, _, _, x, _ => by cases x
 | .bytearray _, _, _, x, _ => by cases x
 | .set _, _, _, x, _ => by cases x
 | .frozenset _, _, _, x, _ => by cases x
 | .obj _ _, _, _, x, _ => by cases x
theorem Dw.readsAll (hok : HOk P w H h) (KX : K.In h) : ∀ (ds : List WData) (vs : List V) (us : List Value), DwAll K H vs ds -> Vals vs us -> ∃ as, ReadsAllW R cl h us ds as
 | [], _, _, x, r => by
  cases x
  cases r
  exact ⟨_, ReadsAllW.nil⟩
 | d :: ds, _, _, x, r => by
  cases x with
  | cons h1 h2 =>
   cases r with
   | cons r1 r2 =>
    obtain ⟨as, q1⟩ := Dw.reads hok KX d _ _ h1 r1
    obtain ⟨bs, q2⟩ := Dw.readsAll hok KX ds _ _ h2 r2
    exact ⟨_, ReadsAllW.cons q1 q2⟩
end
end
mutual
noncomputable def plW : WData -> Bool
 | .none => true
 | .bool _ => true
 | .int _ => true
 | .str _ => true
 | .bytes _ => true
 | .list xs => plWs xs
 | .tuple xs => plWs xs
 | _ => false
noncomputable def plWs : List WData -> Bool
 | [] => true
 | x :: r => plW x && plWs r
end
theorem plWs_map {α : Type} {f : α -> WData} (h : ∀ a, plW (f a) = true) : ∀ l : List α, plWs (l.map f) = true
 | [] => rfl
 | x :: r => by
  show (plW (f x) && plWs (r.map f)) = true
  rw [h x, plWs_map h r] <;> rfl
theorem pl_enc : ∀ (c : Codec) (a : c.denote), plW (c.enc a) = true
 | .unit, _ => rfl
 | .bool, _ => rfl
 | .int _ _, _ => rfl
 | .nat _ _, _ => rfl
 | .u8, _ => rfl
 | .bytes _ _, _ => rfl
 | .text _ _ _ _, _ => rfl
 | .list _ _ c, a => plWs_map (fun x => pl_enc c x) a
 | .pair c d, a => by
  show (plW (c.enc a.1) && (plW (d.enc a.2) && true)) = true
  rw [pl_enc c a.1, pl_enc d a.2] <;> rfl
 | .triple c d e, a => by
  show (plW (c.enc a.1) && (plW (d.enc a.2.1) && (plW (e.enc a.2.2) && true))) = true
  rw [pl_enc c a.1, pl_enc d a.2.1, pl_enc e a.2.2] <;> rfl
 | .option c, none => rfl
 | .option c, some x => pl_enc c x
theorem pl_encAll : ∀ (cs : List Codec) (a : Codec.denoteAll cs), plWs (Codec.encAll cs a) = true
 | [], _ => rfl
 | c :: cs, a => by
  show (plW (c.enc a.1) && plWs (Codec.encAll cs a.2)) = true
  rw [pl_enc c a.1, pl_encAll cs a.2] <;> rfl
theorem weight_mem : ∀ {xs : List WData} {d : WData}, d ∈ xs -> d.weight <= WData.weightAll xs
 | [], d, h => absurd h (by simp)
 | x :: r, d, h => by
  show d.weight <= x.weight + 1 + WData.weightAll r
  rcases List.mem_cons.mp h with e | m
  ·rw [e]
   omega
  ·have z := weight_mem m
   omega
noncomputable def toV : Value -> V
 | .none => .non
 | .bool b => .bl b
 | .int i _ => .int i
 | .str x _ => .str x
 | .bytes b _ => .byt b
 | .ref a => .ref a
 | _ => .non
noncomputable def OkU (A : List Addr) : Value -> Prop
 | .none => True
 | .bool _ => True
 | .int _ _ => True
 | .str _ _ => True
 | .bytes _ _ => True
 | .ref a => a ∈ A
 | _ => False
theorem OkU.mono {A B : List Addr} (h : ∀ a ∈ A, a ∈ B) : ∀ {u : Value}, OkU A u -> OkU B u := fun {u} x => by
 cases u with
 | ref a => exact h a x
 | none => trivial
 | bool b => trivial
 | int i t => trivial
 | str s t => trivial
 | bytes b t => trivial
 | _ => exact False.elim x
theorem relV_toV {A : List Addr} {u : Value} (x : OkU A u) : RelV (toV u) u := by
 cases u with
 | ref a => rfl
 | none => rfl
 | bool b => rfl
 | int i t => exact ⟨t, rfl⟩
 | str s t => exact ⟨t, rfl⟩
 | bytes b t => exact ⟨t, rfl⟩
 | _ => exact False.elim x
theorem vals_toV {A : List Addr} : ∀ {vs : List Value}, (∀ u ∈ vs, OkU A u) -> Vals (vs.map toV) vs
 | [], _ => .nil
 | u :: r, h => .cons (relV_toV (h u (List.mem_cons_self ..))) (vals_toV fun x hx => h x (List.mem_cons_of_mem _ hx))
noncomputable def ArgOb (h : Heap) (A : List Addr) (a : Addr) : Prop := ∃ vs : List Value, vs.length <= sizeLine /\ (∀ u ∈ vs, OkU A u) /\
 (h.get? a = some { cls := .type "list", data := .seq vs.toArray } \/ h.get? a = some { cls := .type "tuple", data := .seq vs.toArray })
theorem ArgOb.mono {h : Heap} {A B : List Addr} {a : Addr} (k : ∀ a ∈ A, a ∈ B) (x : ArgOb h A a) : ArgOb h B a := by
 obtain ⟨vs, h1, h2, h3⟩ := x
 exact ⟨vs, h1, fun u hu => (h2 u hu).mono k, h3⟩
theorem wellAll_len {P : Params} {h : Heap} : ∀ {vs : List Value} {ds : List WData}, WellAll P h vs ds -> vs.length = ds.length
 | _, _, .nil => rfl
 | _, _, .cons _ b => by
  show _ + 1 = _ + 1
  rw [wellAll_len b]
theorem well_list {P : Params} {h : Heap} {v : Value} {ds : List WData} (x : Well P h v (.list ds)) : ∃ (a : Addr) (vs : List Value), v = .ref a /\ h.get? a = some { cls := .type "list", data := .seq vs.toArray } /\ WellAll P h vs ds := by
 cases x with
 | list ho hall => exact ⟨_, _, rfl, ho, hall⟩
theorem well_tuple {P : Params} {h : Heap} {v : Value} {ds : List WData} (x : Well P h v (.tuple ds)) : ∃ (a : Addr) (vs : List Value), v = .ref a /\ h.get? a = some { cls := .type "tuple", data := .seq vs.toArray } /\ WellAll P h vs ds := by
 cases x with
 | tuple ho hall => exact ⟨_, _, rfl, ho, hall⟩
theorem well_cons {P : Params} {h : Heap} {us : List Value} {d : WData} {ds : List WData} (x : WellAll P h us (d :: ds)) : ∃ (v : Value) (vs : List Value), us = v :: vs /\ Well P h v d /\ WellAll P h vs ds := by
 cases x with
 | cons a b => exact ⟨_, _, rfl, a, b⟩
theorem line_of {n : Nat} (h : n <= 1048576) : n <= sizeLine := Nat.le_trans h (by decide)
section
variable {P : Params} {h : Heap}
mutual
theorem area_one : ∀ (d : WData) (v : Value), Well P h v d -> plW d = true -> d.weight <= 1048576 -> ∃ A : List Addr, OkU A v /\ ∀ a ∈ A, ArgOb h A a
 | .none, _, x, _, _ => by
  cases x
  exact ⟨[], trivial, fun a m => absurd m (by simp)⟩
 | .bool b, _, x, _, _ => by
  cases x
  exact ⟨[], trivial, fun a m => absurd m (by simp)⟩
 | .int i, _, x, _, _ => by
  cases x
  exact ⟨[], trivial, fun a m => absurd m (by simp)⟩
 | .str s, _, x, _, _ => by
  cases x
  exact ⟨[], trivial, fun a m => absurd m (by simp)⟩
 | .bytes b, _, x, _, _ => by
  cases x
  exact ⟨[], trivial, fun a m => absurd m (by simp)⟩
 | .list ds, _, x, p, z => by
  obtain ⟨a, vs, rfl, ho, hall⟩ := well_list x
  have z2 : WData.weightAll ds <= 1048576 := z
  obtain ⟨A, h1, h2⟩ := area_all ds _ hall p fun d hd => Nat.le_trans (weight_mem hd) z2
  have k : ∀ b ∈ A, b ∈ a :: A := fun b hb => List.mem_cons_of_mem _ hb
  refine ⟨a :: A, List.mem_cons_self .., fun b hb => ?_⟩
  rcases List.mem_cons.mp hb with e | m
  ·rw [e]
   exact ⟨vs, line_of (by rw [wellAll_len hall]; exact Nat.le_trans (W.length_le_weightAllW ds) z2), fun u hu => (h1 u hu).mono k, .inl ho⟩
  ·exact (h2 b m).mono k
 | .tuple ds, _, x, p, z => by
  obtain ⟨a, vs, rfl, ho, hall⟩ := well_tuple x
  have z2 : WData.weightAll ds <= 1048576 := z
  obtain ⟨A, h1, h2⟩ := area_all ds _ hall p fun d hd => Nat.le_trans (weight_mem hd) z2
  have k : ∀ b ∈ A, b ∈ a :: A := fun b hb => List.mem_cons_of_mem _ hb
  refine ⟨a :: A, List.mem_cons_self .., fun b hb => ?_⟩
  rcases List.mem_cons.mp hb with e | m
  ·rw [e]
   exact ⟨vs, line_of (by rw [wellAll_len hall]; exact Nat.le_trans (W.length_le_weightAllW ds) z2), fun u hu => (h1 u hu).mono k, .inr ho⟩
  ·exact (h2 b m).mono k
 | .float _, _, _, p, _ => Bool.noConfusion (show false = true from p)
 | .dict _, _, _, p, _ => Bool.noConfusion (show false = true from p)
 | .bytearray _, _, _, p, _ => Bool.noConfusion (show false = true from p)
 | .set _, _, _, p, _ => Bool.noConfusion (show false = true from p)
 | .frozenset _, _, _, p, _ => Bool.noConfusion (show false = true from p)
 | .obj _ _, _, _, p, _ => Bool.noConfusion (show false = true from p)
theorem area_all : ∀ (ds : List WData) (vs : List Value), WellAll P h vs ds -> plWs ds = true -> (∀ d ∈ ds, d.weight <= 1048576) -> ∃ A : List Addr, (∀ u ∈ vs, OkU A u) /\ ∀ a ∈ A, ArgOb h A a
 | [], _, x, _, _ => by
  cases x
  exact ⟨[], fun u m => absurd m (by simp), fun a m => absurd m (by simp)⟩
 | d :: ds, _, x, p, z => by
  obtain ⟨v, vs, rfl, x1, x2⟩ := well_cons x
  have q : plW d = true /\ plWs ds = true := Bool.and_eq_true_iff.mp p
  obtain ⟨A, a1, a2⟩ := area_one d v x1 q.1 (z d (List.mem_cons_self ..))
  obtain ⟨B, b1, b2⟩ := area_all ds vs x2 q.2 fun e he => z e (List.mem_cons_of_mem _ he)
  have kA : ∀ b ∈ A, b ∈ A ++ B := fun b hb => List.mem_append.mpr (.inl hb)
  have kB : ∀ b ∈ B, b ∈ A ++ B := fun b hb => List.mem_append.mpr (.inr hb)
  refine ⟨A ++ B, fun u hu => ?_, fun b hb => ?_⟩
  ·rcases List.mem_cons.mp hu with e | m
   ·rw [e]
    exact a1.mono kA
   ·exact (b1 u m).mono kB
  ·rcases List.mem_append.mp hb with m | m
   ·exact (a2 b m).mono kA
   ·exact (b2 b m).mono kB
end
end
noncomputable def hoOf (o : Obj) : Option HO := match o.data with
 | .seq vs _ => if (o.cls == Value.type "list") = true then some (.frz o (.lst (vs.toList.map toV))) else some (.frz o (.tup (vs.toList.map toV)))
 | _ => none
noncomputable def argH (K : W.Frag) (h : Heap) (A : List Addr) : Hp := fun b => if b ∈ A then (if (K.lookup b).isNone = true then (h.get? b).bind hoOf else none) else none
noncomputable def OnlyF (H : Hp) : Prop := ∀ b, H b = none \/ ∃ o u, H b = some (.frz o u)
theorem hoOf_lst (vs : List Value) : hoOf { cls := .type "list", data := .seq vs.toArray } = some (.frz { cls := .type "list", data := .seq vs.toArray } (.lst (vs.map toV))) := by
 show (if (Value.type "list" == Value.type "list") = true then some (HO.frz { cls := .type "list", data := .seq vs.toArray } (.lst (vs.toArray.toList.map toV))) else some (HO.frz { cls := .type "list", data := .seq vs.toArray } (.tup (vs.toArray.toList.map toV)))) = _
 rw [if_pos (beq_self_eq_true _)]
theorem hoOf_tup (vs : List Value) : hoOf { cls := .type "tuple", data := .seq vs.toArray } = some (.frz { cls := .type "tuple", data := .seq vs.toArray } (.tup (vs.map toV))) := by
 show (if (Value.type "tuple" == Value.type "list") = true then some (HO.frz { cls := .type "tuple", data := .seq vs.toArray } (.lst (vs.toArray.toList.map toV))) else some (HO.frz { cls := .type "tuple", data := .seq vs.toArray } (.tup (vs.toArray.toList.map toV)))) = _
 rw [if_neg (by decide)]
section
variable {P : Program} {w : World} {K : W.Frag} {h : Heap} {A : List Addr}
theorem argH_at {b : Addr} {o : Obj} (hb : b ∈ A) (hk : K.lookup b = none) (e : h.get? b = some o) : argH K h A b = hoOf o := by
 unfold argH
 rw [if_pos hb, hk, if_pos (show (none : Option Obj).isNone = true from rfl), e] <;> rfl
theorem of_argH {b : Addr} {u : HO} (q : argH K h A b = some u) : b ∈ A /\ K.lookup b = none := by
 unfold argH at q
 by_cases hb : b ∈ A
 ·rw [if_pos hb] at q
  cases hk : K.lookup b with
  | none => exact ⟨hb, rfl⟩
  | some o =>
   rw [hk, if_neg (by simp)] at q
   cases q
 ·rw [if_neg hb] at q
  cases q
theorem argH_is (ar : ∀ a ∈ A, ArgOb h A a) {b : Addr} {u : HO} (q : argH K h A b = some u) : K.lookup b = none /\ ∃ vs : List Value, vs.length <= sizeLine /\ (∀ u ∈ vs, OkU A u) /\
    ((h.get? b = some { cls := .type "list", data := .seq vs.toArray } /\ u = .frz { cls := .type "list", data := .seq vs.toArray } (.lst (vs.map toV))) \/
     (h.get? b = some { cls := .type "tuple", data := .seq vs.toArray } /\ u = .frz { cls := .type "tuple", data := .seq vs.toArray } (.tup (vs.map toV)))) := by
  obtain ⟨hb, hk⟩ := of_argH q
  obtain ⟨vs, h1, h2, h3⟩ := ar b hb
  refine ⟨hk, vs, h1, h2, ?_⟩
  rcases h3 with e | e
  · rw [argH_at hb hk e, hoOf_lst] at q
    exact .inl ⟨e, (Option.some.inj q).symm⟩
  · rw [argH_at hb hk e, hoOf_tup] at q
    exact .inr ⟨e, (Option.some.inj q).symm⟩
theorem argH_only (ar : ∀ a ∈ A, ArgOb h A a) : OnlyF (argH K h A) := fun b => by
 cases q : argH K h A b with
 | none => exact .inl rfl
 | some u =>
  obtain ⟨_, vs, _, _, ⟨_, e⟩ | ⟨_, e⟩⟩ := argH_is ar q
  ·exact .inr ⟨_, _, by rw [e]⟩
  ·exact .inr ⟨_, _, by rw [e]⟩
theorem argH_ok (ar : ∀ a ∈ A, ArgOb h A a) : HOk P w (argH K h A) h := fun b u q => by
 obtain ⟨_, vs, h1, h2, ⟨e, rfl⟩ | ⟨e, rfl⟩⟩ := argH_is ar q
 ·exact ⟨e, by rw [List.length_map]; exact h1, vs, _, vals_toV h2, e⟩
 ·exact ⟨e, by rw [List.length_map]; exact h1, vs, vals_toV h2, _, e, rfl, _, rfl⟩
theorem seq_inj {c c' : Value} {vs us : List Value} (e : (some { cls := c, data := .seq vs.toArray } : Option Obj) = some { cls := c', data := .seq us.toArray }) : c = c' /\ vs = us := by
 have e1 := Option.some.inj e
 have e2 : c = c' := congrArg Obj.cls e1
 have e3 : Data.seq vs.toArray = Data.seq us.toArray := congrArg Obj.data e1
 injection e3 with e4
 refine ⟨e2, ?_⟩
 have e5 := congrArg Array.toList e4
 simpa using e5
theorem argL (KX : K.In h) (ar : ∀ a ∈ A, ArgOb h A a) {a : Addr} {vs : List Value} (ha : a ∈ A) (e : h.get? a = some { cls := .type "list", data := .seq vs.toArray }) : (∀ u ∈ vs, OkU A u) /\ SqL K (argH K h A) a (vs.map toV) := by
 obtain ⟨us, h1, h2, h3⟩ := ar a ha
 have hu : us = vs := by
  rcases h3 with q | q
  ·rw [e] at q
   exact (seq_inj q).2.symm
  ·rw [e] at q
   exact absurd (Value.type.inj (seq_inj q).1) (by decide)
 subst hu
 refine ⟨h2, ?_⟩
 cases hk : K.lookup a with
 | none => exact .inl (.inr ⟨_, by rw [argH_at ha hk e, hoOf_lst]⟩)
 | some o =>
  have e2 := KX a o hk
  rw [e] at e2
  obtain rfl := Option.some.inj e2
  exact .inr ⟨_, us.toArray, _, hk, rfl, rfl, rfl, by rw [List.size_toArray]; exact h1, by simpa using vals_toV h2⟩
theorem argT (KX : K.In h) (ar : ∀ a ∈ A, ArgOb h A a) {a : Addr} {vs : List Value} (ha : a ∈ A) (e : h.get? a = some { cls := .type "tuple", data := .seq vs.toArray }) : (∀ u ∈ vs, OkU A u) /\ SqT K (argH K h A) a (vs.map toV) := by
 obtain ⟨us, h1, h2, h3⟩ := ar a ha
 have hu : us = vs := by
  rcases h3 with q | q
  ·rw [e] at q
   exact absurd (Value.type.inj (seq_inj q).1) (by decide)
  ·rw [e] at q
   exact (seq_inj q).2.symm
 subst hu
 refine ⟨h2, ?_⟩
 cases hk : K.lookup a with
 | none => exact .inl (.inr ⟨_, by rw [argH_at ha hk e, hoOf_tup]⟩)
 | some o =>
  have e2 := KX a o hk
  rw [e] at e2
  obtain rfl := Option.some.inj e2
  exact .inr ⟨_, us.toArray, _, hk, rfl, rfl, by rw [List.size_toArray]; exact h1, by simpa using vals_toV h2⟩
mutual
theorem dw_one {Pm : Params} (KX : K.In h) (ar : ∀ a ∈ A, ArgOb h A a) : ∀ (d : WData) (v : Value), Well Pm h v d -> plW d = true -> OkU A v -> Dw K (argH K h A) (toV v) d
 | .none, _, x, _, _ => by
  cases x
  exact .non
 | .bool b, _, x, _, _ => by
  cases x
  exact .bl b
 | .int i, _, x, _, _ => by
  cases x
  exact .int i
 | .str s, _, x, _, _ => by
  cases x
  exact .str s
 | .bytes b, _, x, _, _ => by
  cases x
  have z := Dw.byt (K := K) (H := argH K h A) b.toArray
  exact z
 | .list ds, _, x, p, hu => by
  obtain ⟨a, vs, rfl, ho, hall⟩ := well_list x
  obtain ⟨h2, hs⟩ := argL KX ar hu ho
  exact .lst hs (dw_all KX ar ds _ hall p h2)
 | .tuple ds, _, x, p, hu => by
  obtain ⟨a, vs, rfl, ho, hall⟩ := well_tuple x
  obtain ⟨h2, hs⟩ := argT KX ar hu ho
  exact .tup hs (dw_all KX ar ds _ hall p h2)
 | .float _, _, _, p, _ => Bool.noConfusion (show false = true from p)
 | .dict _, _, _, p, _ => Bool.noConfusion (show false = true from p)
 | .bytearray _, _, _, p, _ => Bool.noConfusion (show false = true from p)
 | .set _, _, _, p, _ => Bool.noConfusion (show false = true from p)
 | .frozenset _, _, _, p, _ => Bool.noConfusion (show false = true from p)
 | .obj _ _, _, _, p, _ => Bool.noConfusion (show false = true from p)
theorem dw_all {Pm : Params} (KX : K.In h) (ar : ∀ a ∈ A, ArgOb h A a) : ∀ (ds : List WData) (vs : List Value), WellAll Pm h vs ds -> plWs ds = true -> (∀ u ∈ vs, OkU A u) -> DwAll K (argH K h A) (vs.map toV) ds
 | [], _, x, _, _ => by
  cases x
  exact .nil
 | d :: ds, _, x, p, hu => by
  obtain ⟨v, vs, rfl, x1, x2⟩ := well_cons x
  have q : plW d = true /\ plWs ds = true := Bool.and_eq_true_iff.mp p
  exact .cons (dw_one KX ar d v x1 q.1 (hu _ (List.mem_cons_self ..))) (dw_all KX ar ds vs x2 q.2 fun u m => hu u (List.mem_cons_of_mem _ m))
end
end
theorem spec_call {P : Program} {w : World} {K : W.Frag} {mg mb : Str -> Option Value} {CX : CXT} {k : Nat} {fa : Addr} {fd : FuncData} {ps : List Str} {sp : Sp} {s₁ : Shared} {vals : List Value} {ds : List WData} {R : W.WRecords} {cl : Str -> Option Addr} {d0 : WData}
  (KX : K.In s₁.heap) (hns : s₁.heap.Ns mainGlobals mg) (hb : s₁.heap.Ns builtinsNs mb) (hbb : ∀ x : Str, x ≠ "__name__" -> mb x = bootBuiltins x) (hlim : s₁.heap.NoLimit) (hg : s₁.gens = #[])
  (hwl : WellAll w.params s₁.heap vals ds) (hpl : plWs ds = true) (hwt : ∀ d ∈ ds, d.weight <= 1048576) (hr : Room k callerA)
  (F : ∀ base : Heap, K.In base -> base.Ns mainGlobals mg -> FnOk P w K mg base CX k fa fd ps sp) (hbind : ∀ (s : Shared) (us : List Value), us.length = ps.length -> BindsTo s fd ⟨us, []⟩ (ps.zip us)) (hlen : ds.length = ps.length)
  (hsp : ∀ (H : Hp) (xs : List V), OnlyF H -> DwAll K H xs ds -> sp xs H (fun v H' => Dw K H' v d0) fun _ _ _ => False)
  (hCX : ∀ H e s', CX [] H s₁ (fun _ _ _ => False) e s' -> False) :
  codeAny (model P w) callerA (.call (.ref fa) ⟨vals, []⟩) (fun r s' => ∃ u as, r = .ok (.ret u) /\ ReadsW R cl s'.heap u d0 as /\ OldK s₁.heap s'.heap /\ s'.os = s₁.os /\ AllBare s'.gens) s₁ := by
 obtain ⟨A, ho, ar⟩ := area_all ds vals hwl hpl hwt
 have hO : OnlyF (argH K s₁.heap A) := argH_only ar
 have hok : HOk P w (argH K s₁.heap A) s₁.heap := argH_ok ar
 have hS := dw_all KX ar ds vals hwl hpl ho
 have hV := vals_toV ho
 have hK : ∀ b u, argH K s₁.heap A b = some u -> K.lookup b = none := fun b u q => (argH_is ar q).1
 have noA : ∀ {b : Addr} {o : Obj} {es : Array DictEntry} {ep : Nat}, s₁.heap.get? b = some o -> o.data = .dict es ep -> argH K s₁.heap A b = none := fun {b o es ep} e d => by
  cases q : argH K s₁.heap A b with
  | none => rfl
  | some u =>
   obtain ⟨_, vs, _, _, ⟨e2, _⟩ | ⟨e2, _⟩⟩ := argH_is ar q
   ·rw [e2] at e
    cases e
    have d' : Data.seq vs.toArray _ = Data.dict es ep := d
    cases d'
   ·rw [e2] at e
    cases e
    have d' : Data.seq vs.toArray _ = Data.dict es ep := d
    cases d'
 generalize argH K s₁.heap A = H at hO hok hS hK noA
 have base_of : ∀ {b : Addr} {o : Obj}, s₁.heap.get? b = some o -> H b = none -> (hidT s₁.heap H).get? b = some o := fun e n => hidT_get e n
 have nsK : ∀ {b : Addr} {m : Str -> Option Value}, s₁.heap.Ns b m -> (hidT s₁.heap H).Ns b m := fun {b m} ⟨o, es, ep, e, d, r⟩ => ⟨o, es, ep, base_of e (noA e d), d, r⟩
 have nK : ∀ b o, K.lookup b = some o -> H b = none := fun b o e => by
  cases q : H b with
  | none => rfl
  | some u =>
   rw [hK b u q] at e
   cases e
 have hKb : K.In (hidT s₁.heap H) := fun b o e => base_of (KX b o e) (nK b o e)
 have hM : Mod K mg (hidT s₁.heap H) := ⟨hKb, nsK hns, ⟨mb, nsK hb, hbb⟩, let ⟨mc, h1, h2⟩ := hlim; ⟨mc, nsK h1, h2⟩⟩
 have e0 : Env0 P w K mg (hidT s₁.heap H) callerA [] s₁ H := ⟨rfl, hM, fun b o e => of_hidT e, Nat.le_of_eq (hidT_size _ _), trivial, fun b hb => absurd (show b ∈ ([] : List Addr) from hb) (by simp), hok, .of_eq hg⟩
 have hl : vals.length = ps.length := by rw [wellAll_len hwl]; exact hlen
 refine codeAny_mono ((F _ hKb (nsK hns)).run callerA [] s₁ H ⟨vals, []⟩ vals (vals.map toV) _ _ hr e0 (hbind s₁ vals hl) hV (hsp H _ hO hS)) fun r s' x => ?_
 cases r with
 | error e => exact (hCX H e s' x).elim
 | ok fl =>
  cases fl with
  | next => exact False.elim x
  | brk => exact False.elim x
  | cont => exact False.elim x
  | ret u =>
   obtain ⟨v, H', os, bare, un, hok', r', q⟩ := x
   have kept : ∀ b o, s₁.heap.get? b = some o -> s'.heap.get? b = some o := fun b o e => by
    cases q2 : H b with
    | none => exact un.keep b o e q2 (by intro z; exact absurd (show b ∈ ([] : List Addr) from z) (by simp)) (by simp)
    | some u2 =>
     rcases hO b with z | ⟨ob, u3, z⟩
     ·rw [q2] at z
      cases z
     ·have z2 := un.frzs b ob _ z
      obtain ⟨e1, _⟩ := hok b _ z
      obtain ⟨e2, _⟩ := hok' b _ z2
      rw [e] at e1
      cases e1
      exact e2
   have KX' : K.In s'.heap := fun b o e => kept b o (KX b o e)
   obtain ⟨as, hrd⟩ := Dw.reads (R := R) (cl := cl) hok' KX' d0 v u q r'
   exact ⟨u, as, rfl, hrd, OldK.of_keep kept, os, bare⟩
theorem layable_weight {ds : List WData} (h : WData.layableAll ds = true) : ∀ d ∈ ds, d.weight <= 1048576 := fun d hd =>
 (W.layableW_iff.mp (List.all_eq_true.mp h d hd)).2.2
theorem encAll_len : ∀ (cs : List Codec) (a : Codec.denoteAll cs), (Codec.encAll cs a).length = cs.length
 | [], _ => rfl
 | c :: cs, a => by
  show (Codec.encAll cs a.2).length + 1 = cs.length + 1
  rw [encAll_len cs a.2]
theorem walk_spec {r : OpenSpec} {k : Nat} {q : Program} {loose : List Str} {XP : (Str -> Option Value) -> Heap -> Prop} {YP : World -> Heap -> Prop} {d : DefRec} {K : Params -> W.Frag} {CX : World -> CXT} {ps : List Str} {sp : World -> Sp}
  (hwell : r.wellSaid = true) (hdf : d.params.defaults = []) (hlen : r.args.length = ps.length) (hr : Room k callerA)
  (hY : ∀ (w : World) (h : Heap), YP w h -> (K w.params).In h)
  (F : ∀ (w : World) (mg : Str -> Option Value) (fa : Addr) (h : Heap), YP w h -> (K w.params).In h -> h.Ns mainGlobals mg -> mg d.name = some (.ref fa) ->
   ∃ fd : FuncData, (∀ (s : Shared) (us : List Value), us.length = ps.length -> BindsTo s fd ⟨us, []⟩ (ps.zip us)) /\
    ∀ base : Heap, (K w.params).In base -> base.Ns mainGlobals mg -> FnOk r.prog w (K w.params) mg base (CX w) k fa fd ps (sp w))
  (hsp : ∀ (w : World) (H : Hp) (xs : List V) (a : Codec.denoteAll r.args), OnlyF H -> Codec.withinAll r.args a = true -> Codec.app r.args r.asked a = true -> DwAll (K w.params) H xs (Codec.encAll r.args a) ->
   sp w xs H (fun v H' => Dw (K w.params) H' v (r.ret.enc (Codec.app r.args r.f a))) fun _ _ _ => False)
  (hCX : ∀ (w : World) (H : Hp) (s : Shared) (e : Value) (s' : Shared), CX w [] H s (fun _ _ _ => False) e s' -> False) :
  W.WalkOS q loose XP YP r d [] (fun f vs => PySem.call f vs) := by
 intro w s_0 s₁ mg mb G Y fa o pm cd doc dV kV ho hd hcd hD hmg hg args vals as hpre hlay hrd hwl hlo
 obtain ⟨a, e1, e2⟩ := W.os_pre_some hpre
 obtain ⟨e3, hwi⟩ := Codec.encAll_of_decAll r.args args a e1
 subst e3
 have KX := hY w _ Y
 obtain ⟨fd, hb, hF⟩ := F w mg fa _ Y KX G.T.g hmg
 refine W.enter_call (codeAny_mono (spec_call (R := []) (cl := classAt s_0.heap) (d0 := r.ret.enc (Codec.app r.args r.f a)) KX G.T.g G.T.b G.T.builtins G.T.nolimit hg hwl (pl_encAll _ _) (layable_weight hlay) hr hF hb (by rw [encAll_len]; exact hlen)
  (fun H xs hO hS => hsp w H xs a hO hwi e2 hS) fun H e s' => hCX w H s₁ e s') fun r' s' hq => ?_)
 obtain ⟨u, as', rfl, h1, h2, h3, h4⟩ := hq
 exact ⟨.inl ⟨u, _, as', rfl, fun _ => rfl, h1, (OpenSpec.post_iff hwell hwi _ _).mpr rfl, fun z => Bool.noConfusion (show false = true from z)⟩, h2, h3, h4⟩
theorem walk_specK {r : OpenSpec} {k : Nat} {q : Program} {loose : List Str} {XP : (Str -> Option Value) -> Heap -> Prop} {YP : World -> Heap -> Prop} {d : DefRec} {K : Params -> W.Frag} {CX : CXT} {ps : List Str} {sp : W.Frag -> Sp}
  (hwell : r.wellSaid = true) (hdf : d.params.defaults = []) (hlen : r.args.length = ps.length) (hr : Room k callerA)
  (hY : ∀ (w : World) (h : Heap), YP w h -> (K w.params).In h)
  (F : ∀ (w : World) (mg : Str -> Option Value) (fa : Addr) (h : Heap), YP w h -> (K w.params).In h -> h.Ns mainGlobals mg -> mg d.name = some (.ref fa) ->
   ∃ fd : FuncData, (∀ (s : Shared) (us : List Value), us.length = ps.length -> BindsTo s fd ⟨us, []⟩ (ps.zip us)) /\
    ∀ base : Heap, (K w.params).In base -> base.Ns mainGlobals mg -> FnOk r.prog w (K w.params) mg base CX k fa fd ps (sp (K w.params)))
  (hsp : ∀ (K : W.Frag) (H : Hp) (xs : List V) (a : Codec.denoteAll r.args), OnlyF H -> Codec.withinAll r.args a = true -> Codec.app r.args r.asked a = true -> DwAll K H xs (Codec.encAll r.args a) ->
   sp K xs H (fun v H' => Dw K H' v (r.ret.enc (Codec.app r.args r.f a))) fun _ _ _ => False)
  (hCX : ∀ (H : Hp) (s : Shared) (e : Value) (s' : Shared), CX [] H s (fun _ _ _ => False) e s' -> False) :
  W.WalkOS q loose XP YP r d [] (fun f vs => PySem.call f vs) :=
 walk_spec (K := K) (CX := fun _ => CX) (sp := fun w => sp (K w.params)) hwell hdf hlen hr hY F (fun w H xs a h1 h2 h3 h4 => hsp (K w.params) H xs a h1 h2 h3 h4) fun _ H s e s' => hCX H s e s'
end L2

namespace Ph
open Vbtaai
noncomputable def Fits : List Nat -> List Nat -> Prop
 | [], [] => True
 | s :: ss, v :: vs => v < s /\ Fits ss vs
 | _, _ => False
theorem zw7 : ∀ {sz l : List Nat}, Fits sz l -> l.length = sz.length
 | [], [], _ => rfl
 | s :: ss, v :: vs, h => by simp [zw7 h.2]
 | [], _ :: _, h => h.elim
 | _ :: _, [], h => h.elim
theorem zk17 : ∀ (l : List Nat) (a : Nat), l.foldl (fun a b => a * b) a = a * product l
 | [], a => by simp [product]
 | s :: r, a => by
  unfold product
  rw [List.foldl_cons, List.foldl_cons, zk17 r (a * s), zk17 r (1 * s), Nat.one_mul, Nat.mul_assoc]
theorem zx14 (s : Nat) (r : List Nat) : product (s :: r) = s * product r := by
 have h : product (s :: r) = r.foldl (fun a b => a * b) (1 * s) := rfl
 rw [h, zk17, Nat.one_mul]
theorem zs23 : ∀ {sz : List Nat}, (∀ s ∈ sz, 0 < s) -> 0 < product sz
 | [], _ => by decide
 | s :: r, h => by
  rw [zx14]
  exact Nat.mul_pos (h s (by simp)) (zs23 fun x hx => h x (by simp [hx]))
theorem zu6 : ∀ {sz l : List Nat}, Fits sz l -> encode sz l < product sz
 | [], [], _ => by decide
 | s :: ss, v :: vs, h => by
  rw [zx14]
  have h1 := zu6 h.2
  have h2 := h.1
  show v + s * encode ss vs < s * product ss
  have : s * (encode ss vs + 1) <= s * product ss := Nat.mul_le_mul_left s h1
  rw [Nat.mul_add, Nat.mul_one] at this
  omega
 | [], _ :: _, h => h.elim
 | _ :: _, [], h => h.elim
theorem zg3 : ∀ {sz l : List Nat}, Fits sz l -> decode sz (encode sz l) = l
 | [], [], _ => rfl
 | s :: ss, v :: vs, h => by
  show ((v + s * encode ss vs) % s) :: decode ss ((v + s * encode ss vs) / s) = v :: vs
  have hs : 0 < s := by have := h.1; omega
  rw [Nat.add_mul_mod_self_left, Nat.mod_eq_of_lt h.1, Nat.add_mul_div_left _ _ hs, Nat.div_eq_of_lt h.1, Nat.zero_add, zg3 h.2]
 | [], _ :: _, h => h.elim
 | _ :: _, [], h => h.elim
theorem zq3 : ∀ {sz : List Nat} (n : Nat), (∀ s ∈ sz, 0 < s) -> Fits sz (decode sz n)
 | [], _, _ => trivial
 | s :: ss, n, h => ⟨Nat.mod_lt _ (h s (by simp)), zq3 (n / s) fun x hx => h x (by simp [hx])⟩
theorem zq11 : ∀ {sz : List Nat} {n : Nat}, (∀ s ∈ sz, 0 < s) -> n < product sz -> encode sz (decode sz n) = n
 | [], n, _, hn => by
  have : n < 1 := hn
  show 0 = n
  omega
 | s :: ss, n, h, hn => by
  have hs : 0 < s := h s (by simp)
  rw [zx14] at hn
  show n % s + s * encode ss (decode ss (n / s)) = n
  rw [zq11 (fun x hx => h x (by simp [hx])) (Nat.div_lt_of_lt_mul hn)]
  exact Nat.mod_add_div n s
theorem zt23 : ∀ {sz l : List Nat} {i v : Nat}, Fits sz l -> (i < sz.length -> v < sz.getD i 1) -> Fits sz (l.set i v)
 | [], [], _, _, _, _ => trivial
 | s :: ss, v :: vs, 0, x, h, hv => ⟨by have := hv (by simp); simpa using this, h.2⟩
 | s :: ss, v :: vs, i + 1, x, h, hv => ⟨h.1, zt23 (i := i) h.2 fun hi => by have := hv (by simpa using hi); simpa using this⟩
 | [], _ :: _, _, _, h, _ => h.elim
 | _ :: _, [], _, _, h, _ => h.elim
theorem zk6 {sz : List Nat} (hs : ∀ s ∈ sz, 0 < s) : ∀ (es : List Eff) {l : List Nat}, Fits sz l -> Fits sz (effects sz l es)
 | [], _, h => h
 | e :: r, l, h => by
  unfold effects
  rw [List.foldl_cons]
  refine zk6 hs r (zt23 h fun hi => Nat.mod_lt _ ?_)
  rw [List.getD_eq_getElem?_getD, List.getElem?_eq_getElem hi]
  exact hs _ (List.getElem_mem hi)
theorem zr27 {sz : List Nat} (hs : ∀ s ∈ sz, 0 < s) (r : Rule) {l : List Nat} (h : Fits sz l) : Fits sz (turn sz l r) := by
 unfold turn
 split
 ·exact zk6 hs _ h
 ·exact h
theorem zz11 {sz : List Nat} (hs : ∀ s ∈ sz, 0 < s) : ∀ (ts : List Rule) {l : List Nat}, Fits sz l -> Fits sz (ts.foldl (turn sz) l)
 | [], _, h => h
 | t :: r, l, h => zz11 hs r (zr27 hs t h)
theorem zz21 {s : Story} (hs : ∀ z ∈ s.sizes, 0 < z) {l m : List Nat} {r : Rule} (h : Fits s.sizes l) (e : does s l r = some m) : Fits s.sizes m := by
 unfold does at e
 split at e
 ·cases e
 ·split at e
  ·cases e
   exact zz11 hs _ (zk6 hs _ h)
  ·cases e
noncomputable def lev (f : Nat -> Nat) (m : Nat) : Nat -> Nat
 | 0 => m
 | i + 1 => lev f m i ||| f (lev f m i)
theorem zv6 (f : Nat -> Nat) (m : Nat) : ∀ i, lev f (m ||| f m) i = lev f m (i + 1)
 | 0 => rfl
 | i + 1 => by
  show lev f (m ||| f m) i ||| f (lev f (m ||| f m) i) = _
  rw [zv6 f m i]
  rfl
theorem zi30 {f : Nat -> Nat} {m i n : Nat} (h : (lev f m i).testBit n = true) : (lev f m (i + 1)).testBit n = true := by
 show (lev f m i ||| f (lev f m i)).testBit n = true
 rw [Nat.testBit_or, h, Bool.true_or]
theorem zt28 {f : Nat -> Nat} {m n : Nat} : ∀ {i j : Nat}, i <= j -> (lev f m i).testBit n = true -> (lev f m j).testBit n = true
 | i, 0, h, e => by rw [Nat.le_zero.mp h] at e; exact e
 | i, j + 1, h, e => by
  by_cases hij : i = j + 1
  ·rw [hij] at e; exact e
  ·exact zi30 (zt28 (by omega) e)
theorem ze26 {f : Nat -> Nat} {m : Nat} (h : m ||| f m = m) : ∀ i, lev f m i = m
 | 0 => rfl
 | i + 1 => by
  show lev f m i ||| f (lev f m i) = m
  rw [ze26 h i, h]
noncomputable def ze12 (N m : Nat) : Nat := ((List.range N).filter fun n => !m.testBit n).length
theorem zn14 {α : Type} {p q : α -> Bool} : ∀ {l : List α}, (∀ x ∈ l, p x = true -> q x = true) -> (∃ x ∈ l, q x = true /\ p x = false) -> (l.filter p).length < (l.filter q).length
 | [], _, h => by obtain ⟨x, hx, _⟩ := h; cases hx
 | a :: r, h1, h2 => by
  have hle : (r.filter p).length <= (r.filter q).length := by
   have : ∀ (r : List α), (∀ x ∈ r, p x = true -> q x = true) -> (r.filter p).length <= (r.filter q).length := by
    intro r
    induction r with
    | nil => intro _; exact Nat.le_refl _
    | cons b r ih =>
     intro h
     have hb := h b (by simp)
     have := ih fun x hx => h x (by simp [hx])
     rw [List.filter_cons, List.filter_cons]
     cases hp : p b with
     | true => rw [if_pos rfl, if_pos (hb hp), List.length_cons, List.length_cons]; omega
     | false =>
      rw [if_neg (by simp)]
      split
      ·rw [List.length_cons]; omega
      ·exact this
   exact this r fun x hx => h1 x (by simp [hx])
  rw [List.filter_cons, List.filter_cons]
  obtain ⟨x, hx, hq, hp⟩ := h2
  rcases List.mem_cons.mp hx with rfl | hx
  ·rw [if_pos hq, hp, if_neg (by simp), List.length_cons]; omega
  ·have := zn14 (fun x hx => h1 x (by simp [hx])) ⟨x, hx, hq, hp⟩
   cases ha : p a with
   | true => rw [if_pos rfl, if_pos (h1 a (by simp) ha), List.length_cons, List.length_cons]; omega
   | false =>
    rw [if_neg (by simp)]
    split
    ·rw [List.length_cons]; omega
    ·exact this
theorem zv18 {N m m' : Nat} (hN : ∀ n, m'.testBit n = true -> n < N) (hsub : ∀ n, m.testBit n = true -> m'.testBit n = true) (hne : m' ≠ m) : ze12 N m' < ze12 N m := by
 unfold ze12
 refine zn14 (fun x _ h => ?_) ?_
 ·cases e : m.testBit x with
  | false => rfl
  | true => rw [hsub x e] at h; exact h
 ·have : ∃ n, m'.testBit n ≠ m.testBit n := by
   apply Classical.byContradiction
   intro hn
   refine hne (Nat.eq_of_testBit_eq fun n => ?_)
   apply Classical.byContradiction
   intro h
   exact hn ⟨n, h⟩
  obtain ⟨n, hn⟩ := this
  cases e' : m'.testBit n with
  | false =>
   cases e : m.testBit n with
   | false => rw [e, e'] at hn; exact absurd rfl hn
   | true => rw [hsub n e] at e'; cases e'
  | true =>
   cases e : m.testBit n with
   | true => rw [e, e'] at hn; exact absurd rfl hn
   | false => exact ⟨n, List.mem_range.mpr (hN n e'), by rw [e]; rfl, by rw [e']; rfl⟩
theorem zw18 {f : Nat -> Nat} {m : Nat} (hfix : m ||| f m = m) (n : Nat) :
  (∀ j, rankIn [m] n = some j ↔ ((lev f m j).testBit n = true /\ ∀ i, i < j -> (lev f m i).testBit n = false)) /\ (rankIn [m] n = none ↔ ∀ j, (lev f m j).testBit n = false) := by
 have hl := ze26 hfix
 simp only [hl]
 cases e : m.testBit n with
 | true =>
  have hr : rankIn [m] n = some 0 := by rw [rankIn, if_pos e]
  rw [hr]
  refine ⟨fun j => ⟨fun h => ?_, fun h => ?_⟩, ⟨(fun h => by cases h), (fun h => by cases h 0)⟩⟩
  ·cases h
   exact ⟨rfl, fun i hi => absurd hi (Nat.not_lt_zero i)⟩
  ·cases j with
   | zero => rfl
   | succ j => exact absurd (h.2 0 (Nat.succ_pos j)) (by simp)
 | false =>
  have hr : rankIn [m] n = none := by rw [rankIn, if_neg (by simp [e])]; rfl
  rw [hr]
  simp
theorem zr10 {f : Nat -> Nat} {N : Nat} (hf : ∀ m n, (f m).testBit n = true -> n < N) : ∀ (k m : Nat), (∀ n, m.testBit n = true -> n < N) -> ze12 N m <= k -> ∀ n,
  (∀ j, rankIn (growing f k m) n = some j ↔ ((lev f m j).testBit n = true /\ ∀ i, i < j -> (lev f m i).testBit n = false)) /\ (rankIn (growing f k m) n = none ↔ ∀ j, (lev f m j).testBit n = false)
 | 0, m, hm, hk, n => by
  have hfix : m ||| f m = m := by
   apply Classical.byContradiction
   intro h
   have := zv18 (N := N) (m := m) (m' := m ||| f m) (fun n h => by
    rw [Nat.testBit_or, Bool.or_eq_true] at h
    rcases h with h | h
    ·exact hm n h
    ·exact hf m n h) (fun n h => by rw [Nat.testBit_or, h, Bool.true_or]) h
   omega
  exact zw18 hfix n
 | k + 1, m, hm, hk, n => by
  by_cases hfix : m ||| f m = m
  ·rw [show growing f (k + 1) m = [m] by rw [growing, if_pos hfix]]
   exact zw18 hfix n
  ·have hm' : ∀ n, (m ||| f m).testBit n = true -> n < N := fun n h => by
    rw [Nat.testBit_or, Bool.or_eq_true] at h
    rcases h with h | h
    ·exact hm n h
    ·exact hf m n h
   have hlt := zv18 (N := N) (m := m) (m' := m ||| f m) hm' (fun n h => by rw [Nat.testBit_or, h, Bool.true_or]) hfix
   obtain ⟨ih1, ih2⟩ := zr10 hf k (m ||| f m) hm' (by omega) n
   have hg : growing f (k + 1) m = m :: growing f k (m ||| f m) := by rw [growing, if_neg hfix]
   rw [hg]
   unfold rankIn
   cases e : m.testBit n with
   | true =>
    simp only [if_true]
    refine ⟨fun j => ⟨fun h => ?_, fun h => ?_⟩, ⟨(fun h => by cases h), fun h => ?_⟩⟩
    ·cases h
     exact ⟨e, fun i hi => absurd hi (Nat.not_lt_zero i)⟩
    ·cases j with
     | zero => rfl
     | succ j =>
      have := h.2 0 (Nat.succ_pos j)
      rw [show lev f m 0 = m from rfl, e] at this
      cases this
    ·have := h 0
     rw [show lev f m 0 = m from rfl, e] at this
     cases this
   | false =>
    simp only [Bool.false_eq_true, if_false]
    cases r : rankIn (growing f k (m ||| f m)) n with
    | none =>
     have h2 := ih2.mp r
     refine ⟨fun j => ⟨(fun h => by cases h), fun h => ?_⟩, ⟨fun _ j => ?_, fun _ => rfl⟩⟩
     ·cases j with
      | zero => rw [show lev f m 0 = m from rfl, e] at h; cases h.1
      | succ j => rw [<- zv6, h2 j] at h; cases h.1
     ·cases j with
      | zero => exact e
      | succ j => rw [<- zv6]; exact h2 j
    | some j0 =>
     obtain ⟨h3, h4⟩ := (ih1 j0).mp r
     refine ⟨fun j => ⟨fun h => ?_, fun h => ?_⟩, ⟨(fun h => by cases h), fun h => ?_⟩⟩
     ·cases h
      refine ⟨by rw [<- zv6]; exact h3, fun i hi => ?_⟩
      cases i with
      | zero => exact e
      | succ i => rw [<- zv6]; exact h4 i (by omega)
     ·cases j with
      | zero => rw [show lev f m 0 = m from rfl, e] at h; cases h.1
      | succ j =>
       have hj : rankIn (growing f k (m ||| f m)) n = some j := (ih1 j).mpr ⟨by rw [zv6]; exact h.1, fun i hi => by rw [zv6]; exact h.2 (i + 1) (by omega)⟩
       rw [hj] at r
       cases r
       rfl
     ·have := h (j0 + 1)
      rw [<- zv6, h3] at this
      cases this
theorem zx18 (N m : Nat) : ze12 N m <= N := by
 unfold ze12
 refine Nat.le_trans (List.length_filter_le _ _) ?_
 rw [List.length_range]
 exact Nat.le_refl _
theorem za22 (n : Nat) : ∀ (l : List Nat) (m : Nat), (l.foldl (fun m i => m ||| 2 ^ i) m).testBit n = (m.testBit n || decide (n ∈ l))
 | [], m => by simp
 | i :: r, m => by
  rw [List.foldl_cons, za22 n r, Nat.testBit_or, Nat.testBit_two_pow]
  by_cases h : n = i
  ·subst h; simp
  ·have h' : ¬ i = n := fun e => h e.symm
   simp [h, h']
theorem zv12 (l : List Nat) (n : Nat) : (setOf l).testBit n = decide (n ∈ l) := by
 unfold setOf
 rw [za22, Nat.zero_testBit, Bool.false_or]
theorem zd14 (m n : Nat) : ∀ (t : List (List Nat)) (i : Nat), (before i t m).testBit n = (decide (i <= n) && (t.getD (n - i) []).any fun k => m.testBit k)
 | [], i => by simp [before]
 | l :: r, i => by
  rw [before, Nat.testBit_or, zd14 m n r (i + 1)]
  by_cases h : n = i
  ·subst h
   have h2 : ¬ n + 1 <= n := by omega
   by_cases ha : (l.any fun n => m.testBit n) = true
   ·rw [if_pos ha]; simp [Nat.testBit_two_pow, ha]
   ·rw [if_neg ha]
    rw [Bool.not_eq_true] at ha
    simp [ha, h2]
  ·have e1 : (if (l.any fun n => m.testBit n) = true then 2 ^ i else 0 : Nat).testBit n = false := by
    split
    ·rw [Nat.testBit_two_pow]
     exact decide_eq_false fun e => h e.symm
    ·exact Nat.zero_testBit n
   rw [e1, Bool.false_or]
   by_cases hlt : i + 1 <= n
   ·rw [show n - i = (n - (i + 1)) + 1 by omega, List.getD_cons_succ]
    simp [hlt, show i <= n by omega]
   ·simp [hlt, show ¬ i <= n by omega]
theorem zy14 (m n : Nat) : ∀ (t : List (List Nat)) (i : Nat), (after i t m).testBit n = true ↔ ∃ j, j < t.length /\ m.testBit (i + j) = true /\ n ∈ t.getD j []
 | [], i => by simp [after]
 | l :: r, i => by
  rw [after, Nat.testBit_or, Bool.or_eq_true, zy14 m n r (i + 1)]
  constructor
  ·rintro (h | ⟨j, h1, h2, h3⟩)
   ·refine ⟨0, by simp, ?_⟩
    split at h
    ·rename_i hm
     rw [zv12, decide_eq_true_eq] at h
     exact ⟨hm, h⟩
    ·rw [Nat.zero_testBit] at h; cases h
   ·exact ⟨j + 1, by simpa using h1, by rw [show i + (j + 1) = i + 1 + j by omega]; exact h2, by simpa using h3⟩
  ·rintro ⟨j, h1, h2, h3⟩
   cases j with
   | zero =>
    left
    rw [if_pos (by simpa using h2), zv12, decide_eq_true_eq]
    simpa using h3
   | succ j => exact Or.inr ⟨j, by simpa using h1, by rw [show i + 1 + j = i + (j + 1) by omega]; exact h2, by simpa using h3⟩
noncomputable def Rb (N : Nat) (nxt : Nat -> List Nat) (good : Nat -> Bool) : Nat -> Nat -> Bool
 | 0, n => decide (n < N) && good n
 | i + 1, n => Rb N nxt good i n || (decide (n < N) && (nxt n).any (Rb N nxt good i))
theorem zc2 {α : Type} (f : Nat -> α) (N n : Nat) (d : α) : ((List.range N).map f).getD n d = if n < N then f n else d := by
 rw [List.getD_eq_getElem?_getD, List.getElem?_map]
 split
 ·rename_i h
  rw [List.getElem?_range h]
  rfl
 ·rename_i h
  rw [List.getElem?_eq_none (by simpa using h)]
  rfl
theorem ze14 {N : Nat} {nxt : Nat -> List Nat} {good : Nat -> Bool} : ∀ (i n : Nat), (lev (before 0 ((List.range N).map nxt)) (setOf ((List.range N).filter good)) i).testBit n = Rb N nxt good i n
 | 0, n => by
  show (setOf _).testBit n = (decide (n < N) && good n)
  rw [zv12, Bool.eq_iff_iff, decide_eq_true_eq, List.mem_filter, List.mem_range, Bool.and_eq_true, decide_eq_true_eq]
 | i + 1, n => by
  show (lev _ _ i ||| before 0 _ (lev _ _ i)).testBit n = (Rb N nxt good i n || (decide (n < N) && (nxt n).any (Rb N nxt good i)))
  rw [Nat.testBit_or, ze14 i n, zd14, zc2]
  have e : (fun k => (lev (before 0 ((List.range N).map nxt)) (setOf ((List.range N).filter good)) i).testBit k) = Rb N nxt good i := funext fun k => ze14 i k
  by_cases h : n < N
  ·simp [h, e]
  ·simp [h]
theorem zl17 {N : Nat} {nxt : Nat -> List Nat} {good : Nat -> Bool} (n : Nat) :
  (∀ j, rankIn (growing (before 0 ((List.range N).map nxt)) N (setOf ((List.range N).filter good))) n = some j ↔ (Rb N nxt good j n = true /\ ∀ i, i < j -> Rb N nxt good i n = false)) /\
  (rankIn (growing (before 0 ((List.range N).map nxt)) N (setOf ((List.range N).filter good))) n = none ↔ ∀ j, Rb N nxt good j n = false) := by
 have h := zr10 (f := before 0 ((List.range N).map nxt)) (N := N) (fun m n h => by
  rw [zd14, zc2] at h
  by_cases hn : n < N
  ·exact hn
  ·simp [hn] at h) N (setOf ((List.range N).filter good)) (fun n h => by
  rw [zv12, decide_eq_true_eq, List.mem_filter, List.mem_range] at h
  exact h.1) (zx18 _ _) n
 simp only [ze14] at h
 exact h
noncomputable def Fw (N : Nat) (nxt : Nat -> List Nat) (a : Nat) : Nat -> Nat -> Prop
 | 0, n => n = a
 | i + 1, n => Fw N nxt a i n \/ ∃ k, k < N /\ Fw N nxt a i k /\ n ∈ nxt k
theorem ze11 {N : Nat} {nxt : Nat -> List Nat} {a : Nat} : ∀ (i n : Nat), (lev (after 0 ((List.range N).map nxt)) (2 ^ a) i).testBit n = true ↔ Fw N nxt a i n
 | 0, n => by
  show (2 ^ a).testBit n = true ↔ n = a
  rw [Nat.testBit_two_pow, decide_eq_true_eq]
  exact ⟨fun e => e.symm, fun e => e.symm⟩
 | i + 1, n => by
  show (lev _ _ i ||| after 0 _ (lev _ _ i)).testBit n = true ↔ (Fw N nxt a i n \/ ∃ k, k < N /\ Fw N nxt a i k /\ n ∈ nxt k)
  rw [Nat.testBit_or, Bool.or_eq_true, ze11 i n, zy14]
  refine or_congr Iff.rfl ⟨?_, ?_⟩
  ·rintro ⟨j, h1, h2, h3⟩
   rw [List.length_map, List.length_range] at h1
   rw [zc2, if_pos h1] at h3
   rw [Nat.zero_add] at h2
   exact ⟨j, h1, (ze11 i j).mp h2, h3⟩
  ·rintro ⟨k, h1, h2, h3⟩
   refine ⟨k, by simpa using h1, by rw [Nat.zero_add]; exact (ze11 i k).mpr h2, ?_⟩
   rw [zc2, if_pos h1]
   exact h3
theorem zu23 {N : Nat} {nxt : Nat -> List Nat} {a : Nat} (ha : a < N) (hn : ∀ k, k < N -> ∀ m ∈ nxt k, m < N) (n : Nat) :
  (∀ j, rankIn (growing (after 0 ((List.range N).map nxt)) N (2 ^ a)) n = some j ↔ (Fw N nxt a j n /\ ∀ i, i < j -> ¬ Fw N nxt a i n)) /\
  (rankIn (growing (after 0 ((List.range N).map nxt)) N (2 ^ a)) n = none ↔ ∀ j, ¬ Fw N nxt a j n) := by
 have h := zr10 (f := after 0 ((List.range N).map nxt)) (N := N) (fun m n h => by
  rw [zy14] at h
  obtain ⟨j, h1, _, h3⟩ := h
  rw [List.length_map, List.length_range] at h1
  rw [zc2, if_pos h1] at h3
  exact hn j h1 n h3) N (2 ^ a) (fun n h => by
  rw [Nat.testBit_two_pow, decide_eq_true_eq] at h
  omega) (zx18 _ _) n
 have e : ∀ i, ((lev (after 0 ((List.range N).map nxt)) (2 ^ a) i).testBit n = false) ↔ ¬ Fw N nxt a i n := fun i => by
  rw [<- ze11, Bool.not_eq_true]
 simp only [ze11, e] at h
 exact h
end Ph
namespace Ph
open Vbtaai
noncomputable def Lv (bes : Nat -> List Nat) (L0 : List Nat) : Nat -> Nat -> Prop
 | 0, n => n ∈ L0
 | i + 1, n => Lv bes L0 i n \/ ∃ k, Lv bes L0 i k /\ n ∈ bes k
theorem zs10 {bes : Nat -> List Nat} {L0 : List Nat} {n : Nat} : ∀ {i j : Nat}, i <= j -> Lv bes L0 i n -> Lv bes L0 j n
 | i, 0, h, e => by rw [Nat.le_zero.mp h] at e; exact e
 | i, j + 1, h, e => by
  by_cases hij : i = j + 1
  ·rw [hij] at e; exact e
  ·exact Or.inl (zs10 (by omega) e)
theorem zl23 {bes : Nat -> List Nat} {L0 : List Nat} {N : Nat} (h0 : ∀ n ∈ L0, n < N) (hb : ∀ k, k < N -> ∀ n ∈ bes k, n < N) : ∀ {i n : Nat}, Lv bes L0 i n -> n < N
 | 0, n, h => h0 n h
 | i + 1, n, h => by
  rcases h with h | ⟨k, h1, h2⟩
  ·exact zl23 h0 hb h
  ·exact hb k (zl23 h0 hb h1) n h2
theorem zm17 {bes : Nat -> List Nat} {L0 : List Nat} {n : Nat} : ∀ {k : Nat}, Lv bes L0 k n -> ∃ j, j <= k /\ Lv bes L0 j n /\ ∀ i, i < j -> ¬ Lv bes L0 i n
 | 0, h => ⟨0, Nat.le_refl _, h, fun i hi => absurd hi (Nat.not_lt_zero i)⟩
 | k + 1, h => by
  by_cases hk : Lv bes L0 k n
  ·obtain ⟨j, h1, h2⟩ := zm17 hk
   exact ⟨j, by omega, h2⟩
  ·exact ⟨k + 1, Nat.le_refl _, h, fun i hi h' => hk (zs10 (by omega) h')⟩
noncomputable def zs5 (num : Nat) (st : List Nat × List Nat) (m : Nat) : List Nat × List Nat := if st.1.getD m 0 = 0 then (st.1.set m num, st.2 ++ [m]) else st
noncomputable def zf8 (l : List Nat) : Nat := l.count 0
theorem zn17 {l : List Nat} {m x n d : Nat} (hm : m < l.length) : (l.set m x).getD n d = if n = m then x else l.getD n d := by
 rw [List.getD_eq_getElem?_getD, List.getElem?_set, List.getD_eq_getElem?_getD]
 by_cases h : n = m
 ·subst h; simp [hm]
 ·rw [if_neg (fun e => h e.symm), if_neg h]
theorem zs27 {l : List Nat} {m x : Nat} (hm : m < l.length) (h0 : l.getD m 0 = 0) (hx : x ≠ 0) : zf8 (l.set m x) + 1 = zf8 l := by
 unfold zf8
 rw [List.getD_eq_getElem?_getD, List.getElem?_eq_getElem hm] at h0
 have h0 : l[m] = 0 := h0
 have hpos : 0 < l.count 0 := List.count_pos_iff.mpr (by rw [<- h0]; exact List.getElem_mem hm)
 rw [List.count_set hm]
 simp [h0, hx]
 omega
theorem zy18 {num N : Nat} (hnum : num ≠ 0) : ∀ (ms : List Nat) (st : List Nat × List Nat), st.1.length = N -> (∀ m ∈ ms, m < N) ->
  (ms.foldl (zs5 num) st).1.length = N /\ (∀ n, (ms.foldl (zs5 num) st).1.getD n 0 = if st.1.getD n 0 = 0 /\ n ∈ ms then num else st.1.getD n 0) /\
  (∀ n, n ∈ (ms.foldl (zs5 num) st).2 ↔ n ∈ st.2 \/ (n ∈ ms /\ st.1.getD n 0 = 0)) /\ zf8 (ms.foldl (zs5 num) st).1 + (ms.foldl (zs5 num) st).2.length = zf8 st.1 + st.2.length
 | [], st, hl, _ => by simp [hl]
 | m :: r, st, hl, h => by
  have hm : m < N := h m (by simp)
  have hr : ∀ m ∈ r, m < N := fun x hx => h x (by simp [hx])
  rw [List.foldl_cons]
  by_cases h0 : st.1.getD m 0 = 0
  ·have e : zs5 num st m = (st.1.set m num, st.2 ++ [m]) := by unfold zs5; rw [if_pos h0]
   rw [e]
   obtain ⟨i1, i2, i3, i4⟩ := zy18 hnum r (st.1.set m num, st.2 ++ [m]) (by simp [hl]) hr
   have hz := zs27 (x := num) (by omega : m < st.1.length) h0 hnum
   refine ⟨i1, fun n => ?_, fun n => ?_, ?_⟩
   ·rw [i2 n, zn17 (by omega)]
    by_cases hn : n = m
    ·subst hn
     rw [if_pos rfl, if_neg (by simp [hnum]), if_pos ⟨h0, by simp⟩]
    ·simp [hn]
   ·rw [i3 n]
    show (n ∈ st.2 ++ [m] \/ (n ∈ r /\ (st.1.set m num).getD n 0 = 0)) ↔ _
    rw [zn17 (by omega)]
    by_cases hn : n = m
    ·subst hn
     simp [h0, -List.getD_eq_getElem?_getD]
    ·simp [hn]
   ·rw [i4]
    show zf8 (st.1.set m num) + (st.2 ++ [m]).length = _
    rw [List.length_append, List.length_singleton]
    omega
  ·have e : zs5 num st m = st := by unfold zs5; rw [if_neg h0]
   rw [e]
   obtain ⟨i1, i2, i3, i4⟩ := zy18 hnum r st hl hr
   refine ⟨i1, fun n => ?_, fun n => ?_, i4⟩
   ·rw [i2 n]
    by_cases hn : n = m
    ·subst hn; simp [h0, -List.getD_eq_getElem?_getD]
    ·simp [hn]
   ·rw [i3 n]
    by_cases hn : n = m
    ·subst hn; simp [h0, -List.getD_eq_getElem?_getD]
    ·simp [hn]
structure Bfs (N : Nat) (bes : Nat -> List Nat) (L0 : List Nat) (k : Nat) (nums layer : List Nat) : Prop where
 len : nums.length = N
 num : ∀ n, n < N -> ∀ j, nums.getD n 0 = j + 1 ↔ (j <= k /\ Lv bes L0 j n /\ ∀ i, i < j -> ¬ Lv bes L0 i n)
 lay : ∀ n, n ∈ layer ↔ (n < N /\ nums.getD n 0 = k + 1)
noncomputable def za12 (bes : Nat -> List Nat) (num : Nat) (nums layer : List Nat) : List Nat × List Nat := (layer.flatMap bes).foldl (zs5 num) (nums, [])
section
variable {N : Nat} {bes : Nat -> List Nat} {L0 : List Nat} {k : Nat} {nums layer : List Nat}
theorem Bfs.zero (B : Bfs N bes L0 k nums layer) {n : Nat} (hn : n < N) : nums.getD n 0 = 0 ↔ ¬ Lv bes L0 k n := by
 constructor
 ·intro h0 hk
  obtain ⟨j, h1, h2⟩ := zm17 hk
  have := (B.num n hn j).mpr ⟨h1, h2⟩
  omega
 ·intro hk
  cases e : nums.getD n 0 with
  | zero => rfl
  | succ j =>
   obtain ⟨h1, h2, _⟩ := (B.num n hn j).mp e
   exact absurd (zs10 h1 h2) hk
theorem Bfs.new (B : Bfs N bes L0 k nums layer) (h0 : ∀ n ∈ L0, n < N) (hb : ∀ k, k < N -> ∀ n ∈ bes k, n < N) {n : Nat} (h1 : Lv bes L0 (k + 1) n) (h2 : ¬ Lv bes L0 k n) : n ∈ layer.flatMap bes := by
 rcases h1 with h1 | ⟨l, h3, h4⟩
 ·exact absurd h1 h2
 ·have hl : l < N := zl23 h0 hb h3
  obtain ⟨j, h5, h6, h7⟩ := zm17 h3
  by_cases hj : j = k
  ·subst hj
   exact List.mem_flatMap.mpr ⟨l, (B.lay l).mpr ⟨hl, (B.num l hl j).mpr ⟨Nat.le_refl _, h6, h7⟩⟩, h4⟩
  ·refine absurd (zs10 (show j + 1 <= k by omega) ?_) h2
   exact Or.inr ⟨l, h6, h4⟩
theorem Bfs.lay_lt (B : Bfs N bes L0 k nums layer) (hb : ∀ k, k < N -> ∀ n ∈ bes k, n < N) : ∀ m ∈ layer.flatMap bes, m < N := fun m hm => by
 obtain ⟨l, h1, h2⟩ := List.mem_flatMap.mp hm
 exact hb l ((B.lay l).mp h1).1 m h2
theorem Bfs.next (B : Bfs N bes L0 k nums layer) (h0 : ∀ n ∈ L0, n < N) (hb : ∀ k, k < N -> ∀ n ∈ bes k, n < N) :
  Bfs N bes L0 (k + 1) (za12 bes (k + 2) nums layer).1 (za12 bes (k + 2) nums layer).2 /\ zf8 (za12 bes (k + 2) nums layer).1 + (za12 bes (k + 2) nums layer).2.length = zf8 nums := by
 obtain ⟨v1, v2, v3, v4⟩ := zy18 (num := k + 2) (N := N) (by omega) (layer.flatMap bes) (nums, []) B.len (B.lay_lt hb)
 change (za12 bes (k + 2) nums layer).1.length = N at v1
 change ∀ n, (za12 bes (k + 2) nums layer).1.getD n 0 = if nums.getD n 0 = 0 /\ n ∈ layer.flatMap bes then k + 2 else nums.getD n 0 at v2
 change ∀ n, n ∈ (za12 bes (k + 2) nums layer).2 ↔ n ∈ [] \/ (n ∈ layer.flatMap bes /\ nums.getD n 0 = 0) at v3
 have key : ∀ n, n < N -> n ∈ layer.flatMap bes -> Lv bes L0 (k + 1) n := fun n _ hm => by
  obtain ⟨l, h1, h2⟩ := List.mem_flatMap.mp hm
  obtain ⟨h3, h4⟩ := (B.lay l).mp h1
  exact Or.inr ⟨l, ((B.num l h3 k).mp h4).2.1, h2⟩
 refine ⟨⟨v1, fun n hn j => ?_, fun n => ?_⟩, v4⟩
 ·rw [v2 n]
  by_cases hz : nums.getD n 0 = 0
  ·have hk := (B.zero hn).mp hz
   by_cases hm : n ∈ layer.flatMap bes
   ·rw [if_pos ⟨hz, hm⟩]
    constructor
    ·intro e
     have : j = k + 1 := by omega
     subst this
     exact ⟨Nat.le_refl _, key n hn hm, fun i hi h => hk (zs10 (by omega) h)⟩
    ·rintro ⟨h1, h2, _⟩
     by_cases hj : j <= k
     ·exact absurd (zs10 hj h2) hk
     ·omega
   ·rw [if_neg (fun h => hm h.2), hz]
    constructor
    ·intro e; omega
    ·rintro ⟨h1, h2, _⟩
     by_cases hj : j <= k
     ·exact absurd (zs10 hj h2) hk
     ·have : j = k + 1 := by omega
      subst this
      exact absurd (B.new h0 hb h2 hk) hm
  ·rw [if_neg (fun h => hz h.1), B.num n hn j]
   constructor
   ·rintro ⟨h1, h2⟩
    exact ⟨by omega, h2⟩
   ·rintro ⟨h1, h2, h3⟩
    refine ⟨?_, h2, h3⟩
    by_cases hj : j <= k
    ·exact hj
    ·exfalso
     refine hz ((B.zero hn).mpr fun h => h3 k (by omega) h)
 ·rw [v3 n, v2 n]
  constructor
  ·rintro (h | ⟨h1, h2⟩)
   ·cases h
   ·exact ⟨B.lay_lt hb n h1, by rw [if_pos ⟨h2, h1⟩]⟩
  ·rintro ⟨h1, h2⟩
   right
   by_cases hc : nums.getD n 0 = 0 /\ n ∈ layer.flatMap bes
   ·exact ⟨hc.2, hc.1⟩
   ·rw [if_neg hc] at h2
    have := ((B.num n h1 (k + 1)).mp h2).1
    omega
noncomputable def zz18 (N : Nat) (bes : Nat -> List Nat) (L0 nums : List Nat) : Prop := nums.length = N /\ ∀ n, n < N -> ∀ j, nums.getD n 0 = j + 1 ↔ (Lv bes L0 j n /\ ∀ i, i < j -> ¬ Lv bes L0 i n)
theorem Bfs.done (B : Bfs N bes L0 k nums []) (h0 : ∀ n ∈ L0, n < N) (hb : ∀ k, k < N -> ∀ n ∈ bes k, n < N) : zz18 N bes L0 nums := by
 have h1 : ∀ n, Lv bes L0 (k + 1) n -> Lv bes L0 k n := fun n h => by
  apply Classical.byContradiction
  intro hk
  have := B.new h0 hb h hk
  simp at this
 have h2 : ∀ i n, Lv bes L0 (k + i) n -> Lv bes L0 k n := by
  intro i
  induction i with
  | zero => intro n h; exact h
  | succ i ih =>
   intro n h
   rcases h with h | ⟨l, h3, h4⟩
   ·exact ih n h
   ·exact h1 n (Or.inr ⟨l, ih l h3, h4⟩)
 refine ⟨B.len, fun n hn j => ?_⟩
 rw [B.num n hn j]
 constructor
 ·rintro ⟨_, h⟩
  exact h
 ·rintro ⟨h3, h4⟩
  refine ⟨?_, h3, h4⟩
  by_cases hj : j <= k
  ·exact hj
  ·have h5 : Lv bes L0 k n := h2 (j - k) n (by rw [show k + (j - k) = j by omega]; exact h3)
   exact absurd h5 (h4 k (by omega))
theorem Bfs.start {nums : List Nat} (hl : nums.length = N) (hn : ∀ n, nums.getD n 0 = if n ∈ L0 then 1 else 0) (h0 : ∀ n ∈ L0, n < N) : Bfs N bes L0 0 nums L0 := by
 refine ⟨hl, fun n h j => ?_, fun n => ?_⟩
 ·rw [hn n]
  by_cases hm : n ∈ L0
  ·rw [if_pos hm]
   constructor
   ·intro e
    have : j = 0 := by omega
    subst this
    exact ⟨Nat.le_refl _, hm, fun i hi => absurd hi (Nat.not_lt_zero i)⟩
   ·rintro ⟨h1, _⟩
    omega
  ·rw [if_neg hm]
   constructor
   ·intro e; omega
   ·rintro ⟨h1, h2, _⟩
    have : j = 0 := by omega
    subst this
    exact absurd h2 hm
 ·rw [hn n]
  by_cases hm : n ∈ L0
  ·simp [hm, h0 n hm]
  ·simp [hm]
end
theorem za19 {N : Nat} {bes : Nat -> List Nat} {L0 nums : List Nat} {w : List Nat} (h : zz18 N bes L0 nums) (hw : ∀ n, n < N -> ∀ j, rankIn w n = some j ↔ (Lv bes L0 j n /\ ∀ i, i < j -> ¬ Lv bes L0 i n)) : nums = (List.range N).map fun n => told (rankIn w n) := by
 refine List.ext_getElem (by simp [h.1]) fun n h1 h2 => ?_
 have hn : n < N := by rw [h.1] at h1; exact h1
 have e : nums.getD n 0 = nums[n] := by rw [List.getD_eq_getElem?_getD, List.getElem?_eq_getElem h1]; rfl
 rw [List.getElem_map, List.getElem_range, <- e]
 cases r : rankIn w n with
 | some j => exact (h.2 n hn j).mpr ((hw n hn j).mp r)
 | none =>
  cases e : nums.getD n 0 with
  | zero => rfl
  | succ j =>
   have := (hw n hn j).mpr ((h.2 n hn j).mp e)
   rw [r] at this
   cases this
theorem zv23 {t : List (List Nat)} : (List.range t.length).map (fun k => t.getD k []) = t := by
 refine List.ext_getElem (by simp) fun n h1 h2 => ?_
 rw [List.getElem_map, List.getElem_range, List.getD_eq_getElem?_getD, List.getElem?_eq_getElem h2]
 rfl
noncomputable def zp13 (t : List (List Nat)) (good : Nat -> Bool) : List Nat := (List.range t.length).map fun n => told (rankIn (growing (before 0 t) t.length (setOf ((List.range t.length).filter good))) n)
noncomputable def zd3 (t : List (List Nat)) (a : Nat) : List Nat := (List.range t.length).map fun n => told (rankIn (growing (after 0 t) t.length (2 ^ a)) n)
theorem zm23 {N : Nat} {nxt bes : Nat -> List Nat} {good : Nat -> Bool} (hb : ∀ m, m < N -> ∀ k, k ∈ bes m ↔ k < N /\ m ∈ nxt k) : ∀ (j n : Nat), Lv bes ((List.range N).filter good) j n ↔ Rb N nxt good j n = true
 | 0, n => by
  show n ∈ _ ↔ (decide (n < N) && good n) = true
  rw [List.mem_filter, List.mem_range, Bool.and_eq_true, decide_eq_true_eq]
 | j + 1, n => by
  show (Lv bes _ j n \/ ∃ k, Lv bes _ j k /\ n ∈ bes k) ↔ (Rb N nxt good j n || (decide (n < N) && (nxt n).any (Rb N nxt good j))) = true
  have hlt : ∀ j k, Rb N nxt good j k = true -> k < N := by
   intro j
   induction j with
   | zero => intro k h; simp [Rb] at h; exact h.1
   | succ j ih =>
    intro k h
    simp [Rb] at h
    rcases h with h | h
    ·exact ih k h
    ·exact h.1
  rw [Bool.or_eq_true, zm23 hb j n, Bool.and_eq_true, decide_eq_true_eq, List.any_eq_true]
  refine or_congr Iff.rfl ⟨?_, ?_⟩
  ·rintro ⟨k, h1, h2⟩
   have h1' := (zm23 hb j k).mp h1
   have := (hb k (hlt j k h1') n).mp h2
   exact ⟨this.1, k, this.2, h1'⟩
  ·rintro ⟨h1, k, h2, h3⟩
   exact ⟨k, (zm23 hb j k).mpr h3, (hb k (hlt j k h3) n).mpr ⟨h1, h2⟩⟩
theorem zt26 {t b : List (List Nat)} {good : Nat -> Bool} {nums : List Nat} (hb : ∀ m, m < t.length -> ∀ k, k ∈ b.getD m [] ↔ k < t.length /\ m ∈ t.getD k [])
  (h : zz18 t.length (fun k => b.getD k []) ((List.range t.length).filter good) nums) : nums = zp13 t good := by
 refine za19 h fun n hn j => ?_
 have := (zl17 (N := t.length) (nxt := fun k => t.getD k []) (good := good) n).1 j
 rw [zv23] at this
 rw [this]
 have e := zm23 (N := t.length) (nxt := fun k => t.getD k []) (good := good) hb
 constructor
 ·rintro ⟨h1, h2⟩
  exact ⟨(e j n).mpr h1, fun i hi h3 => by have h4 := h2 i hi; rw [(e i n).mp h3] at h4; cases h4⟩
 ·rintro ⟨h1, h2⟩
  exact ⟨(e j n).mp h1, fun i hi => by rw [<- Bool.not_eq_true]; exact fun h3 => h2 i hi ((e i n).mpr h3)⟩
theorem zn23 {N : Nat} {nxt : Nat -> List Nat} {a : Nat} (ha : a < N) (hn : ∀ k, k < N -> ∀ m ∈ nxt k, m < N) : ∀ (j n : Nat), Lv nxt [a] j n ↔ Fw N nxt a j n
 | 0, n => by
  show n ∈ [a] ↔ n = a
  simp
 | j + 1, n => by
  show (Lv nxt [a] j n \/ ∃ k, Lv nxt [a] j k /\ n ∈ nxt k) ↔ (Fw N nxt a j n \/ ∃ k, k < N /\ Fw N nxt a j k /\ n ∈ nxt k)
  refine or_congr (zn23 ha hn j n) ⟨?_, ?_⟩
  ·rintro ⟨k, h1, h2⟩
   exact ⟨k, zl23 (by simp [ha]) hn h1, (zn23 ha hn j k).mp h1, h2⟩
  ·rintro ⟨k, _, h1, h2⟩
   exact ⟨k, (zn23 ha hn j k).mpr h1, h2⟩
theorem zu26 {t : List (List Nat)} {a : Nat} {nums : List Nat} (ha : a < t.length) (hn : ∀ k, k < t.length -> ∀ m ∈ t.getD k [], m < t.length) (h : zz18 t.length (fun k => t.getD k []) [a] nums) : nums = zd3 t a := by
 refine za19 h fun n hnl j => ?_
 have := (zu23 (N := t.length) (nxt := fun k => t.getD k []) ha hn n).1 j
 rw [zv23] at this
 rw [this]
 have e := zn23 (N := t.length) (nxt := fun k => t.getD k []) ha hn
 rw [e j n]
 exact ⟨fun h => ⟨h.1, fun i hi h3 => h.2 i hi ((e i n).mp h3)⟩, fun h => ⟨h.1, fun i hi h3 => h.2 i hi ((e i n).mpr h3)⟩⟩
end Ph
namespace Ph
open Vbtaai
structure WfS (s : Story) : Prop where
 sz : ∀ z ∈ s.sizes, 2 <= z /\ z <= 8
 len : s.sizes.length <= 8
 cnt : count s <= 1024
 fst : Fits s.sizes s.first
 na : s.actions.length <= 16
 nt : s.turns.length <= 8
 ng : s.goods.length <= 4
 nb : s.bads.length <= 4
theorem WfS.pos {s : Story} (h : WfS s) : ∀ z ∈ s.sizes, 0 < z := fun z hz => by have := (h.sz z hz).1; omega
theorem WfS.cpos {s : Story} (h : WfS s) : 0 < count s := zs23 h.pos
noncomputable def zh (s : Story) (n : Nat) : Nat := ending s (decode s.sizes n)
noncomputable def zi (s : Story) : List Nat := (places s).map (zh s)
noncomputable def effd (s : Story) (r : Rule) (n : Nat) : Int := if holds r.conds (decode s.sizes n) = true then ((encode s.sizes (effects s.sizes (decode s.sizes n) r.effs) : Nat) : Int) else -1
noncomputable def zb2 (s : Story) (n : Nat) : Nat := encode s.sizes (s.turns.foldl (turn s.sizes) (decode s.sizes n))
noncomputable def zb4 : Rule := ⟨[], []⟩
noncomputable def lead (s : Story) (n a : Nat) : Option Nat := (leads s n).getD a none
theorem zb22 (s : Story) (n : Nat) : (leads s n).length = s.actions.length := by unfold leads; rw [List.length_map]
theorem zt27 (s : Story) (l : List Nat) : ending s l <= 2 := by
 unfold ending
 split
 ·omega
 ·split <;> omega
theorem zy20 {s : Story} (h : WfS s) {n a : Nat} (ha : a < s.actions.length) : lead s n a = if zh s n = 0 /\ effd s (s.actions.getD a zb4) n ≠ -1 then some (zb2 s (effd s (s.actions.getD a zb4) n).toNat) else none := by
 have e1 : lead s n a = match does s (decode s.sizes n) (s.actions.getD a zb4) with | some l => some (encode s.sizes l) | none => none := by
  unfold lead leads
  rw [List.getD_eq_getElem?_getD, List.getElem?_map, List.getD_eq_getElem?_getD, List.getElem?_eq_getElem ha]
  rfl
 rw [e1]
 generalize s.actions.getD a zb4 = r
 unfold does effd zh
 by_cases h1 : ending s (decode s.sizes n) = 0
 ·rw [if_neg (by simp [h1])]
  by_cases h2 : holds r.conds (decode s.sizes n) = true
  ·rw [if_pos h2, if_pos h2, if_pos ⟨h1, by omega⟩]
   show some (encode s.sizes _) = some _
   unfold zb2
   rw [Int.toNat_natCast, zg3 (zk6 h.pos _ (zq3 n h.pos))]
  ·rw [if_neg h2, if_neg h2, if_neg (by simp)]
 ·rw [if_pos h1, if_neg (by simp [h1])]
theorem zc22 {s : Story} {n a : Nat} (ha : s.actions.length <= a) : lead s n a = none := by
 unfold lead
 rw [List.getD_eq_getElem?_getD, List.getElem?_eq_none (by rw [zb22]; exact ha)]
 rfl
theorem zv16 {s : Story} (h : WfS s) (n : Nat) : zb2 s n < count s := zu6 (zz11 h.pos _ (zq3 n h.pos))
theorem ze29 {s : Story} (h : WfS s) (r : Rule) (n : Nat) : -1 <= effd s r n /\ effd s r n < count s := by
 unfold effd
 have h1 : encode s.sizes (effects s.sizes (decode s.sizes n) r.effs) < count s := zu6 (zk6 h.pos _ (zq3 n h.pos))
 have h2 := h.cpos
 split <;> omega
theorem zf26 {s : Story} (h : WfS s) {n a m : Nat} (e : lead s n a = some m) : m < count s := by
 by_cases ha : a < s.actions.length
 ·rw [zy20 h ha] at e
  split at e
  ·cases e
   exact zv16 h _
  ·cases e
 ·rw [zc22 (by omega)] at e
  cases e
theorem zb19 : ∀ (L : List (Option Nat)) (i : Nat), indexed i L = ((List.range L.length).filter fun a => (L.getD a none).isSome).map fun a => (i + a, (L.getD a none).getD 0)
 | [], i => rfl
 | x :: r, i => by
  rw [List.length_cons, List.range_succ_eq_map, List.filter_cons, List.filter_map]
  have ih := zb19 r (i + 1)
  have e : (List.map Nat.succ (List.filter ((fun a => ((x :: r).getD a none).isSome) ∘ Nat.succ) (List.range r.length))).map (fun a => (i + a, ((x :: r).getD a none).getD 0)) = indexed (i + 1) r := by
   rw [ih, List.map_map]
   refine List.map_congr_left fun a ha => ?_
   show (i + (a + 1), _) = (i + 1 + a, _)
   rw [show i + (a + 1) = i + 1 + a by omega]
   rfl
  cases x with
  | none =>
   rw [if_neg (by simp), e]
   rfl
  | some m =>
   rw [if_pos (by simp), List.map_cons, e]
   rfl
noncomputable def zc1 (s : Story) (n : Nat) : List Nat := (List.range s.actions.length).filter fun a => (lead s n a).isSome
noncomputable def zr3 (s : Story) (n a : Nat) : Nat := (lead s n a).getD 0
theorem zf9 (s : Story) (n : Nat) : indexed 0 (leads s n) = (zc1 s n).map fun a => (a, zr3 s n a) := by
 rw [zb19, zb22]
 unfold zc1 zr3 lead
 refine List.map_congr_left fun a _ => ?_
 rw [Nat.zero_add]
theorem zg13 : ∀ (L : List (Option Nat)) (i : Nat), (indexed i L).map (·.2) = L.filterMap fun x => x
 | [], _ => rfl
 | none :: r, i => by
  rw [List.filterMap_cons_none rfl]
  exact zg13 r (i + 1)
 | some m :: r, i => by
  rw [List.filterMap_cons]
  show m :: (indexed (i + 1) r).map (·.2) = _
  rw [zg13 r (i + 1)]
theorem zf14 (s : Story) (n : Nat) : nexts s n = (zc1 s n).map (zr3 s n) := by
 unfold nexts
 rw [<- zg13 (leads s n) 0, zf9, List.map_map]
 rfl
theorem zx9 {s : Story} {n a : Nat} (h : a ∈ zc1 s n) : a < s.actions.length /\ lead s n a = some (zr3 s n a) := by
 unfold zc1 at h
 rw [List.mem_filter, List.mem_range] at h
 refine ⟨h.1, ?_⟩
 unfold zr3
 cases e : lead s n a with
 | none => rw [e] at h; simp at h
 | some m => rfl
theorem zd22 {s : Story} (h : WfS s) {n a : Nat} (ha : a ∈ zc1 s n) : zr3 s n a < count s := zf26 h (zx9 ha).2
theorem zb7 (s : Story) (n : Nat) : (zc1 s n).length <= s.actions.length := by
 unfold zc1
 refine Nat.le_trans (List.length_filter_le _ _) ?_
 rw [List.length_range]
 exact Nat.le_refl _
theorem zt10 {s : Story} (h : WfS s) {n m : Nat} (hm : m ∈ nexts s n) : m < count s := by
 rw [zf14] at hm
 obtain ⟨a, ha, rfl⟩ := List.mem_map.mp hm
 exact zd22 h ha
theorem ze22 (s : Story) (n : Nat) : (nexts s n).length <= s.actions.length := by
 rw [zf14, List.length_map]
 exact zb7 s n
theorem zd1 (s : Story) : (table s).length = count s := by unfold table places; rw [List.length_map, List.length_range]
theorem zx6 {s : Story} {n : Nat} (h : n < count s) : (table s).getD n [] = nexts s n := by
 unfold table places
 rw [zc2, if_pos h]
theorem zl9 {s : Story} (h : WfS s) : ∀ k, k < (table s).length -> ∀ m ∈ (table s).getD k [], m < (table s).length := fun k hk m hm => by
 rw [zd1] at hk ⊢
 rw [zx6 hk] at hm
 exact zt10 h hm
theorem zj25 {s : Story} (h : WfS s) : ∀ l ∈ table s, l.length <= 16 := fun l hl => by
 unfold table at hl
 obtain ⟨n, _, rfl⟩ := List.mem_map.mp hl
 exact Nat.le_trans (ze22 s n) h.na
theorem zg14 (s : Story) : winning s nobody = growing (before 0 (table s)) (count s) (setOf ((List.range (count s)).filter fun n => zh s n == 1)) := by
 have e : ∀ l : List Nat, l.filter (fun m => !nobody m) = l := fun l => by
  unfold nobody
  exact List.filter_eq_self.mpr fun _ _ => rfl
 unfold winning goodSet
 simp only [e]
 unfold table places zh nobody
 simp
theorem zu28 (s : Story) : ranks s = zp13 (table s) (fun n => zh s n == 1) := by
 unfold ranks zp13
 rw [zg14, zd1]
 rfl
theorem zl3 (s : Story) : (ranks s).length = count s := by unfold ranks places; simp
theorem zh5 {s : Story} {n : Nat} (h : n < count s) : (ranks s).getD n 0 = told (rank s n) := by
 unfold ranks places
 show ((List.range (count s)).map fun n => told (rankIn (winning s nobody) n)).getD n 0 = _
 rw [zc2, if_pos h]
 rfl
theorem zf22 : ∀ {l : List Nat} {n k : Nat}, rankIn l n = some k -> k < l.length
 | [], _, _, h => by cases h
 | m :: r, n, k, h => by
  rw [rankIn] at h
  split at h
  ·cases h; simp
  ·cases e : rankIn r n with
   | none => rw [e] at h; cases h
   | some j =>
    rw [e] at h
    cases h
    have := zf22 e
    simp; omega
theorem zw16 (f : Nat -> Nat) : ∀ (k m : Nat), (growing f k m).length <= k + 1
 | 0, m => by simp [growing]
 | k + 1, m => by
  rw [growing]
  split
  ·simp
  ·rw [List.length_cons]
   have := zw16 f k (m ||| f m)
   omega
theorem zg26 {s : Story} {n k : Nat} (h : rank s n = some k) : k <= count s := by
 have h1 := zf22 h
 rw [zg14] at h1
 have := zw16 (before 0 (table s)) (count s) (setOf ((List.range (count s)).filter fun n => zh s n == 1))
 omega
theorem zf12 (s : Story) (n : Nat) : (∀ j, rank s n = some j ↔ (Rb (count s) (nexts s) (fun n => zh s n == 1) j n = true /\ ∀ i, i < j -> Rb (count s) (nexts s) (fun n => zh s n == 1) i n = false)) /\
  (rank s n = none ↔ ∀ j, Rb (count s) (nexts s) (fun n => zh s n == 1) j n = false) := by
 unfold rank
 rw [zg14]
 exact zl17 n
theorem zz20 {N : Nat} {nxt : Nat -> List Nat} {good : Nat -> Bool} {n : Nat} : ∀ {i j : Nat}, i <= j -> Rb N nxt good i n = true -> Rb N nxt good j n = true
 | i, 0, h, e => by rw [Nat.le_zero.mp h] at e; exact e
 | i, j + 1, h, e => by
  by_cases hij : i = j + 1
  ·rw [hij] at e; exact e
  ·show (Rb N nxt good j n || _) = true
   rw [zz20 (by omega) e, Bool.true_or]
theorem zx16 {s : Story} {n k : Nat} : Rb (count s) (nexts s) (fun n => zh s n == 1) k n = true ↔ ∃ j, j <= k /\ rank s n = some j := by
 constructor
 ·intro h
  cases r : rank s n with
  | none => rw [(zf12 s n).2.mp r k] at h; cases h
  | some j =>
   refine ⟨j, ?_, rfl⟩
   by_cases hj : j <= k
   ·exact hj
   ·have := ((zf12 s n).1 j).mp r
    rw [this.2 k (by omega)] at h
    cases h
 ·rintro ⟨j, h1, h2⟩
  exact zz20 h1 (((zf12 s n).1 j).mp h2).1
theorem zs31 {s : Story} {n : Nat} : rank s n = some 0 ↔ n < count s /\ zh s n = 1 := by
 rw [(zf12 s n).1 0]
 constructor
 ·rintro ⟨h, _⟩
  simpa [Rb] using h
 ·intro h
  refine ⟨by simp [Rb, h], fun i hi => absurd hi (Nat.not_lt_zero i)⟩
theorem zq9 {s : Story} {n k : Nat} (h : rank s n = some k) : n < count s := by
 have h1 := (((zf12 s n).1 k).mp h).1
 clear h
 induction k generalizing n with
 | zero => simp [Rb] at h1; exact h1.1
 | succ k ih =>
  simp [Rb] at h1
  rcases h1 with h1 | h1
  ·exact ih h1
  ·exact h1.1
theorem zu27 {s : Story} {n k : Nat} (h : rank s n = some (k + 1)) : ∃ m ∈ nexts s n, rank s m = some k := by
 obtain ⟨h1, h2⟩ := ((zf12 s n).1 (k + 1)).mp h
 have h3 := h2 k (Nat.lt_succ_self k)
 have h1 : (Rb _ _ _ k n || (decide (n < count s) && (nexts s n).any (Rb (count s) (nexts s) (fun n => zh s n == 1) k))) = true := h1
 rw [h3, Bool.false_or, Bool.and_eq_true, List.any_eq_true] at h1
 obtain ⟨hn, m, hm, h4⟩ := h1
 obtain ⟨j, hj, hr⟩ := zx16.mp h4
 refine ⟨m, hm, ?_⟩
 by_cases e : j = k
 ·rw [<- e]; exact hr
 ·exfalso
  have h5 : Rb (count s) (nexts s) (fun n => zh s n == 1) (j + 1) n = true := by
   show (Rb _ _ _ j n || (decide (n < count s) && (nexts s n).any (Rb _ _ _ j))) = true
   rw [Bool.or_eq_true, Bool.and_eq_true, List.any_eq_true]
   exact Or.inr ⟨hn, m, hm, zx16.mpr ⟨j, Nat.le_refl _, hr⟩⟩
  have := zz20 (show j + 1 <= k by omega) h5
  rw [h3] at this
  cases this
theorem zt31 {s : Story} {n : Nat} (h : nexts s n ≠ []) : zh s n = 0 := by
 apply Classical.byContradiction
 intro hk
 apply h
 have : ∀ r, does s (decode s.sizes n) r = none := fun r => by unfold does; exact if_pos hk
 unfold nexts leads
 rw [List.filterMap_map]
 refine List.filterMap_eq_nil_iff.mpr fun r _ => ?_
 show (match does s (decode s.sizes n) r with | some l => some (encode s.sizes l) | none => none) = none
 rw [this r]
noncomputable def zt5 (s : Story) (n : Nat) : List Nat := (zc1 s n).filter fun a => told (rank s (zr3 s n a)) == told (rank s n) - 1
theorem zr9 {o : Option Nat} {k : Nat} : told o = k + 1 ↔ o = some k := by
 cases o with
 | none => simp [told]
 | some j => simp [told]
theorem zf11 {o : Option Nat} : told o = 0 ↔ o = none := by
 cases o with
 | none => simp [told]
 | some j => simp [told]
theorem zy9 {s : Story} {n k : Nat} (h : rank s n = some (k + 1)) : ∃ a r, zt5 s n = a :: r /\ hint s (winning s nobody) n = some (a, zr3 s n a) /\ a ∈ zc1 s n /\ rank s (zr3 s n a) = some k := by
 obtain ⟨m, hm, hr⟩ := zu27 h
 rw [zf14] at hm
 obtain ⟨a0, ha0, rfl⟩ := List.mem_map.mp hm
 have h0 : a0 ∈ zt5 s n := by
  unfold zt5
  rw [List.mem_filter]
  refine ⟨ha0, ?_⟩
  rw [hr, h]
  simp [told]
 cases e : zt5 s n with
 | nil => rw [e] at h0; cases h0
 | cons a r =>
  have ha : a ∈ zt5 s n := by rw [e]; simp
  have ha' := ha
  unfold zt5 at ha
  rw [List.mem_filter, h] at ha
  have hra : rank s (zr3 s n a) = some k := by
   have := ha.2
   simp [told] at this
   exact zr9.mp (by simpa [told] using this)
  refine ⟨a, r, rfl, ?_, ha.1, hra⟩
  have hh : hint s (winning s nobody) n = (indexed 0 (leads s n)).find? fun x => rankIn (winning s nobody) x.2 == some k := by
   unfold hint
   rw [show rankIn (winning s nobody) n = some (k + 1) from h]
  rw [hh, zf9, List.find?_map, <- List.head?_filter]
  have hp : (zc1 s n).filter ((fun x => rankIn (winning s nobody) x.2 == some k) ∘ fun a => (a, zr3 s n a)) = zt5 s n := by
   unfold zt5
   refine List.filter_congr fun b _ => ?_
   show (rank s (zr3 s n b) == some k) = _
   rw [h, Bool.eq_iff_iff, beq_iff_eq, beq_iff_eq]
   show _ ↔ told _ = k + 1 + 1 - 1
   rw [show k + 1 + 1 - 1 = k + 1 by omega, zr9]
  rw [hp, e]
  rfl
theorem zg22 {s : Story} {n : Nat} (h : rank s n = some 0 \/ rank s n = none) : hint s (winning s nobody) n = none := by
 unfold hint
 rcases h with h | h
 ·rw [show rankIn (winning s nobody) n = some 0 from h]
 ·rw [show rankIn (winning s nobody) n = none from h]
theorem zv28 {s : Story} {n : Nat} (h : rank s n = some 0) : ∀ f, wayFrom s (winning s nobody) f n = []
 | 0 => rfl
 | f + 1 => by rw [wayFrom, zg22 (.inl h)]
theorem zw28 {s : Story} {n k a : Nat} {r : List Nat} (h : rank s n = some (k + 1)) (e : zt5 s n = a :: r) (f : Nat) : wayFrom s (winning s nobody) (f + 1) n = a :: wayFrom s (winning s nobody) f (zr3 s n a) := by
 obtain ⟨a', r', e', hh, _⟩ := zy9 h
 rw [e] at e'
 cases e'
 rw [wayFrom, hh]
end Ph
namespace Ph
open Vbtaai
noncomputable def wv (s : Story) : Nat -> Nat -> Nat
 | 0, _ => 1
 | k + 1, n => ((nexts s n).map fun m => if rank s m = some k then wv s k m else 0).sum % PRIME
theorem zw23 (n : Nat) : ∀ l : List Nat, l.find? (fun x => x == n) = if n ∈ l then some n else none
 | [] => by simp
 | a :: r => by
  rw [List.find?_cons]
  by_cases h : a = n
  ·subst h; simp
  ·have h' : ¬ n = a := fun e => h e.symm
   rw [zw23 n r, show (a == n) = false by simp [h]]
   simp [h']
theorem zc19 (N : Nat) (p : Nat -> Bool) (g : Nat -> Nat) (n : Nat) : ((((List.range N).filter p).map fun n => (n, g n)).find? fun x => x.1 == n) = if n < N /\ p n = true then some (n, g n) else none := by
 rw [List.find?_map]
 have e : ((fun x : Nat × Nat => x.1 == n) ∘ fun n => (n, g n)) = fun x => x == n := rfl
 rw [e, zw23]
 by_cases h : n < N /\ p n = true
 ·rw [if_pos h, if_pos (by rw [List.mem_filter, List.mem_range]; exact h)]
  rfl
 ·rw [if_neg h, if_neg (by rw [List.mem_filter, List.mem_range]; exact h)]
  rfl
theorem zh22 (h : Nat -> Nat) : ∀ (l : List Nat) (a : Nat), l.foldl (fun a m => a + h m) a = a + (l.map h).sum
 | [], a => by simp
 | x :: r, a => by
  rw [List.foldl_cons, zh22 h r, List.map_cons, List.sum_cons]
  omega
noncomputable def valF (l : List (Nat × Nat)) (m : Nat) : Nat := match l.find? fun x => x.1 == m with
 | some x => x.2
 | none => 0
theorem zy16 (s : Story) : ∀ (k n : Nat), ((waysIn s (winning s nobody) k).find? fun x => x.1 == n) = if rank s n = some k then some (n, wv s k n) else none
 | 0, n => by
  rw [waysIn]
  show ((((List.range (count s)).filter _).map fun n => (n, 1)).find? _) = _
  rw [zc19 (count s) (fun n => rankIn (winning s nobody) n == some 0) (fun _ => 1)]
  by_cases h : rank s n = some 0
  ·rw [if_pos h, if_pos ⟨zq9 h, beq_iff_eq.mpr h⟩]
   rfl
  ·rw [if_neg h, if_neg fun z => h (beq_iff_eq.mp z.2)]
 | k + 1, n => by
  rw [waysIn]
  show ((((List.range (count s)).filter _).map fun n => (n, _)).find? _) = _
  refine (zc19 (count s) (fun n => rankIn (winning s nobody) n == some (k + 1)) (fun n => ((nexts s n).foldl (fun a m => a + valF (waysIn s (winning s nobody) k) m) 0) % PRIME) n).trans ?_
  by_cases h : rank s n = some (k + 1)
  ·rw [if_pos h, if_pos ⟨zq9 h, beq_iff_eq.mpr h⟩]
   congr 2
   rw [zh22, Nat.zero_add, wv]
   congr 3
   funext m
   unfold valF
   rw [zy16 s k m]
   by_cases h2 : rank s m = some k
   ·rw [if_pos h2, if_pos h2]
   ·rw [if_neg h2, if_neg h2]
  ·rw [if_neg h, if_neg fun z => h (beq_iff_eq.mp z.2)]
theorem zf29 {s : Story} {n k : Nat} (h : rank s n = some k) : ways s n = wv s k n := by
 unfold ways
 show (match rank s n with | some k => _ | none => 0) = _
 rw [h]
 show (match (waysIn s (winning s nobody) k).find? fun x => x.1 == n with | some x => x.2 | none => 0) = _
 rw [zy16, if_pos h]
theorem wv_lt (s : Story) (n : Nat) : ∀ k, wv s k n < PRIME
 | 0 => by show 1 < PRIME; decide
 | k + 1 => Nat.mod_lt _ (by decide)
noncomputable def getN : List (Nat × Nat) -> Nat -> Nat
 | [], _ => 0
 | (k', v') :: r, k => if k' = k then v' else getN r k
noncomputable def putN : List (Nat × Nat) -> Nat -> Nat -> List (Nat × Nat)
 | [], k, v => [(k, v)]
 | (k', v') :: r, k, v => if k' = k then (k', v) :: r else (k', v') :: putN r k v
noncomputable def wsum (W : Nat -> Nat) (c : List (Nat × Nat)) : Nat := (c.map fun x => x.2 * W x.1).sum
theorem zx23 (W : Nat -> Nat) (k v : Nat) : ∀ c, wsum W (putN c k v) + getN c k * W k = wsum W c + v * W k
 | [] => by simp [wsum, putN, getN]
 | (k', v') :: r => by
  by_cases h : k' = k
  ·subst h
   simp only [putN, getN, if_true]
   simp only [wsum, List.map_cons, List.sum_cons]
   omega
  ·have ih := zx23 W k v r
   simp only [putN, getN, if_neg h]
   simp only [wsum, List.map_cons, List.sum_cons] at ih ⊢
   omega
noncomputable def addN (c : List (Nat × Nat)) (m x : Nat) : List (Nat × Nat) := putN c m ((getN c m + x) % PRIME)
theorem zx28 (W : Nat -> Nat) (c : List (Nat × Nat)) (m x : Nat) : wsum W (addN c m x) % PRIME = (wsum W c + x * W m) % PRIME := by
 have h := zx23 W m ((getN c m + x) % PRIME) c
 have h2 : ((getN c m + x) % PRIME * W m) % PRIME = ((getN c m + x) * W m) % PRIME := Nat.mod_mul_mod _ _ _
 rw [Nat.add_mul] at h2
 unfold addN
 generalize wsum W (putN c m ((getN c m + x) % PRIME)) = A at *
 generalize (getN c m + x) % PRIME * W m = B at *
 generalize getN c m * W m = C at *
 generalize x * W m = D at *
 simp only [show PRIME = 1000000007 from rfl] at *
 omega
noncomputable def zw (c : List (Nat × Nat)) : List Nat := c.map (·.1)
theorem zo17 (k v j : Nat) : ∀ c, j ∈ zw (putN c k v) ↔ j = k \/ j ∈ zw c
 | [] => by simp [putN, zw]
 | (k', v') :: r => by
  have ih := zo17 k v j r
  by_cases h : k' = k
  ·subst h
   simp only [putN, if_pos rfl]
   simp [zw]
  ·simp only [putN, if_neg h]
   simp only [zw, List.map_cons, List.mem_cons] at ih ⊢
   rw [ih]
   constructor
   ·rintro (h | h | h)
    ·exact Or.inr (Or.inl h)
    ·exact Or.inl h
    ·exact Or.inr (Or.inr h)
   ·rintro (h | h | h)
    ·exact Or.inr (Or.inl h)
    ·exact Or.inl h
    ·exact Or.inr (Or.inr h)
theorem zd19 (k v : Nat) : ∀ c, (zw c).Nodup -> (zw (putN c k v)).Nodup
 | [], _ => by simp [putN, zw]
 | (k', v') :: r, hn => by
  have hn' : k' ∉ zw r /\ (zw r).Nodup := List.nodup_cons.mp hn
  by_cases h : k' = k
  ·simp only [putN, if_pos h]
   exact hn
  ·simp only [putN, if_neg h]
   refine List.nodup_cons.mpr ⟨fun hm => ?_, zd19 k v r hn'.2⟩
   rcases (zo17 k v k' r).mp hm with e | e
   ·exact h e
   ·exact hn'.1 e
noncomputable def zu5 (c : List (Nat × Nat)) (ms : List Nat) (x : Nat) : List (Nat × Nat) := ms.foldl (fun f m => addN f m x) c
noncomputable def zh4 (t : List (List Nat)) (rk : List Nat) (r : Nat) (f c : List (Nat × Nat)) : List (Nat × Nat) := c.foldl (fun f x => zu5 f ((t.getD x.1 []).filter fun m => rk.getD m 0 == r) x.2) f
theorem zz16 (W : Nat -> Nat) (x : Nat) : ∀ (ms : List Nat) (c : List (Nat × Nat)), wsum W (zu5 c ms x) % PRIME = (wsum W c + x * (ms.map W).sum) % PRIME
 | [], c => by simp [zu5]
 | m :: r, c => by
  show wsum W (zu5 (addN c m x) r x) % PRIME = _
  rw [zz16 W x r, Nat.add_mod, zx28, <- Nat.add_mod, List.map_cons, List.sum_cons, Nat.mul_add, Nat.add_assoc]
theorem ze19 (W V : Nat -> Nat) (t : List (List Nat)) (rk : List Nat) (r : Nat) : ∀ (c f : List (Nat × Nat)), (∀ n ∈ zw c, V n = (((t.getD n []).filter fun m => rk.getD m 0 == r).map W).sum % PRIME) -> wsum W (zh4 t rk r f c) % PRIME = (wsum W f + wsum V c) % PRIME
 | [], f, _ => by simp [zh4, wsum]
 | (n, v) :: c, f, h => by
  show wsum W (zh4 t rk r (zu5 f ((t.getD n []).filter fun m => rk.getD m 0 == r) v) c) % PRIME = _
  rw [ze19 W V t rk r c _ (fun m hm => h m (List.mem_cons_of_mem _ hm)), Nat.add_mod, zz16, <- Nat.add_mod]
  have hv := h n (List.mem_cons_self ..)
  generalize (((t.getD n []).filter fun m => rk.getD m 0 == r).map W).sum = S at *
  have e : wsum V ((n, v) :: c) = v * V n + wsum V c := by simp [wsum]
  rw [e, hv]
  have h2 : (v * (S % PRIME)) % PRIME = (v * S) % PRIME := Nat.mul_mod_mod _ _ _
  generalize v * (S % PRIME) = A at *
  generalize v * S = B at *
  clear hv e h
  simp only [show PRIME = 1000000007 from rfl] at *
  omega
theorem zh13 (x : Nat) (P : Nat -> Prop) : ∀ (ms : List Nat) (c : List (Nat × Nat)), (zw c).Nodup -> (∀ n ∈ zw c, P n) -> (∀ m ∈ ms, P m) -> (zw (zu5 c ms x)).Nodup /\ ∀ n ∈ zw (zu5 c ms x), P n
 | [], c, h1, h2, _ => ⟨h1, h2⟩
 | m :: r, c, h1, h2, h3 => by
  refine zh13 x P r (addN c m x) (zd19 _ _ _ h1) (fun n hn => ?_) fun k hk => h3 k (by simp [hk])
  rcases (zo17 _ _ n c).mp hn with e | e
  ·rw [e]; exact h3 m (by simp)
  ·exact h2 n e
theorem zh14 (t : List (List Nat)) (rk : List Nat) (r : Nat) (P : Nat -> Prop) : ∀ (c f : List (Nat × Nat)), (zw f).Nodup -> (∀ n ∈ zw f, P n) -> (∀ n ∈ zw c, ∀ m ∈ t.getD n [], rk.getD m 0 = r -> P m) ->
  (zw (zh4 t rk r f c)).Nodup /\ ∀ n ∈ zw (zh4 t rk r f c), P n
 | [], f, h1, h2, _ => ⟨h1, h2⟩
 | (n, v) :: c, f, h1, h2, h3 => by
  obtain ⟨a, b⟩ := zh13 v P ((t.getD n []).filter fun m => rk.getD m 0 == r) f h1 h2 fun m hm => by
   rw [List.mem_filter, beq_iff_eq] at hm
   exact h3 n (List.mem_cons_self ..) m hm.1 hm.2
  exact zh14 t rk r P c _ a b fun k hk => h3 k (List.mem_cons_of_mem _ hk)
theorem zi22 : ∀ (N : Nat) (l : List Nat), l.Nodup -> (∀ x ∈ l, x < N) -> l.length <= N
 | 0, [], _, _ => by simp
 | 0, x :: r, _, h => absurd (h x (by simp)) (Nat.not_lt_zero x)
 | N + 1, l, hn, h => by
  have ih := zi22 N (l.erase N) (hn.erase N) fun x hx => by
   have h1 := h x (List.mem_of_mem_erase hx)
   have h2 : x ≠ N := fun e => by
    subst e
    exact (List.Nodup.not_mem_erase hn) hx
   omega
  by_cases hm : N ∈ l
  ·rw [List.length_erase_of_mem hm] at ih
   omega
  ·rw [List.erase_of_not_mem hm] at ih
   omega
theorem zv27 {s : Story} (hw : WfS s) {k : Nat} {c : List (Nat × Nat)} (hk : ∀ n ∈ zw c, rank s n = some (k + 1)) :
  wsum (wv s k) (zh4 (table s) (ranks s) (k + 1) [] c) % PRIME = wsum (wv s (k + 1)) c % PRIME /\ (zw (zh4 (table s) (ranks s) (k + 1) [] c)).Nodup /\ ∀ n ∈ zw (zh4 (table s) (ranks s) (k + 1) [] c), rank s n = some k := by
 have hr : ∀ n m, n < count s -> m ∈ nexts s n -> ((ranks s).getD m 0 = k + 1 ↔ rank s m = some k) := fun n m hn hm => by
  rw [zh5 (zt10 hw hm), zr9]
 refine ⟨?_, zh14 _ _ _ (fun n => rank s n = some k) c [] (by simp [zw]) (by simp [zw]) fun n hn m hm e => ?_⟩
 ·rw [ze19 (wv s k) (wv s (k + 1)) _ _ _ c [] fun n hn => ?_]
  ·simp [wsum]
  ·have hc := zq9 (hk n hn)
   rw [zx6 hc, wv]
   congr 1
   have : ∀ l : List Nat, (∀ m ∈ l, m ∈ nexts s n) -> (l.map fun m => if rank s m = some k then wv s k m else 0).sum = ((l.filter fun m => (ranks s).getD m 0 == k + 1).map (wv s k)).sum := by
    intro l
    induction l with
    | nil => intro _; rfl
    | cons m r ih =>
     intro h
     have ih := ih fun x hx => h x (by simp [hx])
     have hm := hr n m hc (h m (by simp))
     rw [List.map_cons, List.sum_cons, List.filter_cons, ih]
     by_cases h2 : rank s m = some k
     ·rw [if_pos h2, if_pos (by rw [beq_iff_eq]; exact hm.mpr h2), List.map_cons, List.sum_cons]
     ·rw [if_neg h2, if_neg (by rw [beq_iff_eq]; exact fun e => h2 (hm.mp e)), Nat.zero_add]
   exact this _ fun m h => h
 ·have hc := zq9 (hk n hn)
  rw [zx6 hc] at hm
  exact (hr n m hc hm).mp e
noncomputable def zo23 (kind r : Nat) (l : List Nat) : Bool :=
 if kind = 1 then r == 1 else if r = 0 then l.all (fun k => k == 0) else if r = 1 then false else l.contains (r - 1) && l.all fun k => k == 0 || decide (r - 1 <= k)
theorem zg29 {s : Story} {t : List Nat} {n : Nat} (h : n < count s) : fine s t n = zo23 ((zi s).getD n 0) (t.getD n 0) (((table s).getD n []).map fun m => t.getD m 0) := by
 have e : (zi s).getD n 0 = zh s n := by
  unfold zi places
  rw [zc2, if_pos h]
 rw [e, zx6 h]
 rfl
inductive Rch (nxt : Nat -> List Nat) : Nat -> Nat -> Prop
 | refl {a : Nat} : Rch nxt a a
 | step {a b n : Nat} : b ∈ nxt a -> Rch nxt b n -> Rch nxt a n
theorem Rch.trans {nxt : Nat -> List Nat} {a b c : Nat} (h : Rch nxt a b) (h2 : Rch nxt b c) : Rch nxt a c := by
 induction h with
 | refl => exact h2
 | step h _ ih => exact .step h (ih h2)
theorem zy23 {N : Nat} {nxt : Nat -> List Nat} {good : Nat -> Bool} : ∀ {j a : Nat}, Rb N nxt good j a = true -> ∃ n, Rch nxt a n /\ n < N /\ good n = true
 | 0, a, h => by
  simp [Rb] at h
  exact ⟨a, .refl, h⟩
 | j + 1, a, h => by
  simp only [Rb, Bool.or_eq_true, Bool.and_eq_true, List.any_eq_true] at h
  rcases h with h | ⟨_, b, hb, h⟩
  ·exact zy23 h
  ·obtain ⟨n, h1, h2⟩ := zy23 h
   exact ⟨n, .step hb h1, h2⟩
theorem zj30 {N : Nat} {nxt : Nat -> List Nat} {good : Nat -> Bool} (hn : ∀ k, k < N -> ∀ m ∈ nxt k, m < N) {a n : Nat} (h : Rch nxt a n) (ha : a < N) (hg : good n = true) : ∃ j, Rb N nxt good j a = true := by
 induction h with
 | refl => exact ⟨0, by simp [Rb, ha, hg]⟩
 | step hb _ ih =>
  obtain ⟨j, hj⟩ := ih (hn _ ha _ hb) hg
  refine ⟨j + 1, ?_⟩
  simp only [Rb, Bool.or_eq_true, Bool.and_eq_true, List.any_eq_true]
  exact Or.inr ⟨by simpa using ha, _, hb, hj⟩
theorem zz23 {N : Nat} {nxt : Nat -> List Nat} {a : Nat} : ∀ {j n : Nat}, Fw N nxt a j n -> Rch nxt a n
 | 0, n, h => by
  have h : n = a := h
  rw [h]; exact .refl
 | j + 1, n, h => by
  rcases h with h | ⟨k, _, h1, h2⟩
  ·exact zz23 h
  ·exact (zz23 h1).trans (.step h2 .refl)
theorem zk30 {N : Nat} {nxt : Nat -> List Nat} (hn : ∀ k, k < N -> ∀ m ∈ nxt k, m < N) {a b n : Nat} (h : Rch nxt b n) (hb : b < N) {j : Nat} (hj : Fw N nxt a j b) : ∃ j, Fw N nxt a j n := by
 induction h generalizing j with
 | refl => exact ⟨j, hj⟩
 | step h1 _ ih => exact ih (hn _ hb _ h1) (j := j + 1) (Or.inr ⟨_, hb, hj, h1⟩)
noncomputable def zq4 (t : List (List Nat)) (without : Nat -> Bool) : List (List Nat) := (List.range t.length).map fun n => if without n = true then t.getD n [] else []
theorem za24 {s : Story} (hw : WfS s) {n v x : Nat} (hn : n < count s) : must s n v x = false ↔ ∃ m, m < count s /\ (zd3 (zq4 (table s) fun m => !((decode s.sizes m).getD v 0 == x)) n).getD m 0 ≠ 0 /\ ((decode s.sizes m).getD v 0 == x) = false /\ zh s m = 1 := by
 let out (m : Nat) : Bool := (decode s.sizes m).getD v 0 == x
 let A (k : Nat) : List Nat := if out k = true then [] else (nexts s k).filter fun m => !out m
 let B (k : Nat) : List Nat := if (!out k) = true then (table s).getD k [] else []
 have hA : ∀ k, k < count s -> ∀ m ∈ A k, m < count s := fun k hk m hm => by
  by_cases h : out k = true
  ·simp only [A, if_pos h] at hm; cases hm
  ·simp only [A, if_neg h] at hm
   exact zt10 hw (List.mem_filter.mp hm).1
 have hBA : ∀ {a n}, Rch B a n -> a < count s -> out n = false -> Rch A a n /\ out a = false := by
  intro a n h
  induction h with
  | refl => intro _ h0; exact ⟨.refl, h0⟩
  | @step a b n h1 h2 ih =>
   intro ha h0
   by_cases h : out a = true
   ·simp [B, h] at h1
   ·have e : B a = nexts s a := by simp only [B, zx6 ha]; simp [h]
    rw [e] at h1
    obtain ⟨i1, i2⟩ := ih (zt10 hw h1) h0
    refine ⟨.step ?_ i1, by simpa using h⟩
    simp only [A, if_neg h]
    rw [List.mem_filter]
    exact ⟨h1, by simp [i2]⟩
 have hAB : ∀ {a n}, Rch A a n -> a < count s -> out a = false -> Rch B a n /\ out n = false := by
  intro a n h
  induction h with
  | refl => intro _ h0; exact ⟨.refl, h0⟩
  | @step a b n h1 h2 ih =>
   intro ha h0
   have h1' := h1
   simp only [A, h0, Bool.false_eq_true, if_false] at h1
   rw [List.mem_filter] at h1
   have hb : out b = false := by simpa using h1.2
   obtain ⟨i1, i2⟩ := ih (zt10 hw h1.1) hb
   refine ⟨.step ?_ i1, i2⟩
   simp only [B, zx6 ha, h0]
   simpa using h1.1
 have hBlt : ∀ k, k < count s -> ∀ m ∈ B k, m < count s := fun k hk m hm => by
  by_cases h : out k = true
  ·simp [B, h] at hm
  ·have e : B k = nexts s k := by simp only [B, zx6 hk]; simp [h]
   rw [e] at hm
   exact zt10 hw hm
 have hcl : (zq4 (table s) fun m => !out m).length = count s := by unfold zq4; simp [zd1]
 have hce : (zq4 (table s) fun m => !out m) = (List.range (count s)).map B := by unfold zq4; rw [zd1]
 have hd : ∀ m, m < count s -> ((zd3 (zq4 (table s) fun m => !out m) n).getD m 0 ≠ 0 ↔ ∃ j, Fw (count s) B n j m) := fun m hm => by
  unfold zd3
  rw [hcl, zc2, if_pos hm, hce]
  have := (zu23 (N := count s) (nxt := B) hn hBlt m).2
  rw [Ne, zf11, this]
  simp
 have hm : must s n v x = (out n || (rankIn (winning s out) n).isNone) := rfl
 have hwin : winning s out = growing (before 0 ((List.range (count s)).map A)) (count s) (setOf ((List.range (count s)).filter fun n => ending s (decode s.sizes n) == 1 && !out n)) := rfl
 rw [hm, hwin, Bool.or_eq_false_iff]
 have hr := (zl17 (N := count s) (nxt := A) (good := fun n => ending s (decode s.sizes n) == 1 && !out n) n).2
 have hr' : (rankIn (growing (before 0 ((List.range (count s)).map A)) (count s) (setOf ((List.range (count s)).filter fun n => ending s (decode s.sizes n) == 1 && !out n))) n).isNone = false ↔ ∃ j, Rb (count s) A (fun n => ending s (decode s.sizes n) == 1 && !out n) j n = true := by
  rw [Option.isNone_eq_false_iff, Option.isSome_iff_ne_none, Ne, hr]
  simp
 rw [hr']
 constructor
 ·rintro ⟨h0, j, h1⟩
  obtain ⟨m, h2, h3, h4⟩ := zy23 h1
  rw [Bool.and_eq_true] at h4
  obtain ⟨h5, h6⟩ := hAB h2 hn h0
  refine ⟨m, h3, (hd m h3).mpr (zk30 hBlt h5 hn (j := 0) rfl), h6, beq_iff_eq.mp h4.1⟩
 ·rintro ⟨m, h1, h2, h3, h4⟩
  obtain ⟨j, hj⟩ := (hd m h1).mp h2
  obtain ⟨h5, h6⟩ := hBA (zz23 hj) hn h3
  refine ⟨h6, zj30 hA h5 hn ?_⟩
  rw [Bool.and_eq_true]
  refine ⟨by simpa [zh] using h4, ?_⟩
  show (!out m) = true
  rw [show out m = false from h3]
  rfl
theorem zj22 {s : Story} (p : Nat -> Bool) : ∀ l : List Nat, l.length = (l.filter fun n => zh s n == 1).length + (l.filter fun n => zh s n == 2).length + (l.filter fun n => zh s n == 0 && p n).length + (l.filter fun n => zh s n == 0 && !p n).length
 | [] => rfl
 | n :: r => by
  have ih := zj22 (s := s) p r
  have hk := zt27 s (decode s.sizes n)
  have hk : zh s n = 0 \/ zh s n = 1 \/ zh s n = 2 := by unfold zh; omega
  rcases hk with h | h | h
  ·cases hp : p n with
   | true => simp [List.filter_cons, h, hp]; omega
   | false => simp [List.filter_cons, h, hp]; omega
  ·simp [List.filter_cons, h]; omega
  ·simp [List.filter_cons, h]; omega
theorem za21 {s : Story} {a n : Nat} (hn : n < count s) : (zd3 (table s) a).getD n 0 = told (distance s a n) := by
 unfold zd3
 rw [zd1, zc2, if_pos hn]
 rfl
theorem zp17 {s : Story} {a : Nat} : (zd3 (table s) a).length = count s := by unfold zd3; simp [zd1]
end Ph
namespace Ph
open PySem PySem.Spec PyProof.Rows L2
open Vbtaai (Story condsOf effsOf condsIn effsIn inr winning nobody nexts nats)
noncomputable def top (i : Nat) : Stmt := PySem.Challenge.pw_provedhints_s01_answers.main.body.getD i (.Pass ⟨0, 0, 0, 0⟩)
structure FF (K : W.Frag) (mg : Str -> Option Value) (x qual : Str) (st : Stmt) (ps : List Str) where
 f : Addr
 fd : FuncData
 F : Fun K x qual st f fd
 b : Binds K fd ps []
 g : mg x = some (.ref f)
 e : ∀ us : List Value, us.length = ps.length -> bindArgs fd ⟨us, []⟩ = pure (ps.zip us)
structure MM (K : W.Frag) (C : Addr) (x qual : Str) (st : Stmt) (ps : List Str) where
 f : Addr
 fd : FuncData
 F : Fun K x qual st f fd
 b : Binds K fd ps []
 m : Meth K C x f
structure ClsT (K : W.Frag) (mg : Str -> Option Value) (x : Str) where
 C : Addr
 cl : Cls K C
 g : mg x = some (.ref C)
 makes : W.makesIn K C = true
 kp : W.keepIn K (.ref C) = true
section
variable {X : Cx} {x q : Str} {st : Stmt} {ps : List Str} {k : Nat} {sp : Sp} {e : Expr} {es : List Expr} {t : TA} {p pos : Pos}
theorem zm (T : FF X.K X.mg x q st ps) (G : FnOk X.prog X.w X.K X.mg X.base CX0 k T.f T.fd ps sp) (hr : Room k X.A) (ha : PA X (e :: es) t) (hg : Gl X x := by rfl) (hdb : (x == ("__debug__" : Str)) = false := by decide)
  (he : starEach (e :: es) X.env = (false, eval e X.env) :: starEach es X.env := by rfl) (hpl : (backTo pos (starEach es X.env)).any (·.1) = false := by rfl) : PE X (.Call (.Name x p) (e :: es) [] pos) (tCall sp [] E0 t) :=
 pe_call G hr hg T.g T.F.kp T.b .nil pass0 ha hdb he hpl
theorem zy1 {m : Str} {C : Addr} {o : Expr} {to : TE} {apos : Pos} {pl : Sem Bool} (hcl : Cls X.K C) (M : MM X.K C m q st ps) (G : FnOk X.prog X.w X.K X.mg X.base CX0 k M.f M.fd ps sp) (hr : Room k X.A) (ho : PE X o to) (ha : PA X (e :: es) t)
  (hst : starEach (e :: es) X.env = (false, eval e X.env) :: starEach es X.env := by rfl) (hpl : (backTo pos (starEach es X.env)).any (·.1) = false := by rfl)
  (ht : eval (.Call (.Attribute o m apos) (e :: es) [] pos) X.env = (do
   let ov <- eval o X.env
   standAt apos.atName
   let (f, first) <- holding [ov] (getMethod ov m pl)
   callWith pos f first (backTo pos (starEach (e :: es) X.env)) (backToKw pos (keywordEach [] X.env))) := by rfl) : PE X (.Call (.Attribute o m apos) (e :: es) [] pos) (tMeth C m sp [] E0 to t) :=
 pe_meth ho hcl M.m G hr M.b .nil pass0 ha hst hpl ht
theorem zj1 {m : Str} {C : Addr} {o : Expr} {to : TE} {apos : Pos} {pl : Sem Bool} (hcl : Cls X.K C) (M : MM X.K C m q st ps) (G : FnOk X.prog X.w X.K X.mg X.base CX0 k M.f M.fd ps sp) (hr : Room k X.A) (ho : PE X o to)
  (ht : eval (.Call (.Attribute o m apos) [] [] pos) X.env = (do
   let ov <- eval o X.env
   standAt apos.atName
   let (f, first) <- holding [ov] (getMethod ov m pl)
   callWith pos f first (backTo pos (starEach [] X.env)) (backToKw pos (keywordEach [] X.env))) := by rfl) : PE X (.Call (.Attribute o m apos) [] [] pos) (tMeth C m sp [] E0 to tNil) :=
 pe_meth0 ho hcl M.m G hr M.b .nil pass0 ht
theorem zg {z : Int} (h : ∃ t, X.mg x = some (.int z t)) (hg : Gl X x := by rfl) (hd : (x == ("__debug__" : Str)) = false := by decide) : PE X (.Name x pos) (tC (.int z)) := by
 obtain ⟨t, h⟩ := h
 exact pe_glob hg h ⟨t, rfl⟩ hd
end
section
variable {K : W.Frag} {h : Heap} {mg : Str -> Option Value} {x qual : Str} {st : Stmt} {ps : List Str} {f C : Addr}
theorem zq {z : Int} {t : Tok} (X : K.In h) (G : h.Ns mainGlobals mg) (a : W.nsIn K mainGlobals x = some (some (.int z t))) : ∃ t, mg x = some (.int z t) := ⟨t, W.mg_of X G a⟩
noncomputable def zp1 {oc kV doc pm cdv ct : Value} {od an : Option Addr} {sl : Array (Option Value)} (X : K.In h) (G : h.Ns mainGlobals mg) (a : W.nsIn K mainGlobals x = some (some (.ref f)))
  (l : K.lookup f = some ⟨oc, od, .func (W.fnOf x qual (defArgs st) (defBody st) (defScope st) .none kV doc pm an cdv ct), sl⟩) (c : W.codeIn K cdv qual = true) (k : W.keepIn K (.ref f) = true)
  (b : ∀ (kV doc pm : Value) (an : Option Addr) (cdv ct : Value) (us : List Value), us.length = ps.length -> bindArgs (W.fnOf x qual (defArgs st) (defBody st) (defScope st) .none kV doc pm an cdv ct) ⟨us, []⟩ = pure (ps.zip us)) : FF K mg x qual st ps :=
 ⟨f, _, fun_mk l c k, (fun_mk l c k).binds b, W.mg_of X G a, b kV doc pm an cdv ct⟩
noncomputable def zm1 {oc kV doc pm cdv ct : Value} {od an : Option Addr} {sl : Array (Option Value)} (a : W.findIn K (.ref C) x = some (some (.ref f))) (i : W.isFn K (.ref f) = true)
  (l : K.lookup f = some ⟨oc, od, .func (W.fnOf x qual (defArgs st) (defBody st) (defScope st) .none kV doc pm an cdv ct), sl⟩) (c : W.codeIn K cdv qual = true) (k : W.keepIn K (.ref f) = true)
  (b : ∀ (kV doc pm : Value) (an : Option Addr) (cdv ct : Value) (us : List Value), us.length = ps.length -> bindArgs (W.fnOf x qual (defArgs st) (defBody st) (defScope st) .none kV doc pm an cdv ct) ⟨us, []⟩ = pure (ps.zip us)) : MM K C x qual st ps :=
 ⟨f, _, fun_mk l c k, (fun_mk l c k).binds b, ⟨a, i, k⟩⟩
noncomputable def zb24 (X : K.In h) (G : h.Ns mainGlobals mg) (a : W.nsIn K mainGlobals x = some (some (.ref C))) (pg : W.plainGet K C Str.empty = true) (hd : W.hasDictIn K C = true) (po : W.plainOver K C = true)
  (sa : W.findIn K (.ref C) "__setattr__" = some (some (.builtin "object.__setattr__"))) (mk : W.makesIn K C = true) (kc : W.keepIn K (.ref C) = true) : ClsT K mg x :=
 ⟨C, ⟨pg, hd, po, sa⟩, W.mg_of X G a, mk, kc⟩
end
noncomputable def rLen : List V -> Hp -> VK -> Prop := fun xs H Q => ∃ p ys, xs = [.ref p] /\ H p = some (.lst ys) /\ Q (.int ys.length) H
theorem zw27 {X : Cx} : CallR X (.builtin "len") rLen := fun pins s σ H xs us Q I r h => by
 obtain ⟨p, ys, rfl, hp, q⟩ := h
 exact call_len_seq pins s σ H _ us Q I r ⟨p, ys, rfl, .inl (SqL.of hp), q⟩
noncomputable def rIxM : R2 := fun x y H Q => ∃ p i xs v, x = .ref p /\ y = .int i /\ H p = some (.lst xs) /\ atI xs i = some v /\ Q v H
theorem ix_M {X : Cx} : IxR X rIxM := by
 intro value slice pins s σ H x y v u Q I rx ry h hs
 obtain ⟨p, i, xs, z, rfl, rfl, hq, he, q⟩ := h
 exact ix_list value slice pins s σ H _ _ v u Q I rx ry ⟨p, xs, i, z, rfl, rfl, SqL.of hq, he, q⟩ hs
theorem zi14 {i j : Int} : scal (.int i) (.int j) = true := rfl
noncomputable def tM (t : TE) : TE := fun σ H Q => ∃ Q' : VK, t σ H Q' /\ ∀ x H', Q' x H' -> Q x H'
theorem zl6 {X : Cx} {e : Expr} {t : TE} (h : PE X e t) : PE X e (tM t) := fun pins s σ H Q I ⟨Q', q, im⟩ =>
 thn (h pins s σ H Q' I q) fun u s1 ⟨x, H1, I1, r1, q1⟩ => ⟨x, H1, I1, r1, im x H1 q1⟩
theorem zq13 {X : Cx} {e : Expr} {t t' : TE} (h : PE X e t) (im : ∀ σ H Q, t' σ H Q -> t σ H Q) : PE X e t' := fun pins s σ H Q I q => h pins s σ H Q I (im σ H Q q)
noncomputable def tApp (to te : TE) : TE := fun σ H Q => to σ H fun x H1 => ∃ l, x = .ref l /\ (∃ xs, H1 l = some (.lst xs)) /\ te σ H1 fun y H2 => ∃ xs, H2 l = some (.lst xs) /\ xs.length < sizeLine /\ Q .non (upd H2 l (.lst (xs ++ [y])))
noncomputable def tExt (to te : TE) : TE := fun σ H Q => to σ H fun x H1 => ∃ l, x = .ref l /\ (∃ xs, H1 l = some (.lst xs)) /\ te σ H1 fun y H2 => ∃ b xs ys, y = .ref b /\ H2 l = some (.lst xs) /\ H2 b = some (.lst ys) /\ xs.length + ys.length <= sizeLine /\ Q .non (upd H2 l (.lst (xs ++ ys)))
noncomputable def tPop (to : TE) : TE := fun σ H Q => to σ H fun x H1 => ∃ l xs y, x = .ref l /\ H1 l = some (.lst xs) /\ xs[xs.length - 1]? = some y /\ Q y (upd H1 l (.lst xs.dropLast))
section
variable {X : Cx} {o e : Expr} {to te : TE} {apos cpos : Pos}
theorem tyL {K : W.Frag} {l : Addr} {xs : List V} {H : Hp} (h : H l = some (.lst xs)) : tyV K "list" (.ref l) H := .inl ⟨rfl, xs, SqL.of h⟩
theorem zg12 (ho : PE X o to) (he : PE X e te) (hbase : attributeBase o "append" X.env (eval o X.env) = eval o X.env := by rfl)
  (hfew : ((backTo cpos (starEach [e] X.env)).all (fun x => !x.1) && (backToKw cpos (keywordEach [] X.env)).all (fun x => x.1.isSome)
   && decide ([e].length + ([] : List Keyword).length + (if ([] : List Keyword).isEmpty then 0 else 1) < 30)) = true := by rfl)
  (hline : (apos.endLine == cpos.line) = true := by rfl) (hs : starEach [e] X.env = (false, eval e X.env) :: starEach [] X.env := by rfl) (hplain : (backTo cpos (starEach [] X.env)).any (·.1) = false := by rfl) :
  PE X (.Call (.Attribute o "append" apos) [e] [] cpos) (tApp to te) := by
 refine zq13 (pe_bm PySem.F.plainAttrs_list PySem.F.slot_list_append PySem.F.type_list_append mt_append (zl6 ho) (pa_cons (zl6 he) pa_nil hs) hbase hfew hline hs hplain) fun σ H Q q => ?_
 refine ⟨_, q, fun x H1 ⟨l, ex, ⟨xs, hx⟩, q1⟩ => ?_⟩
 subst ex
 refine ⟨tyL hx, _, q1, fun y H2 ⟨xs, h2, hz, q2⟩ => ?_⟩
 exact ⟨l, xs, y, rfl, rfl, h2, hz, q2⟩
theorem zl30 (ho : PE X o to) (he : PE X e te) (hbase : attributeBase o "extend" X.env (eval o X.env) = eval o X.env := by rfl)
  (hfew : ((backTo cpos (starEach [e] X.env)).all (fun x => !x.1) && (backToKw cpos (keywordEach [] X.env)).all (fun x => x.1.isSome)
   && decide ([e].length + ([] : List Keyword).length + (if ([] : List Keyword).isEmpty then 0 else 1) < 30)) = true := by rfl)
  (hline : (apos.endLine == cpos.line) = true := by rfl) (hs : starEach [e] X.env = (false, eval e X.env) :: starEach [] X.env := by rfl) (hplain : (backTo cpos (starEach [] X.env)).any (·.1) = false := by rfl) :
  PE X (.Call (.Attribute o "extend" apos) [e] [] cpos) (tExt to te) := by
 refine zq13 (pe_bm PySem.F.plainAttrs_list PySem.F.slot_list_extend PySem.F.type_list_extend mt_extend (zl6 ho) (pa_cons (zl6 he) pa_nil hs) hbase hfew hline hs hplain) fun σ H Q q => ?_
 refine ⟨_, q, fun x H1 ⟨l, ex, ⟨xs, hx⟩, q1⟩ => ?_⟩
 subst ex
 refine ⟨tyL hx, _, q1, fun y H2 ⟨b, xs, ys, ey, h2, h3, hz, q2⟩ => ?_⟩
 subst ey
 exact ⟨l, b, xs, ys, rfl, rfl, h2, h3, hz, q2⟩
theorem zm30 (ho : PE X o to) (hbase : attributeBase o "pop" X.env (eval o X.env) = eval o X.env := by rfl) (hline : (apos.endLine == cpos.line) = true := by rfl) : PE X (.Call (.Attribute o "pop" apos) [] [] cpos) (tPop to) := by
 refine zq13 (pe_bm0 PySem.F.plainAttrs_list PySem.F.slot_list_pop PySem.F.type_list_pop mt_pop (zl6 ho) hbase hline) fun σ H Q q => ?_
 refine ⟨_, q, fun x H1 ⟨l, xs, y, ex, hx, hy, q1⟩ => ?_⟩
 subst ex
 exact ⟨tyL hx, l, xs, y, rfl, rfl, hx, hy, q1⟩
end
abbrev vI (l : List Int) : List V := l.map V.int
noncomputable def vn (n : Nat) : V := V.int (n : Int)
noncomputable abbrev vN (l : List Nat) : List V := l.map vn
theorem zh26 {α : Type} {f : α -> V} {l : List α} {i : Int} (d : α) (h0 : 0 <= i) (h1 : i < l.length) : atI (l.map f) i = some (f (l.getD i.toNat d)) := by
 have e : i = ((i.toNat : Nat) : Int) := by omega
 have hl : i.toNat < l.length := by omega
 rw [e]
 refine atI_nat ?_
 rw [List.getElem?_map, List.getElem?_eq_getElem hl, List.getD_eq_getElem?_getD, Int.toNat_natCast, List.getElem?_eq_getElem hl]
 rfl
theorem zf19 {l : List Int} {i : Int} (d : Int) (h0 : 0 <= i) (h1 : i < l.length) : atI (vI l) i = some (.int (l.getD i.toNat d)) := zh26 d h0 h1
theorem zx8 {l : List Nat} {i : Int} (d : Nat) (h0 : 0 <= i) (h1 : i < l.length) : atI (vN l) i = some (.int (l.getD i.toNat d : Nat)) := zh26 d h0 h1
theorem zx27 {a b : List Int} : vI a = vI b ↔ a = b := by
 constructor
 ·intro h
  induction a generalizing b with
  | nil => cases b with
   | nil => rfl
   | cons y r => simp [vI] at h
  | cons x l ih => cases b with
   | nil => simp [vI] at h
   | cons y r =>
    simp only [vI, List.map_cons, List.cons.injEq, V.int.injEq] at h
    rw [h.1, ih h.2]
 ·intro h
  rw [h]
theorem zy27 {a b : List Nat} : vN a = vN b ↔ a = b := by
 constructor
 ·intro h
  induction a generalizing b with
  | nil => cases b with
   | nil => rfl
   | cons y r => simp [vN] at h
  | cons x l ih => cases b with
   | nil => simp [vN] at h
   | cons y r =>
    simp only [vN, List.map_cons, List.cons.injEq, vn, V.int.injEq] at h
    rw [Int.ofNat.inj h.1, ih h.2]
 ·intro h
  rw [h]
theorem zb16 (cs : List Int) {i : Nat} (h : 3 * i + 2 < cs.length) : cs.drop (3 * i) = cs.getD (3 * i) 0 :: cs.getD (3 * i + 1) 0 :: cs.getD (3 * i + 2) 0 :: cs.drop (3 * (i + 1)) := by
 rw [List.drop_eq_getElem_cons (by omega), List.drop_eq_getElem_cons (by omega), List.drop_eq_getElem_cons (by omega)]
 simp only [List.getD_eq_getElem?_getD]
 rw [List.getElem?_eq_getElem (by omega), List.getElem?_eq_getElem (by omega), List.getElem?_eq_getElem (by omega)]
 rfl
theorem rgc3 (n : Nat) (h : n <= 100000) : RgC 0 (n : Int) 3 ((n + 2) / 3) := by
 refine ⟨by decide, by decide, ?_, ?_⟩
 ·unfold Builtin.Range.small Builtin.Range.rangeFitsLong Builtin.Range.rangeSize
  simp
  omega
 ·unfold Builtin.Range.rangeSize
  simp
  omega
theorem at3 {cs : List Int} {i : Nat} (h : 3 * i + 2 < cs.length) : atI (vI cs) (0 + (i : Int) * 3) = some (.int (cs.getD (3 * i) 0)) /\ atI (vI cs) (0 + (i : Int) * 3 + 1) = some (.int (cs.getD (3 * i + 1) 0)) /\ atI (vI cs) (0 + (i : Int) * 3 + 2) = some (.int (cs.getD (3 * i + 2) 0)) := by
 refine ⟨?_, ?_, ?_⟩
 ·rw [zf19 0 (by omega) (by omega), show (0 + (i : Int) * 3).toNat = 3 * i by omega]
 ·rw [zf19 0 (by omega) (by omega), show (0 + (i : Int) * 3 + 1).toNat = 3 * i + 1 by omega]
 ·rw [zf19 0 (by omega) (by omega), show (0 + (i : Int) * 3 + 2).toNat = 3 * i + 2 by omega]
theorem zz27 {n : Nat} {k : Int} (h0 : 0 <= k) (h1 : k < n) : ixN n k = some k.toNat := by
 unfold ixN
 rw [if_pos h0, if_pos h1]
theorem zc24 (l : List Nat) (j : Nat) {z : Int} (h : 0 <= z) : (vN l).set j (.int z) = vN (l.set j z.toNat) := by
 have e : V.int z = vn z.toNat := by unfold vn; rw [Int.toNat_of_nonneg h]
 rw [e]
 exact List.map_set.symm
theorem zn3 (l : List Nat) {z : Int} (h : 0 <= z) : vN l ++ [.int z] = vN (l ++ [z.toNat]) := by
 have e : V.int z = vn z.toNat := by unfold vn; rw [Int.toNat_of_nonneg h]
 rw [e]
 show vN l ++ List.map vn [z.toNat] = _
 exact List.map_append.symm
theorem zr13 : ∀ {z : List Int}, (∀ x ∈ z, 0 <= x) -> vI z = vN (nats z)
 | [], _ => rfl
 | x :: r, h => by
  have h1 : 0 <= x := h x (by simp)
  show V.int x :: vI r = V.int (x.toNat : Int) :: vN (nats r)
  rw [zr13 fun y hy => h y (by simp [hy]), Int.toNat_of_nonneg h1]
theorem zm3 {α : Type} {l : List α} {i : Nat} (d : α) (h : i < l.length) : l.drop i = l.getD i d :: l.drop (i + 1) := by
 rw [List.drop_eq_getElem_cons h, List.getD_eq_getElem?_getD, List.getElem?_eq_getElem h]
 rfl
theorem zi5 {l : List Nat} {i : Nat} {x : V} (h : (vN l)[i]? = some x) : x = V.int (l.getD i 0 : Nat) /\ i < l.length := by
 rw [List.getElem?_map] at h
 cases e : l[i]? with
 | none => rw [e] at h; cases h
 | some y =>
  rw [e] at h
  have hx : vn y = x := Option.some.inj h
  refine ⟨?_, (List.getElem?_eq_some_iff.mp e).1⟩
  rw [List.getD_eq_getElem?_getD, e, <- hx]
  rfl
noncomputable def zg19 : List V -> Hp -> VK -> Prop := fun xs H Q => ∃ p ys, xs = [.ref p] /\ H p = some (.lst ys) /\ ∀ l, H l = none -> Q (.ref l) (upd H l (.lst ys))
theorem zh19 {X : Cx} : CallR X (.type "list") zg19 := fun pins s σ H xs us Q I r h => by
 obtain ⟨p, ys, rfl, hp, q⟩ := h
 exact call_list_of pins s σ H _ us Q I r ⟨p, ys, rfl, .inl (SqL.of hp), q⟩
theorem for3 {ta : TA} {g : TG} {tb : TS} {D : Ends} {σ : L2.St} {H : Hp} {lo hi c : Int} {n : Nat} (Pv : Nat -> L2.St -> Hp -> Prop) (hta : ∀ R : List V -> Hp -> Prop, R [.int lo, .int hi, .int c] H -> ta σ H R) (hr : RgC lo hi c n) (h0 : Pv 0 σ H)
  (hs : ∀ i σ H, i < n -> Pv i σ H -> g (.int (lo + (i : Nat) * c)) σ H fun σ2 H2 => tb { D with nx := Pv (i + 1), ct := Pv (i + 1), bk := D.nx } σ2 H2) (hd : ∀ σ H, Pv n σ H -> D.nx σ H) : tFor (iRng3 ta) g tb D σ H :=
 hta _ ⟨lo, hi, c, n, rfl, hr, for_rangeC Pv h0 hs hd⟩
theorem for1 {ta : TA} {g : TG} {tb : TS} {D : Ends} {σ : L2.St} {H : Hp} {n : Nat} (Pv : Nat -> L2.St -> Hp -> Prop) (hta : ∀ R : List V -> Hp -> Prop, R [.int (n : Int)] H -> ta σ H R) (hn : n < 2 ^ 62) (h0 : Pv 0 σ H)
  (hs : ∀ i σ H, i < n -> Pv i σ H -> g (.int (i : Int)) σ H fun σ2 H2 => tb { D with nx := Pv (i + 1), ct := Pv (i + 1), bk := D.nx } σ2 H2) (hd : ∀ σ H, Pv n σ H -> D.nx σ H) : tFor (iRng1 ta) g tb D σ H :=
 hta _ ⟨(n : Int), rfl, by omega, by omega, by
  have e : ((n : Int)).toNat = n := Int.toNat_natCast n
  rw [e]
  exact for_range Pv h0 (fun i σ H hi p => by rw [Int.zero_add]; exact hs i σ H hi p) hd⟩
theorem forL {K : W.Frag} {tl : TE} {g : TG} {tb : TS} {D : Ends} {σ : L2.St} {H : Hp} {a : Addr} {xs : List V} (Pv : Nat -> L2.St -> Hp -> Prop) (hta : ∀ R : V -> Hp -> Prop, R (.ref a) H -> tl σ H R) (h0 : Pv 0 σ H) (hl : ∀ i σ H, i <= xs.length -> Pv i σ H -> SqL K H a xs)
  (hs : ∀ i x σ H, xs[i]? = some x -> Pv i σ H -> g x σ H fun σ2 H2 => tb { D with nx := Pv (i + 1), ct := Pv (i + 1), bk := D.nx } σ2 H2) (hd : ∀ σ H, Pv xs.length σ H -> D.nx σ H) : tFor (iList K tl) g tb D σ H :=
 hta _ ⟨a, rfl, ⟨xs, hl 0 σ H (Nat.zero_le _) h0⟩, for_list Pv h0 hl hs hd⟩
noncomputable def tCnt (to te : TE) : TE := fun σ H Q => to σ H fun x H1 => ∃ l, x = .ref l /\ (∃ xs, H1 l = some (.lst xs)) /\ te σ H1 fun y H2 => ∃ (ns : List Nat) (k : Nat), y = .int k /\ H2 l = some (.lst (vN ns)) /\ Q (.int (ns.count k : Nat)) H2
noncomputable def rCnt : V -> List V -> Hp -> VK -> Prop := fun x xs H Q => ∃ (a : Addr) (ns : List Int) (k : Int), x = .ref a /\ xs = [.int k] /\ H a = some (.lst (vI ns)) /\ Q (.int (ns.count k : Nat)) H
theorem zn30 {X : Cx} : MtR X "list.count" rCnt := by
 intro pins s σ H x xs v us Q I rx rxs h
 obtain ⟨a, ns, k, rfl, rfl, ha, q⟩ := h
 cases rx
 obtain ⟨its, rv, hl, _⟩ := I.list (SqL.of ha)
 cases rxs with
 | cons r t =>
  cases t
  obtain ⟨t, rfl⟩ := r
  exact count_list_ints hl.isList rv.ints ⟨.int _, H, I.kept (fun _ _ e => e), ⟨_, rfl⟩, q⟩
theorem vN_vI (ns : List Nat) : vN ns = vI (ns.map Int.ofNat) := by rw [vI, List.map_map]; rfl
theorem za17 (k : Nat) : ∀ ns : List Nat, (ns.map Int.ofNat).count (k : Int) = ns.count k
 | [] => rfl
 | n :: r => by
  rw [List.map_cons, List.count_cons, List.count_cons, za17 k r]
  congr 1
  by_cases h : n = k
  ·subst h; simp
  ·have : ¬ (Int.ofNat n = (k : Int)) := fun e => h (Int.ofNat.inj e)
   have h' : ¬ (n : Int) = (k : Int) := this
   simp [h, h']
theorem zo30 {X : Cx} {o e : Expr} {to te : TE} {apos cpos : Pos} (ho : PE X o to) (he : PE X e te) (hbase : attributeBase o "count" X.env (eval o X.env) = eval o X.env := by rfl)
  (hfew : ((backTo cpos (starEach [e] X.env)).all (fun x => !x.1) && (backToKw cpos (keywordEach [] X.env)).all (fun x => x.1.isSome)
   && decide ([e].length + ([] : List Keyword).length + (if ([] : List Keyword).isEmpty then 0 else 1) < 30)) = true := by rfl)
  (hline : (apos.endLine == cpos.line) = true := by rfl) (hs : starEach [e] X.env = (false, eval e X.env) :: starEach [] X.env := by rfl) (hplain : (backTo cpos (starEach [] X.env)).any (·.1) = false := by rfl) :
  PE X (.Call (.Attribute o "count" apos) [e] [] cpos) (tCnt to te) := by
 refine zq13 (pe_bm PySem.F.plainAttrs_list PySem.F.slot_list_count PySem.F.type_list_count zn30 (zl6 ho) (pa_cons (zl6 he) pa_nil hs) hbase hfew hline hs hplain) fun σ H Q q => ?_
 refine ⟨_, q, fun x H1 ⟨l, ex, ⟨xs, hx⟩, q1⟩ => ?_⟩
 subst ex
 refine ⟨tyL hx, _, q1, fun y H2 ⟨ns, k, ey, h2, q2⟩ => ?_⟩
 subst ey
 refine ⟨l, ns.map Int.ofNat, k, rfl, rfl, by rw [<- vN_vI]; exact h2, ?_⟩
 rw [za17]
 exact q2
noncomputable def zd24 : List V -> Hp -> VK -> Prop := fun xs H Q => ∃ n : Nat, xs = [.int n] /\ ∀ p, H p = none -> Q (.ref p) (upd H p (.rng 0 n))
theorem zk25 {X : Cx} : CallR X (.type "range") zd24 := fun pins s σ H xs us Q I r h => by
 obtain ⟨n, rfl, q⟩ := h
 obtain ⟨u, rfl, rx⟩ := vals1 r
 obtain ⟨t, rfl⟩ := rx
 refine call_range_1 ⟨.ref s.heap.objs.size, _, I.laid (fun b o e => Heap.get?_push_of_some _ e) (Nat.le_refl _) ?_, rfl, q _ (I.hok.fresh (Nat.le_refl _))⟩
 exact ⟨_, _, _, Heap.get?_push_size _ rfl⟩
noncomputable def ze24 : List V -> Hp -> VK -> Prop := fun xs H Q => ∃ (p : Addr) (n : Nat), xs = [.ref p] /\ H p = some (.rng 0 n) /\ n <= 2 ^ 24 /\ ∀ l, H l = none -> Q (.ref l) (upd H l (.lst (vN (List.range n))))
theorem zv26 {n : Nat} {acc : Array Value} (h : ItemsOf (fun i v => ∃ t, v = Value.int (0 + (i : Int) * 1) t) acc n) : Vals (vN (List.range n)) acc.toList := by
 have key : ∀ (l : List Value) (k : Nat), (∀ i v, l[i]? = some v -> ∃ t, v = Value.int ((k + i : Nat) : Int) t) -> Vals (vN (List.range' k l.length)) l := by
  intro l
  induction l with
  | nil => intro k _; exact .nil
  | cons v r ih =>
   intro k hk
   rw [List.length_cons, List.range'_succ]
   refine .cons ?_ (ih (k + 1) fun i v hv => ?_)
   ·obtain ⟨t, e⟩ := hk 0 v rfl
    exact ⟨t, e⟩
   ·obtain ⟨t, e⟩ := hk (i + 1) v (by simpa using hv)
    exact ⟨t, by rw [e]; congr 2; omega⟩
 have := key acc.toList 0 fun i v hv => by
  obtain ⟨t, e⟩ := h.2 i v (by simpa using hv)
  exact ⟨t, by rw [e]; congr 1; omega⟩
 rw [Array.length_toList, h.1, <- List.range_eq_range'] at this
 exact this
theorem zw26 {X : Cx} (hc : X.calm = true) : CallR X (.type "list") ze24 := fun pins s σ H xs us Q I r h => by
 obtain ⟨p, n, rfl, hp, hn, q⟩ := h
 obtain ⟨u, rfl, rx⟩ := vals1 r
 cases rx
 obtain ⟨t, u, v, e⟩ := I.hok p _ hp
 have hsz : sizeLine = 16777216 := sizeLine_eq
 refine call_list_range (n := n) (I.ok.hd hc) e ?_ ?_ hn fun h' tk acc' c' hk hS hacc => ?_
 ·exact small_one (by omega) (by omega) (by omega) (by omega)
 ·rw [rangeSize_one]; split <;> omega
 ·exact ⟨.ref s.heap.objs.size, _, I.laid hk (Nat.le_refl _) (show ObjOk X.prog X.w _ h' _ (.lst (vN (List.range n))) from ⟨by rw [List.length_map, List.length_range, hsz]; omega, acc'.toList, c', zv26 hacc, by simpa using hS⟩), rfl, q _ (I.hok.fresh (Nat.le_refl _))⟩
noncomputable def vvO (v d : Addr) : HO := .ext fun h => h.IsValuesView v d
noncomputable def zx26 (td : TE) : TE := fun σ H Q => td σ H fun x H1 => ∃ (d : Addr) (kvs : List (Key × V)), x = .ref d /\ H1 d = some (.dK kvs) /\ ∀ v, H1 v = none -> Q (.ref v) (upd H1 v (vvO v d))
theorem zh29 {X : Cx} {e : Expr} {td : TE} {apos cpos : Pos} (he : PE X e td) (hbase : attributeBase e "values" X.env (eval e X.env) = eval e X.env := by rfl) (hline : (apos.endLine == cpos.line) = true := by rfl) :
  PE X (.Call (.Attribute e "values" apos) [] [] cpos) (zx26 td) := by
 intro pins s σ H Q I h
 refine wpAny_Call_method (T := "dict") (id := "dict.values") hbase rfl hline F.plainAttrs_dict F.slot_dict_values F.type_dict_values (thn (he pins s σ H _ I h) fun u s1 ⟨x, H1, I1, rx, d, kvs, ex, hd, q⟩ => ?_)
 subst ex
 obtain rfl : u = Value.ref d := rx
 obtain ⟨z, hs, vs, kv, hm⟩ := dk_of I1.hok hd
 refine ⟨hm.typeIs, hm.mapOf.noDict, ?_⟩
 show wpAny _ _ (callWith cpos (.builtin "dict.values") [.ref d] [] []) _ X.xe s1
 refine method_meetsIn F.slot_dict_values F.entry_dict_values rfl (PySem.evalArgs_none ⟨rfl, hm.typeIs, F.args_dict_values_1 _, _, meets_dict_values (mixKind X.prog X.w) d hs, ⟨vs, hm⟩, ?_⟩)
 have I2 : Inv X pins σ (upd H1 s1.heap.objs.size (vvO s1.heap.objs.size d)) { s1 with heap := s1.heap.push { cls := .type "dict_values", data := .fields #[.ref d] } } :=
  I1.laid (t' := s1.toks) (fun b o e => Heap.get?_push_of_some _ e) (Nat.le_refl _) ⟨⟨_, Heap.get?_push_size _ rfl, rfl, rfl⟩, ⟨_, Heap.get?_push_size _ rfl⟩, fun h1 h2 ⟨o, e, c⟩ k => ⟨o, k o e, c⟩⟩
 exact ⟨.ref s1.heap.objs.size, _, I2, rfl, q _ (I1.hok.fresh (Nat.le_refl _))⟩
noncomputable def zy26 : List V -> Hp -> VK -> Prop := fun vs H Q => ∃ (v d : Addr) (kvs : List (Key × V)) (ns : List Int), vs = [.ref v] /\ H v = some (vvO v d) /\ H d = some (.dK kvs) /\ kvs.map (·.2) = ns.map V.int /\ Q (.int ns.sum) H
theorem zb17 (ns : List Int) : ∀ j, j <= ns.length -> preSum (fun i => ns.getD i 0) j = (ns.take j).sum
 | 0, _ => by simp [preSum]
 | j + 1, h => by rw [preSum, zb17 ns j (by omega), take_sum_succ ns j (by omega)]
theorem za28 {X : Cx} (hc : X.calm = true) : CallR X (.builtin "sum") zy26 := fun pins s σ H vs us Q I r h => by
 obtain ⟨v, d, kvs, ns, rfl, hv, hd, hns, q⟩ := h
 rw [Vals.ref1 r]
 obtain ⟨vv, _, _⟩ := I.hok v _ hv
 obtain ⟨z, hs, vs, kv, hm⟩ := dk_of I.hok hd
 obtain ⟨o, es, ep, ho, hm'⟩ := id hm
 have hat : s.heap.DictAt (mixKind X.prog X.w) d vs ep := ⟨o, es, ho, hm'⟩
 have hl : kvs.length = vs.length := Paired.length kv
 have hln : kvs.length = ns.length := by have := congrArg List.length hns; simpa using this
 have hdlt : d < s.heap.objs.size := Heap.lt_size ho
 refine call_sum_walkG (wpAny_pyIter_values vv hat ⟨s.heap.objs.size, _, _, vs.length, _, _, fun i => ns.getD i 0, rfl,
  Walks.dictValues (knd := mixKind X.prog X.w) (A := X.A.in1) (I.ok.hd hc) s.heap.objs.size d (Nat.ne_of_lt hdlt) vs ep, ⟨⟨_, Heap.get?_push_size _ rfl, rfl, rfl⟩, hat.push _⟩, fun b hb => ?_, fun i v ⟨k, hk⟩ => ?_, fun h' tk t' hk => ?_⟩)
 ·rw [Heap.size_push]
  rcases List.mem_cons.mp hb with e | hb
  ·rw [e]; exact Nat.lt_succ_self _
  ·rw [List.mem_singleton.mp hb]; exact Nat.lt_succ_of_lt hdlt
 ·have hi : i < kvs.length := by rw [hl]; exact (List.getElem?_eq_some_iff.mp hk).1
  obtain ⟨b, hb, e1, e2⟩ := paired_get kv (List.getElem?_eq_getElem hi)
  rw [hk] at hb
  cases hb
  have e3 : (kvs.map (·.2))[i]? = (ns.map V.int)[i]? := by rw [hns]
  rw [List.getElem?_map, List.getElem?_map, List.getElem?_eq_getElem hi, List.getElem?_eq_getElem (by omega)] at e3
  have e4 : kvs[i].2 = V.int ns[i] := Option.some.inj e3
  rw [e4] at e2
  obtain ⟨t, e2⟩ := e2
  refine ⟨t, ?_⟩
  show v = Value.int (ns.getD i 0) t
  rw [List.getD_eq_getElem?_getD, List.getElem?_eq_getElem (by omega)]
  exact e2
 ·rw [zb17 ns _ (by omega), List.take_of_length_le (by omega)]
  refine ⟨.int _, H, I.kept (fun b o e => hk b o (fun hb => ?_) (Heap.get?_push_of_some _ e)), ⟨_, rfl⟩, q⟩
  rw [List.mem_singleton.mp hb] at e
  exact absurd (Heap.lt_size e) (Nat.lt_irrefl _)
theorem lcR {ta : TA} {g : TG} {tt : TT} {te : TE} {vs : List Nat} {σ : L2.St} {H : Hp} {Q : VK} {n : Nat} (Pv : Addr -> Nat -> Hp -> Prop) (hta : ∀ R : List V -> Hp -> Prop, R [.int (n : Int)] H -> ta σ H R) (hn : n < 2 ^ 62) (h0 : ∀ D, H D = none -> Pv D 0 (upd H D (.lst [])))
  (hs : ∀ D i H', H D = none -> i < n -> Pv D i H' -> g (.int (i : Int)) (wipe σ vs) H' fun σ2 H2 => wipe σ2 vs = wipe σ vs /\ tt σ2 H2 fun b H3 =>
   if b = true then te σ2 H3 fun y H4 => ∃ acc, H4 D = some (.lst acc) /\ acc.length < sizeLine /\ Pv D (i + 1) (upd H4 D (.lst (acc ++ [y]))) else Pv D (i + 1) H3)
  (hd : ∀ D H', H D = none -> Pv D n H' -> Q (.ref D) H') : tLc (iRng1 ta) g tt te vs σ H Q :=
 hta _ ⟨(n : Int), rfl, by omega, by omega, fun D hD => by
  have e : ((n : Int)).toNat = n := Int.toNat_natCast n
  rw [e]
  exact lc_range (Pv D) (h0 D hD) (fun i H' hi p => by rw [Int.zero_add]; exact hs D i H' hD hi p) fun H' p => hd D H' hD p⟩
theorem lcL {K : W.Frag} {tl : TE} {g : TG} {tt : TT} {te : TE} {vs : List Nat} {σ : L2.St} {H : Hp} {Q : VK} {a : Addr} {H1 : Hp} {xs : List V} (Pv : Addr -> Nat -> Hp -> Prop) (hta : ∀ R : V -> Hp -> Prop, R (.ref a) H1 -> tl σ H R) (h0 : ∀ D, H1 D = none -> Pv D 0 (upd H1 D (.lst [])))
  (hx : SqL K H1 a xs) (hl : ∀ D i H', H1 D = none -> i <= xs.length -> Pv D i H' -> SqL K H' a xs)
  (hs : ∀ D i x H', H1 D = none -> xs[i]? = some x -> Pv D i H' -> g x (wipe σ vs) H' fun σ2 H2 => wipe σ2 vs = wipe σ vs /\ tt σ2 H2 fun b H3 =>
   if b = true then te σ2 H3 fun y H4 => ∃ acc, H4 D = some (.lst acc) /\ acc.length < sizeLine /\ Pv D (i + 1) (upd H4 D (.lst (acc ++ [y]))) else Pv D (i + 1) H3)
  (hd : ∀ D H', H1 D = none -> Pv D xs.length H' -> Q (.ref D) H') : tLc (iList K tl) g tt te vs σ H Q :=
 hta _ ⟨a, rfl, ⟨xs, hx⟩, fun D hD => lc_list (Pv D) (h0 D hD) (fun i H' => hl D i H' hD) (fun i x H' => hs D i x H' hD) fun H' p => hd D H' hD p⟩
noncomputable def tFT (C : Addr) (ta : TE) (f : Str) : TE := fun σ H Q => ta σ H fun x H1 => ∃ a dx fs v, x = .ref a /\ H1 a = some (.ins C dx fs) /\ fs.lookup f = some v /\ Q v H1
noncomputable def sFT (C : Addr) (ta tv : TE) (f : Str) : TS := fun D σ H => tv σ H fun y H1 => ta σ H1 fun x H2 => ∃ a dx fs, x = .ref a /\ H2 a = some (.ins C dx fs) /\ fs.length < 1000 /\ D.nx σ (upd H2 a (.ins C dx (putF f y fs)))
section
variable {X : Cx} {o e value : Expr} {f cn : Str} {pos pos' : Pos} {ta tv : TE}
theorem zp30 {st : Stmt} {t t' : TS} (h : PS X st t) (im : ∀ D σ H, t' D σ H -> t D σ H) : PS X st t' := fun pins s σ H D I q => h pins s σ H D I (im D σ H q)
theorem zd {C : Addr} (hc : Cls X.K C) (hn : NoAttr X.K C f) (he : PE X e ta) (hb : attributeBase e f X.env (eval e X.env) = eval e X.env) : PE X (.Attribute e f pos) (tFT C ta f) :=
 zq13 (pe_fld (zl6 he) hb) fun σ H Q q => ⟨_, q, fun x H1 ⟨a, dx, fs, v, ex, ea, l, q1⟩ => ⟨a, C, dx, fs, v, ex, ea, hc, hn, l, q1⟩⟩
theorem zg2 {C : Addr} (hc : Cls X.K C) (hn : NoAttr X.K C f) (ha : PE X o ta) (hv : PE X value tv) (hs : swapsWith value (some (.Attribute o f pos')) pos.line X.env = pure false) : PS X (.Assign [.Attribute o f pos'] value pos) (sFT C ta tv f) :=
 zp30 (ps_fld (zl6 ha) (zl6 hv) hs) fun D σ H q => ⟨_, q, fun y H1 q1 => ⟨_, q1, fun x H2 ⟨a, dx, fs, ex, ea, l, q2⟩ => ⟨a, C, dx, fs, ex, ea, hc, hn, l, q2⟩⟩⟩
end
section
variable {g : TG} {tb : TS} {D : Ends} {σ : L2.St} {H : Hp}
theorem for3o {ta : TA} {lo hi c : Int} {n : Nat} (Pv : Nat -> L2.St -> Hp -> Prop) (hta : ∀ R : List V -> Hp -> Prop, R [.int lo, .int hi, .int c] H -> ta σ H R) (hr : RgC lo hi c n) (h0 : Pv 0 σ H)
  (hs : ∀ P' : Nat -> L2.St -> Hp -> Prop, (∀ i σ H, Pv i σ H -> P' i σ H) -> ∀ i σ H, i < n -> Pv i σ H -> g (.int (lo + (i : Nat) * c)) σ H fun σ2 H2 => tb { D with nx := P' (i + 1), ct := P' (i + 1), bk := D.nx } σ2 H2) (hd : ∀ σ H, Pv n σ H -> D.nx σ H) : tFor (iRng3 ta) g tb D σ H :=
 for3 Pv hta hr h0 (hs Pv fun _ _ _ h => h) hd
theorem zp23 {ta : TA} {n : Nat} (Pv : Nat -> L2.St -> Hp -> Prop) (hta : ∀ R : List V -> Hp -> Prop, R [.int (n : Int)] H -> ta σ H R) (hn : n < 2 ^ 62) (h0 : Pv 0 σ H)
  (hs : ∀ P' : Nat -> L2.St -> Hp -> Prop, (∀ i σ H, Pv i σ H -> P' i σ H) -> ∀ i σ H, i < n -> Pv i σ H -> g (.int (i : Int)) σ H fun σ2 H2 => tb { D with nx := P' (i + 1), ct := P' (i + 1), bk := D.nx } σ2 H2) (hd : ∀ σ H, Pv n σ H -> D.nx σ H) : tFor (iRng1 ta) g tb D σ H :=
 for1 Pv hta hn h0 (hs Pv fun _ _ _ h => h) hd
theorem za11 {K : W.Frag} {tl : TE} {a : Addr} {xs : List V} (Pv : Nat -> L2.St -> Hp -> Prop) (hta : ∀ R : V -> Hp -> Prop, R (.ref a) H -> tl σ H R) (h0 : Pv 0 σ H) (hl : ∀ i σ H, i <= xs.length -> Pv i σ H -> SqL K H a xs)
  (hs : ∀ P' : Nat -> L2.St -> Hp -> Prop, (∀ i σ H, Pv i σ H -> P' i σ H) -> ∀ i x σ H, xs[i]? = some x -> Pv i σ H -> g x σ H fun σ2 H2 => tb { D with nx := P' (i + 1), ct := P' (i + 1), bk := D.nx } σ2 H2) (hd : ∀ σ H, Pv xs.length σ H -> D.nx σ H) : tFor (iList K tl) g tb D σ H :=
 forL Pv hta h0 hl (hs Pv fun _ _ _ h => h) hd
theorem zf24 {c : TT} (Pv : Nat -> L2.St -> Hp -> Prop) (m0 : Nat) (h0 : Pv m0 σ H) (hs : ∀ W : Nat -> L2.St -> Hp -> Prop, (∀ m σ H, Pv m σ H -> W m σ H) -> ∀ m σ H, Pv m σ H ->
  c σ H fun b H1 => if b = true then ∃ N : L2.St -> Hp -> Prop, (∀ σ' H', N σ' H' -> ∃ m', m' < m /\ W m' σ' H') /\ tb { D with nx := N, ct := N, bk := D.nx } σ H1 else D.nx σ H1) : tWhile c tb D σ H :=
 ⟨Pv, ⟨m0, h0⟩, hs Pv fun _ _ _ h => h⟩
end
theorem lcRo {ta : TA} {g : TG} {tt : TT} {te : TE} {vs : List Nat} {σ : L2.St} {H : Hp} {Q : VK} {n : Nat} (Pv : Addr -> Nat -> Hp -> Prop) (hta : ∀ R : List V -> Hp -> Prop, R [.int (n : Int)] H -> ta σ H R) (hn : n < 2 ^ 62) (h0 : ∀ D, H D = none -> Pv D 0 (upd H D (.lst [])))
  (hs : ∀ P' : Addr -> Nat -> Hp -> Prop, (∀ D i H, Pv D i H -> P' D i H) -> ∀ D i H', H D = none -> i < n -> Pv D i H' -> g (.int (i : Int)) (wipe σ vs) H' fun σ2 H2 => wipe σ2 vs = wipe σ vs /\ tt σ2 H2 fun b H3 =>
   if b = true then te σ2 H3 fun y H4 => ∃ acc, H4 D = some (.lst acc) /\ acc.length < sizeLine /\ P' D (i + 1) (upd H4 D (.lst (acc ++ [y]))) else P' D (i + 1) H3)
  (hd : ∀ D H', H D = none -> Pv D n H' -> Q (.ref D) H') : tLc (iRng1 ta) g tt te vs σ H Q := lcR Pv hta hn h0 (hs Pv fun _ _ _ h => h) hd
theorem lcLo {K : W.Frag} {tl : TE} {g : TG} {tt : TT} {te : TE} {vs : List Nat} {σ : L2.St} {H : Hp} {Q : VK} {a : Addr} {H1 : Hp} {xs : List V} (Pv : Addr -> Nat -> Hp -> Prop) (hta : ∀ R : V -> Hp -> Prop, R (.ref a) H1 -> tl σ H R) (h0 : ∀ D, H1 D = none -> Pv D 0 (upd H1 D (.lst [])))
  (hx : SqL K H1 a xs) (hl : ∀ D i H', H1 D = none -> i <= xs.length -> Pv D i H' -> SqL K H' a xs)
  (hs : ∀ P' : Addr -> Nat -> Hp -> Prop, (∀ D i H, Pv D i H -> P' D i H) -> ∀ D i x H', H1 D = none -> xs[i]? = some x -> Pv D i H' -> g x (wipe σ vs) H' fun σ2 H2 => wipe σ2 vs = wipe σ vs /\ tt σ2 H2 fun b H3 =>
   if b = true then te σ2 H3 fun y H4 => ∃ acc, H4 D = some (.lst acc) /\ acc.length < sizeLine /\ P' D (i + 1) (upd H4 D (.lst (acc ++ [y]))) else P' D (i + 1) H3)
  (hd : ∀ D H', H1 D = none -> Pv D xs.length H' -> Q (.ref D) H') : tLc (iList K tl) g tt te vs σ H Q := lcL Pv hta h0 hx hl (hs Pv fun _ _ _ h => h) hd
theorem lcA {K : W.Frag} {tl : TE} {g : TG} {tt : TT} {te : TE} {vs : List Nat} {σ : L2.St} {H : Hp} {Q : VK} {xs : List V} (Pv : Addr -> Addr -> Nat -> Hp -> Prop) (hta : ∀ R : V -> Hp -> Prop, (∀ q, H q = none -> R (.ref q) (upd H q (.lst xs))) -> tl σ H R)
  (h0 : ∀ q D, H q = none -> H D = none -> q ≠ D -> Pv q D 0 (upd (upd H q (.lst xs)) D (.lst []))) (hl : ∀ q D i H', H q = none -> H D = none -> q ≠ D -> i <= xs.length -> Pv q D i H' -> SqL K H' q xs)
  (hs : ∀ P' : Addr -> Addr -> Nat -> Hp -> Prop, (∀ q D i H, Pv q D i H -> P' q D i H) -> ∀ q D i x H', H q = none -> H D = none -> q ≠ D -> xs[i]? = some x -> Pv q D i H' -> g x (wipe σ vs) H' fun σ2 H2 => wipe σ2 vs = wipe σ vs /\ tt σ2 H2 fun b H3 =>
   if b = true then te σ2 H3 fun y H4 => ∃ acc, H4 D = some (.lst acc) /\ acc.length < sizeLine /\ P' q D (i + 1) (upd H4 D (.lst (acc ++ [y]))) else P' q D (i + 1) H3)
  (hd : ∀ q D H', H q = none -> H D = none -> q ≠ D -> Pv q D xs.length H' -> Q (.ref D) H') : tLc (iList K tl) g tt te vs σ H Q := by
 refine hta _ fun q hq => ⟨q, rfl, ⟨_, SqL.of upd_same⟩, fun D hD => ?_⟩
 have hqD : q ≠ D := fun e => by rw [e, upd_same] at hD; cases hD
 have hD' : H D = none := by rw [upd_ne hqD.symm] at hD; exact hD
 exact lc_list (Pv q D) (h0 q D hq hD' hqD) (fun i H' => hl q D i H' hq hD' hqD) (fun i x H' => hs Pv (fun _ _ _ _ h => h) q D i x H' hq hD' hqD) fun H' p => hd q D H' hq hD' hqD p
noncomputable def zc (x : Addr) (H H' : Hp) : Prop := ∀ q o, H q = some o -> q ≠ x -> H' q = some o
theorem _root_.L2.Same.rfl' {H : Hp} : Same H H := fun _ _ h => h
theorem _root_.L2.Same.new {H H' : Hp} {p : Addr} {o : HO} (e : Same H H') (hp : H p = none) : Same H (upd H' p o) := fun q u h => by
 rw [upd_ne (ne_of_none h hp)]
 exact e q u h
theorem zc.of {x : Addr} {H H' : Hp} (e : Same H H') : zc x H H' := fun q o h _ => e q o h
theorem zc.new {x p : Addr} {H H' : Hp} {o : HO} (e : zc x H H') (hp : H p = none) : zc x H (upd H' p o) := fun q u h hq => by
 rw [upd_ne (ne_of_none h hp)]
 exact e q u h hq
theorem zc.self {x : Addr} {H H' : Hp} {o : HO} (e : zc x H H') : zc x H (upd H' x o) := fun q u h hq => by
 rw [upd_ne hq]
 exact e q u h hq
theorem zc.trans {x : Addr} {H H1 H2 : Hp} (a : zc x H H1) (b : zc x H1 H2) : zc x H H2 := fun q o h hq => b q o (a q o h hq) hq
theorem zc.fresh {x : Addr} {H H' : Hp} (e : zc x H H') (hx : H x = none) : Same H H' := fun q o h => e q o h (ne_of_none h hx)
noncomputable def LL (F : Addr -> Prop) (H : Hp) (a : Addr) (t : List (List V)) : Prop := F a /\ ∃ qs : List Addr, H a = some (.lst (qs.map V.ref)) /\ qs.length = t.length /\ ∀ i q, qs[i]? = some q -> F q /\ H q = some (.lst (t.getD i []))
section
variable {F G : Addr -> Prop} {H H' : Hp} {a : Addr} {t : List (List V)}
theorem LL.same (h : LL F H a t) (e : ∀ q o, F q -> H q = some o -> H' q = some o) : LL F H' a t := by
 obtain ⟨h0, qs, h1, h2, h3⟩ := h
 exact ⟨h0, qs, e a _ h0 h1, h2, fun i q hq => ⟨(h3 i q hq).1, e q _ (h3 i q hq).1 (h3 i q hq).2⟩⟩
theorem LL.sub (h : LL F H a t) (e : ∀ q, F q -> G q) : LL G H a t := by
 obtain ⟨h0, qs, h1, h2, h3⟩ := h
 exact ⟨e a h0, qs, h1, h2, fun i q hq => ⟨e q (h3 i q hq).1, (h3 i q hq).2⟩⟩
theorem LL.apart (h : LL F H a t) {x : Addr} (hx : H x = none) : LL (fun q => F q /\ q ≠ x) H a t := by
 obtain ⟨h0, qs, h1, h2, h3⟩ := h
 exact ⟨⟨h0, ne_of_none h1 hx⟩, qs, h1, h2, fun i q hq => ⟨⟨(h3 i q hq).1, ne_of_none (h3 i q hq).2 hx⟩, (h3 i q hq).2⟩⟩
theorem LL.top (h : LL F H a t) : ∃ qs : List Addr, H a = some (.lst (qs.map V.ref)) /\ qs.length = t.length := let ⟨_, qs, h1, h2, _⟩ := h; ⟨qs, h1, h2⟩
theorem LL.get (h : LL F H a t) {i : Nat} (hi : i < t.length) : ∃ (vs : List V) (q : Addr), H a = some (.lst vs) /\ atI vs (i : Int) = some (.ref q) /\ vs.length = t.length /\ F q /\ H q = some (.lst (t.getD i [])) := by
 obtain ⟨h0, qs, h1, h2, h3⟩ := h
 have hq : qs[i]? = some qs[i] := List.getElem?_eq_getElem (by omega)
 exact ⟨_, qs[i], h1, atI_nat (by rw [List.getElem?_map, hq]; rfl), by simp [h2], (h3 i _ hq).1, (h3 i _ hq).2⟩
end
theorem zw6 {t : List (List Nat)} {i : Nat} : (t.map vN).getD i [] = vN (t.getD i []) := by
 rw [List.getD_eq_getElem?_getD, List.getElem?_map, List.getD_eq_getElem?_getD]
 cases t[i]? <;> rfl
theorem atN {l : List Nat} {i : Nat} (h : i < l.length) : atI (vN l) (i : Int) = some (.int (l.getD i 0 : Nat)) := by rw [zx8 0 (by omega) (by omega), Int.toNat_natCast]
theorem atZ {l : List Int} {i : Nat} (h : i < l.length) : atI (vI l) (i : Int) = some (.int (l.getD i 0)) := by rw [zf19 0 (by omega) (by omega), Int.toNat_natCast]
theorem szL : sizeLine = 16777216 := sizeLine_eq
theorem pv_0 {u : V} {s : L2.St} {H : Hp} {Q : VK} : tVar 0 (some u :: s) H Q = Q u H := by simp [tVar]
theorem pv_s {x : Option V} {i : Nat} {s : L2.St} {H : Hp} {Q : VK} : tVar (i + 1) (x :: s) H Q = tVar i s H Q := rfl
theorem pg_0 {x : Option V} {v : V} {s : L2.St} {H : Hp} {Q : L2.St -> Hp -> Prop} : gName 0 v (x :: s) H Q = Q (some v :: s) H := rfl
theorem pg_s {x : Option V} {v : V} {i : Nat} {s : L2.St} {H : Hp} {Q : L2.St -> Hp -> Prop} : gName (i + 1) v (x :: s) H Q = gName i v s H (fun s' H' => Q (x :: s') H') := rfl
theorem pr_i0 {g : Int -> Int -> V} {i j : Int} {H : Hp} {Q : VK} : rI0 g (.int i) (.int j) H Q = Q (g i j) H := by simp [rI0]
theorem pr_i {C : Int -> Int -> Prop} {g : Int -> Int -> V} {i j : Int} {H : Hp} {Q : VK} : rI C g (.int i) (.int j) H Q = (C i j /\ Q (g i j) H) := by simp [rI]
theorem pr_u {g : Int -> V} {i : Int} {H : Hp} {Q : VK} : rU g (.int i) H Q = Q (g i) H := by simp [rU]
theorem pr_eq {i j : Int} {H : Hp} {Q : VK} : rEq (.int i) (.int j) H Q = Q (.bl (decide (i = j))) H := by simp [rEq, zi14]
theorem pr_ne {i j : Int} {H : Hp} {Q : VK} : rNe (.int i) (.int j) H Q = Q (.bl (!decide (i = j))) H := by simp [rNe, zi14]
theorem pe_b {b : Bool} {p : Bool -> Prop} : (∃ c, V.bl b = .bl c /\ p c) = p b := by simp
theorem st_c {n : Str} {N : List Str} {v : V} {vs : List V} : L2.start (n :: N) (v :: vs) = some v :: L2.start N vs := by simp [L2.start]
theorem st_n {n : Str} {N : List Str} : L2.start (n :: N) [] = none :: L2.start N [] := rfl
theorem st_z : L2.start [] [] = [] := rfl
noncomputable def asS {α : Type} (o : Option α) (Q : α -> Prop) : Prop := ∃ v, o = some v /\ Q v
noncomputable def asL (o : Option HO) (Q : List V -> Prop) : Prop := ∃ v, o = some (.lst v) /\ Q v
noncomputable def asI (C : Addr) (o : Option HO) (Q : Addr -> List (Str × V) -> Prop) : Prop := ∃ d f, o = some (.ins C d f) /\ Q d f
noncomputable def asT {α : Type} (o : Option α) (Q : α -> Prop) : Prop := ∃ v, o = some v /\ Q v
noncomputable def asM (o : Option HO) (Q : List V -> Prop) : Prop := ∃ v, o = some (.lst v) /\ Q v
noncomputable def asJ (C : Addr) (o : Option HO) (Q : Addr -> List (Str × V) -> Prop) : Prop := ∃ d f, o = some (.ins C d f) /\ Q d f
theorem asS_c {α : Type} {o o' : Option α} {Q : α -> Prop} (h : o = o') : asS o Q = asT o' Q := h ▸ rfl
theorem asL_c {o o' : Option HO} {Q : List V -> Prop} (h : o = o') : asL o Q = asM o' Q := h ▸ rfl
theorem asI_c {C : Addr} {o o' : Option HO} {Q : Addr -> List (Str × V) -> Prop} (h : o = o') : asI C o Q = asJ C o' Q := h ▸ rfl
theorem asS_s {α : Type} {v : α} {Q : α -> Prop} : asT (some v) Q = Q v := by simp [asT]
theorem asL_s {v : List V} {Q : List V -> Prop} : asM (some (.lst v)) Q = Q v := by simp [asM]
theorem asI_s {C d : Addr} {f : List (Str × V)} {Q : Addr -> List (Str × V) -> Prop} : asJ C (some (.ins C d f)) Q = Q d f := propext ⟨fun ⟨_, _, e, q⟩ => by cases e; exact q, fun q => ⟨d, f, rfl, q⟩⟩
theorem p_len {p : Addr} {H : Hp} {Q : VK} : rLen [.ref p] H Q = asL (H p) fun ys => Q (.int ys.length) H := by simp [rLen, asL]
theorem zb28 {p : Addr} {H : Hp} {Q : VK} : zg19 [.ref p] H Q = asL (H p) fun ys => ∀ l, H l = none -> Q (.ref l) (upd H l (.lst ys)) := by simp [zg19, asL]
theorem p_ix {p : Addr} {i : Int} {H : Hp} {Q : VK} : rIxM (.ref p) (.int i) H Q = asL (H p) fun xs => asS (atI xs i) fun v => Q v H := by simp [rIxM, asL, asS]
theorem p_set {p : Addr} {k : Int} {v : V} {H : Hp} {Q : Hp -> Prop} : rSetL (.ref p) (.int k) v H Q = asL (H p) fun xs => asS (ixN xs.length k) fun j => Q (upd H p (.lst (xs.set j v))) := by simp [rSetL, asL, asS]
theorem p_cat {l b : Addr} {H : Hp} {Q : VK} : rCat (.ref l) (.ref b) H Q = asL (H l) fun xs => asL (H b) fun zs => xs.length + zs.length <= sizeLine /\ ∀ p, H p = none -> Q (.ref p) (upd H p (.lst (xs ++ zs))) := by simp [rCat, asL]
theorem p_rep {l : Addr} {k : Int} {H : Hp} {Q : VK} : rRep (.ref l) (.int k) H Q = asL (H l) fun xs => -(2 ^ 63) <= k /\ k < 2 ^ 63 /\ xs.length * k.toNat <= sizeLine /\ ∀ p, H p = none -> Q (.ref p) (upd H p (.lst (List.replicate k.toNat xs).flatten)) := by simp [rRep, asL]
noncomputable def rFT (C : Addr) (f : Str) (x : V) (H : Hp) (Q : V -> Prop) : Prop := ∃ a dx fs v, x = .ref a /\ H a = some (.ins C dx fs) /\ fs.lookup f = some v /\ Q v
theorem tFT_e {C : Addr} {ta : TE} {f : Str} {s : L2.St} {H : Hp} {Q : VK} : tFT C ta f s H Q = ta s H fun x H1 => rFT C f x H1 fun v => Q v H1 := rfl
theorem p_ft {C a : Addr} {f : Str} {H : Hp} {Q : V -> Prop} : rFT C f (.ref a) H Q = asI C (H a) fun _ fs => asS (fs.lookup f) Q := by simp [rFT, asI, asS]
noncomputable def rSF (C : Addr) (x : V) (H : Hp) (Q : Addr -> Addr -> List (Str × V) -> Prop) : Prop := ∃ a dx fs, x = .ref a /\ H a = some (.ins C dx fs) /\ Q a dx fs
theorem sFT_e {C : Addr} {ta tv : TE} {f : Str} {D : Ends} {s : L2.St} {H : Hp} : sFT C ta tv f D s H = tv s H fun y H1 => ta s H1 fun x H2 => rSF C x H2 fun a dx fs => fs.length < 1000 /\ D.nx s (upd H2 a (.ins C dx (putF f y fs))) := rfl
theorem p_sf {C a : Addr} {H : Hp} {Q : Addr -> Addr -> List (Str × V) -> Prop} : rSF C (.ref a) H Q = asI C (H a) fun dx fs => Q a dx fs := by simp [rSF, asI]
theorem zi26 {C : Addr} {m : Str} {sp : Sp} {dvs : List V} {E : XK} {ta : TE} {t : TA} {s : L2.St} {H : Hp} {Q : VK} : tMeth C m sp dvs E ta t s H Q = ta s H fun x H1 => rSF C x H1 fun _ _ fs => fs.lookup m = none /\ t s H1 fun vs H2 => sp (x :: (vs ++ dvs)) H2 Q E := rfl
noncomputable def rAp (x : V) (H : Hp) (Q : Addr -> Prop) : Prop := ∃ l, x = .ref l /\ (∃ xs, H l = some (.lst xs)) /\ Q l
theorem p_ap {l : Addr} {H : Hp} {Q : Addr -> Prop} : rAp (.ref l) H Q = asL (H l) fun _ => Q l := by simp [rAp, asL]
theorem zc28 {to te : TE} {s : L2.St} {H : Hp} {Q : VK} : tApp to te s H Q = to s H fun x H1 => rAp x H1 fun l => te s H1 fun y H2 => asL (H2 l) fun xs => xs.length < sizeLine /\ Q .non (upd H2 l (.lst (xs ++ [y]))) := rfl
theorem pix {X : Cx} {a b : Expr} {ta tb : TE} {pos : Pos} (ha : PE X a ta) (hb : PE X b tb) (hs : PlainIx b := by exact fun _ _ => rfl) : PE X (.Subscript a b pos) (tOp rIxM ta tb) := pe_ix ix_M ha hb hs
theorem pln {X : Cx} {p pos : Pos} {e : Expr} {ta : TE} (hm : X.mg "len" = none) (ha : PE X e ta) (hg : Gl X "len" := by rfl) (hs : starEach [e] X.env = (false, eval e X.env) :: starEach [] X.env := by rfl) (hpl : (backTo pos (starEach [] X.env)).any (·.1) = false := by rfl) : PE X (.Call (.Name "len" p) [e] [] pos) (tCB rLen (tCons ta tNil)) := pe_callB zw27 hg hm PySem.boot_len (pa_cons ha pa_nil hs) (by decide) (by decide) hs hpl
local macro_rules
  | `(tactic| simp? [$args,*]) => `(tactic| (try simp only [↓pv_0, ↓pv_s, ↓pg_0, ↓pg_s, ↓pr_i0, ↓pr_i, ↓pr_u, ↓pr_eq, ↓pr_ne, ↓pe_b, ↓p_len, ↓zb28, ↓p_ix, ↓p_set, ↓p_cat, ↓p_rep, ↓tFT_e, ↓p_ft, ↓sFT_e, ↓p_sf, ↓zi26, ↓p_ap, ↓zc28, ↓asS_c, ↓asL_c, ↓asI_c, ↓asS_s, ↓asL_s, ↓asI_s, ↓reduceIte, tSeq, tIfS, tRet, tRetN, tDrop, tNext, tAsg, gName, tTest, tB, tNot, tAnd, tOr, tAndV, tOrV, tNotV, tIf, tOp, tUn, tChain, tC, tCB, tCons, tNil, gSub, zd24, ze24, tTup, zx26, zy26, tCnt, tExt, tPop, exists_eq', tCall, tMake, tLst, zi14, List.getElem?_cons_zero, List.getElem?_cons_succ, List.set_cons_zero, List.set_cons_succ, List.nil_append, List.append_nil, List.cons_append, List.cons.injEq, Option.some.injEq, V.int.injEq, V.ref.injEq, V.bl.injEq, HO.lst.injEq, zx27, zy27, HO.ins.injEq, exists_eq_left, exists_eq_left', exists_and_left, exists_and_right, exists_eq_right, exists_eq_right', exists_eq, true_and, and_true, and_self, and_assoc, if_true, if_false, Bool.false_eq_true, decide_eq_true_eq, Bool.not_eq_true', decide_eq_false_iff_not, Bool.not_true, Bool.not_false, Bool.true_eq_false, decide_true, decide_false, ite_not, $args,*]; try simp only [↓pv_0, ↓pv_s, ↓pg_0, ↓pg_s, ↓pr_i0, ↓pr_i, ↓pr_u, ↓pr_eq, ↓pr_ne, ↓pe_b, ↓p_len, ↓zb28, ↓p_ix, ↓p_set, ↓p_cat, ↓p_rep, ↓tFT_e, ↓p_ft, ↓sFT_e, ↓p_sf, ↓zi26, ↓p_ap, ↓zc28, ↓asS_c, ↓asL_c, ↓asI_c, ↓asS_s, ↓asL_s, ↓asI_s, ↓reduceIte, asT, asM, asJ, rFT, rSF, rAp, tSeq, tIfS, tRet, tRetN, tDrop, tNext, tAsg, gName, tTest, tB, tNot, tAnd, tOr, tAndV, tOrV, tNotV, tIf, tOp, tUn, tChain, tC, tVar, tCB, tCons, tNil, rI0, rI, rU, rEq, rNe, rLen, zg19, rIxM, rSetL, gSub, rRep, zd24, ze24, tTup, zx26, zy26, tCnt, tApp, tExt, tPop, exists_eq', rCat, tFT, sFT, tCall, tMeth, tMake, tLst, zi14, List.getElem?_cons_zero, List.getElem?_cons_succ, List.set_cons_zero, List.set_cons_succ, List.nil_append, List.append_nil, List.cons_append, List.cons.injEq, Option.some.injEq, V.int.injEq, V.ref.injEq, V.bl.injEq, HO.lst.injEq, zx27, zy27, HO.ins.injEq, exists_eq_left, exists_eq_left', exists_and_left, exists_and_right, exists_eq_right, exists_eq_right', exists_eq, true_and, and_true, and_self, and_assoc, if_true, if_false, Bool.false_eq_true, reduceIte, decide_eq_true_eq, Bool.not_eq_true', decide_eq_false_iff_not, Bool.not_true, Bool.not_false, Bool.true_eq_false, decide_true, decide_false, ite_not, $args,*]))
  | `(tactic| simp_all?) => `(tactic| first | exact Or.inl rfl | exact Or.inr rfl)
  | `(tactic| simp_all? only) => `(tactic| exact ⟨rfl, rfl, rfl, by decide +kernel, rfl, by decide +kernel, by decide +kernel⟩)
set_option genInjectivity false
set_option genSizeOf false
structure TxtF (K : W.Frag) (mg : Str -> Option Value) where
 len : mg "len" = none
 range : mg "range" = none
 list : mg "list" = none
 sum : mg "sum" = none
 ze13 : ∃ t, mg "GOES_ON" = some (.int (0) t)
 zi10 : ∃ t, mg "GOOD_END" = some (.int (1) t)
 zw15 : ∃ t, mg "BAD_END" = some (.int (2) t)
 zr26 : ∃ t, mg "EQUAL" = some (.int (0) t)
 zo28 : ∃ t, mg "UNEQUAL" = some (.int (1) t)
 c_SET : ∃ t, mg "SET" = some (.int (0) t)
 c_ADD : ∃ t, mg "ADD" = some (.int (1) t)
 zl31 : ∃ t, mg "COPY" = some (.int (2) t)
 zx15 : ∃ t, mg "GREATEST_OPERAND" = some (.int (7) t)
 zr : ∃ t, mg "NONE_DUE" = some (.int (0) t)
 zy3 : ∃ t, mg "OUT_OF_RANGE" = some (.int (-1) t)
 zz6 : ∃ t, mg "NO_STORY" = some (.int (-2) t)
 zj18 : ∃ t, mg "NO_SUCH_ACTION" = some (.int (-3) t)
 zh20 : ∃ t, mg "NO_SUCH_STATE" = some (.int (-4) t)
 zw25 : ∃ t, mg "AT_AN_END" = some (.int (-5) t)
 zk18 : ∃ t, mg "CANNOT_BE_DONE" = some (.int (-6) t)
 zu14 : ∃ t, mg "AS_MANY_AS_MAY_BE" = some (.int (-7) t)
 zj17 : ∃ t, mg "NOT_RIGHT" = some (.int (-8) t)
 zn16 : ∃ t, mg "NOTHING_TO_UNDO" = some (.int (-9) t)
 zm31 : ∃ t, mg "LOST" = some (.int (-10) t)
 zl18 : ∃ t, mg "MOST_VARIABLES" = some (.int (8) t)
 zb25 : ∃ t, mg "LEAST_SIZE" = some (.int (2) t)
 zi20 : ∃ t, mg "GREATEST_SIZE" = some (.int (8) t)
 zd23 : ∃ t, mg "MOST_STATES" = some (.int (1024) t)
 zq10 : ∃ t, mg "MOST_RULE_NUMBERS" = some (.int (24) t)
 zo16 : ∃ t, mg "GREATEST_ACTION" = some (.int (15) t)
 zm18 : ∃ t, mg "GREATEST_STATE" = some (.int (1023) t)
 zv14 : ∃ t, mg "GREATEST_VARIABLE" = some (.int (7) t)
 zn18 : ∃ t, mg "GREATEST_VALUE" = some (.int (7) t)
 zj20 : ∃ t, mg "LONGEST_TABLE" = some (.int (1024) t)
 zw14 : ∃ t, mg "GREATEST_IN_TABLE" = some (.int (1025) t)
 zb14 : ∃ t, mg "WAYS_MODULUS" = some (.int (1000000007) t)
 zs22 : ∃ t, mg "NOWHERE" = some (.int (-1) t)
 zq21 : ∃ t, mg "MOST_ACTIONS" = some (.int (16) t)
 zc25 : ∃ t, mg "MOST_TURNS" = some (.int (8) t)
 zo18 : ∃ t, mg "MOST_GOOD_ENDS" = some (.int (4) t)
 zk20 : ∃ t, mg "MOST_BAD_ENDS" = some (.int (4) t)
 ze23 : ∃ t, mg "MOST_UNDONE" = some (.int (200) t)
 zs26 : ∃ t, mg "STORY" = some (.int (0) t)
 zd25 : ∃ t, mg "ACTION" = some (.int (1) t)
 zn31 : ∃ t, mg "TURN" = some (.int (2) t)
 zp28 : ∃ t, mg "GOOD" = some (.int (3) t)
 c_BAD : ∃ t, mg "BAD" = some (.int (4) t)
 c_ACT : ∃ t, mg "ACT" = some (.int (5) t)
 zq28 : ∃ t, mg "RESTART" = some (.int (6) t)
 zo31 : ∃ t, mg "UNDO" = some (.int (7) t)
 c_NOW : ∃ t, mg "NOW" = some (.int (8) t)
 c_CAN : ∃ t, mg "CAN" = some (.int (9) t)
 zp31 : ∃ t, mg "HINT" = some (.int (10) t)
 c_WAY : ∃ t, mg "WAY" = some (.int (11) t)
 zr28 : ∃ t, mg "RANK" = some (.int (12) t)
 ze25 : ∃ t, mg "CHOICE" = some (.int (13) t)
 zd29 : ∃ t, mg "SURVEY" = some (.int (14) t)
 zf30 : ∃ t, mg "RANKS" = some (.int (15) t)
 zg30 : ∃ t, mg "CHECK" = some (.int (16) t)
 zl20 : ∃ t, mg "DISTANCE" = some (.int (17) t)
 zq31 : ∃ t, mg "MUST" = some (.int (18) t)
 zr31 : ∃ t, mg "WAYS" = some (.int (19) t)
 zh30 : ∃ t, mg "STATE" = some (.int (20) t)
 za7 : FF K mg "none_is_nearer" "none_is_nearer" (top 4) ["numbers_ahead", "least"]
 zh9 : FF K mg "number_fits" "number_fits" (top 5) ["kind", "number", "numbers_ahead"]
 zf13 : FF K mg "accepts" "accepts" (top 6) ["story", "table"]
 zh6 : FF K mg "condition_right" "condition_right" (top 14) ["sizes", "v", "rel", "x"]
 zy5 : FF K mg "conditions_right" "conditions_right" (top 15) ["sizes", "conditions"]
 zi8 : FF K mg "effect_right" "effect_right" (top 16) ["sizes", "v", "op", "x"]
 zq7 : FF K mg "effects_right" "effects_right" (top 17) ["sizes", "effects"]
 zi6 : FF K mg "condition_holds" "condition_holds" (top 18) ["values", "v", "rel", "x"]
 zg4 : FF K mg "conditions_hold" "conditions_hold" (top 19) ["conditions", "values"]
 zi9 : FF K mg "value_after" "value_after" (top 20) ["sizes", "values", "v", "op", "x"]
 zj8 : FF K mg "values_after" "values_after" (top 21) ["sizes", "effects", "values"]
 zy4 : FF K mg "how_many_states" "how_many_states" (top 23) ["sizes"]
 zz8 : FF K mg "number_of" "number_of" (top 24) ["sizes", "values"]
 zc11 : FF K mg "values_of" "values_of" (top 25) ["sizes", "number"]
 zj9 : FF K mg "sizes_right" "sizes_right" (top 49) ["sizes"]
 zr7 : FF K mg "story_refusal" "story_refusal" (top 50) ["sizes", "first_values"]
 zb3 : FF K mg "call_refusal" "call_refusal" (top 51) ["story"]
 zi4 : FF K mg "rule_refusal" "rule_refusal" (top 52) ["story", "count", "most", "conditions", "effects"]
 zl5 : FF K mg "action_refusal" "action_refusal" (top 53) ["story", "now", "a"]
 zk8 : FF K mg "undo_refusal" "undo_refusal" (top 54) ["story", "past"]
 zj4 : FF K mg "states_refusal" "states_refusal" (top 55) ["story", "named"]
 zs7 : FF K mg "table_refusal" "table_refusal" (top 56) ["story", "table"]
 zg5 : FF K mg "lost_refusal" "lost_refusal" (top 57) ["story", "now"]
 zl8 : FF K mg "must_refusal" "must_refusal" (top 58) ["story", "now", "v", "x"]
 zt7 : FF K mg "states_before" "states_before" (top 60) ["ahead"]
 zj10 : FF K mg "next_layer" "next_layer" (top 61) ["beside", "numbers", "layer", "number"]
 zq6 : FF K mg "numbers_from" "numbers_from" (top 62) ["beside", "first_layer"]
 zc12 : FF K mg "ranks_of" "ranks_of" (top 63) ["kinds", "ahead"]
 zw3 : FF K mg "distances_from" "distances_from" (top 64) ["ahead", "n"]
 zd12 : FF K mg "way_from" "way_from" (top 67) ["story", "start"]
 zm8 : FF K mg "counts_ahead" "counts_ahead" (top 68) ["ahead", "ranks", "counts", "rank"]
 zu7 : FF K mg "how_many_ways" "how_many_ways" (top 69) ["story", "start"]
 zn8 : FF K mg "can_go_round" "can_go_round" (top 70) ["story", "start", "v", "x"]
 zd11 : FF K mg "survey_of" "survey_of" (top 71) ["story"]
 zj6 : FF K mg "answer_two_rows" "answer_two_rows" (top 105) ["call", "game", "first_row", "second_row"]
 zk10 : FF K mg "answer_row" "answer_row" (top 106) ["call", "game", "row"]
 zv7 : FF K mg "answer_number" "answer_number" (top 107) ["call", "game", "number"]
 zd5 : FF K mg "answer_two_numbers" "answer_two_numbers" (top 108) ["call", "game", "first_number", "second_number"]
 zo8 : FF K mg "answer_plain" "answer_plain" (top 109) ["call", "game"]
 zk9 : FF K mg "answer_call" "answer_call" (top 110) ["game", "reader"]
 zw9 : FF K mg "answers" "answers" (top 111) ["calls"]
structure Txt (K : W.Frag) (mg : Str -> Option Value) extends TxtF K mg where
 za : ClsT K mg "Story"
 zk4 : MM K za.C "__init__" "Story.__init__" (inClass (top 74) 0) ["self", "sizes", "first_values"]
 zz3 : MM K za.C "forget" "Story.forget" (inClass (top 74) 1) ["self"]
 zo3 : MM K za.C "state_after" "Story.state_after" (inClass (top 74) 2) ["self", "conditions", "effects", "n", "otherwise"]
 zr4 : MM K za.C "add_action" "Story.add_action" (inClass (top 74) 3) ["self", "conditions", "effects"]
 zm5 : MM K za.C "add_turn" "Story.add_turn" (inClass (top 74) 4) ["self", "conditions", "effects"]
 zt3 : MM K za.C "kind_with_good" "Story.kind_with_good" (inClass (top 74) 5) ["self", "conditions", "n"]
 zn5 : MM K za.C "add_good" "Story.add_good" (inClass (top 74) 6) ["self", "conditions"]
 za4 : MM K za.C "kind_with_bad" "Story.kind_with_bad" (inClass (top 74) 7) ["self", "conditions", "n"]
 zz5 : MM K za.C "add_bad" "Story.add_bad" (inClass (top 74) 8) ["self", "conditions"]
 zp3 : MM K za.C "can_be_done" "Story.can_be_done" (inClass (top 74) 9) ["self", "n", "a"]
 zf3 : MM K za.C "actions_in" "Story.actions_in" (inClass (top 74) 10) ["self", "n"]
 zw2 : MM K za.C "leads_to" "Story.leads_to" (inClass (top 74) 11) ["self", "n", "a"]
 zo5 : MM K za.C "ahead_of" "Story.ahead_of" (inClass (top 74) 12) ["self", "n"]
 zi1 : MM K za.C "states_ahead" "Story.states_ahead" (inClass (top 74) 13) ["self"]
 ze2 : MM K za.C "ranks" "Story.ranks" (inClass (top 74) 14) ["self"]
 ze3 : MM K za.C "hinted_action" "Story.hinted_action" (inClass (top 74) 15) ["self", "n"]
 zk1 : NoAttr K za.C "sizes"
 zw4 : NoAttr K za.C "first"
 zs1 : NoAttr K za.C "state_values"
 zk : NoAttr K za.C "kinds"
 zz1 : NoAttr K za.C "effected"
 zl4 : NoAttr K za.C "turned"
 zt2 : NoAttr K za.C "turn_count"
 zu2 : NoAttr K za.C "good_count"
 zc3 : NoAttr K za.C "bad_count"
 zp2 : NoAttr K za.C "known_ahead"
 zq2 : NoAttr K za.C "known_ranks"
 zb : ClsT K mg "Game"
 za6 : MM K zb.C "__init__" "Game.__init__" (inClass (top 81) 0) ["self"]
 zd8 : MM K zb.C "begin" "Game.begin" (inClass (top 81) 1) ["self", "sizes", "first_values"]
 zs4 : MM K zb.C "tell_action" "Game.tell_action" (inClass (top 81) 2) ["self", "conditions", "effects"]
 zp5 : MM K zb.C "tell_turn" "Game.tell_turn" (inClass (top 81) 3) ["self", "conditions", "effects"]
 zq5 : MM K zb.C "tell_good" "Game.tell_good" (inClass (top 81) 4) ["self", "conditions"]
 zb6 : MM K zb.C "tell_bad" "Game.tell_bad" (inClass (top 81) 5) ["self", "conditions"]
 zl10 : MM K zb.C "act" "Game.act" (inClass (top 81) 6) ["self", "a"]
 zr6 : MM K zb.C "restart" "Game.restart" (inClass (top 81) 7) ["self"]
 za9 : MM K zb.C "undo" "Game.undo" (inClass (top 81) 8) ["self"]
 zc6 : MM K zb.C "tell_now" "Game.tell_now" (inClass (top 81) 9) ["self"]
 zm10 : MM K zb.C "can" "Game.can" (inClass (top 81) 10) ["self"]
 zb9 : MM K zb.C "hint" "Game.hint" (inClass (top 81) 11) ["self"]
 zn10 : MM K zb.C "way" "Game.way" (inClass (top 81) 12) ["self"]
 zc9 : MM K zb.C "rank" "Game.rank" (inClass (top 81) 13) ["self", "n"]
 zd7 : MM K zb.C "choice" "Game.choice" (inClass (top 81) 14) ["self", "a"]
 ze7 : MM K zb.C "survey" "Game.survey" (inClass (top 81) 15) ["self"]
 zz4 : MM K zb.C "tell_ranks" "Game.tell_ranks" (inClass (top 81) 16) ["self"]
 ze8 : MM K zb.C "check" "Game.check" (inClass (top 81) 17) ["self", "table"]
 zd6 : MM K zb.C "distance" "Game.distance" (inClass (top 81) 18) ["self", "n", "m"]
 zd9 : MM K zb.C "must" "Game.must" (inClass (top 81) 19) ["self", "v", "x"]
 ze9 : MM K zb.C "ways" "Game.ways" (inClass (top 81) 20) ["self"]
 za5 : MM K zb.C "tell_state" "Game.tell_state" (inClass (top 81) 21) ["self", "n"]
 zq1 : MM K zb.C "state_answered" "Game.state_answered" (inClass (top 81) 22) ["self", "n"]
 zf : NoAttr K zb.C "story"
 zt : NoAttr K zb.C "now"
 zu3 : NoAttr K zb.C "past"
 ze : ClsT K mg "Reader"
 zb5 : MM K ze.C "__init__" "Reader.__init__" (inClass (top 104) 0) ["self", "calls"]
 ze6 : MM K ze.C "at_end" "Reader.at_end" (inClass (top 104) 1) ["self"]
 zt1 : MM K ze.C "read_number" "Reader.read_number" (inClass (top 104) 2) ["self"]
 zk3 : MM K ze.C "read_row" "Reader.read_row" (inClass (top 104) 3) ["self"]
 zm4 : NoAttr K ze.C "calls"
 zf2 : NoAttr K ze.C "place"
section
variable {P : Program} {w : World} {K : W.Frag} {mg : Str -> Option Value} {base : Heap}
noncomputable def zu10 (sz : List Nat) (v r x : Int) : Bool := inr v 0 ((sz.length : Int) - 1) && (inr r 0 1 && inr x 0 ((sz.getD v.toNat 1 : Int) - 1))
noncomputable def zg11 : Sp := fun vs H Q _ => ∃ a sz v rel x, vs = [.ref a, .int v, .int rel, .int x] /\ H a = some (.lst (vN sz)) /\ Q (.bl (zu10 sz v rel x)) H
theorem zz14 : FnScope ["sizes", "v", "rel", "x"] ["sizes", "v", "rel", "x"] (defScope (top 14)) := by simp_all? only
theorem za15 (T : Txt K mg) : FnOk P w K mg base CX0 1 T.zh6.f T.zh6.fd ["sizes", "v", "rel", "x"] zg11 := by
 refine T.zh6.F.ok zz14 (fun _ _ _ _ h => ?_) (fun _ _ _ _ H vs Q E hr h => ?_)
 ·obtain ⟨a, zs, v, rel, x, rfl, _⟩ := h
  rfl
 ·obtain ⟨a, sz, v, rel, x, rfl, ha, k⟩ := h
  refine ⟨_, (pss_cons (ps_if (pt_not (pt_chain op_le op_lt pe_int (pv 1) (pln T.len (pv 0)))) (pss_one (ps_ret pe_bl)) pss_nil)
   (pss_cons (ps_if (pw_and (pt_cmpR op_ne (pv 2) (zg T.zr26) (nomark _)) (pw_and1 (pt_cmpR op_ne (pv 2) (zg T.zo28) (nomark _)))).pt (pss_one (ps_ret pe_bl)) pss_nil)
   (pss_one (ps_ret (pe_chain op_le op_lt pe_int (pv 3) (pix (pv 0) (pv 1))))))), ?_⟩
  simp only [st_c, st_n, st_z]
  simp? [ha, List.length_map]
  have kk : ∀ b, b = zu10 sz v rel x -> Q (V.bl b) H := fun b e => e ▸ k
  by_cases h1 : 0 <= v /\ v < sz.length
  ·rw [zx8 1 h1.1 h1.2]
   simp? [h1.1, h1.2]
   repeat' split
   all_goals exact kk _ (by rw [Bool.eq_iff_iff]; simp only [zu10, inr, Bool.and_eq_true, Bool.or_eq_true, decide_eq_true_eq, Bool.false_eq_true, false_iff, true_iff, iff_true, iff_false]; omega)
  ·repeat' split
   all_goals first
    | exact kk _ (by rw [Bool.eq_iff_iff]; simp only [zu10, inr, Bool.and_eq_true, Bool.or_eq_true, decide_eq_true_eq, Bool.false_eq_true, false_iff, true_iff, iff_true, iff_false]; omega)
    | (exfalso; omega)
theorem zi13 (sz : List Nat) : ∀ cs : List Int, condsIn sz cs = true -> cs.length % 3 = 0
 | [], _ => rfl
 | [_], h => by simp [condsIn] at h
 | [_, _], h => by simp [condsIn] at h
 | v :: r :: x :: l, h => by
  unfold condsIn at h
  rw [Bool.and_eq_true] at h
  have := zi13 sz l h.2
  simp only [List.length_cons]
  omega
theorem zb15 (sz : List Nat) (v r x : Int) (l : List Int) : condsIn sz (v :: r :: x :: l) = (zu10 sz v r x && condsIn sz l) := by
 rw [condsIn]
 rfl
noncomputable def zo10 : Sp := fun vs H Q _ => ∃ a c sz cs, vs = [.ref a, .ref c] /\ H a = some (.lst (vN sz)) /\ H c = some (.lst (vI cs)) /\ cs.length <= 2000 /\ Q (.bl (condsIn sz cs)) H
theorem zp10 : FnScope ["sizes", "conditions", "k"] ["sizes", "conditions"] (defScope (top 15)) := by simp_all? only
theorem zr14 (T : Txt K mg) : FnOk P w K mg base CX0 2 T.zy5.f T.zy5.fd ["sizes", "conditions"] zo10 := by
 have zp16 := @za15 P w K mg base T
 refine T.zy5.F.ok zp10 (fun _ _ _ _ h => ?_) (fun _ _ _ _ H vs Q E hr h => ?_)
 ·obtain ⟨a, c, sz, cs, rfl, _⟩ := h
  rfl
 ·obtain ⟨a, c, sz, cs, rfl, ha, hc, hl, k⟩ := h
  refine ⟨_, (pss_cons (ps_if (pt_cmpR op_ne (pe_op op_mod (pln T.len (pv 1)) pe_int) pe_int (nomark _)) (pss_one (ps_ret pe_bl)) pss_nil)
   (pss_cons (ps_for PassesOwn.never rfl (pi_range3 rfl T.range (pa_cons pe_int (pa_cons (pln T.len (pv 1)) (pa_cons pe_int pa_nil)))) (pg_name (i := 2) zp10.nd rfl (by simp_all?))
   (pss_one (ps_if (pt_not (pt_val (zm T.zh6 zp16 (hr.mono (by decide)) (pa_cons (pv 0) (pa_cons (pix (pv 1) (pv 2)) (pa_cons (pix (pv 1) (pe_op op_add (pv 2) pe_int)) (pa_cons (pix (pv 1) (pe_op op_add (pv 2) pe_int)) pa_nil))))))) (pss_one (ps_ret pe_bl)) pss_nil)))
   (pss_one (ps_ret pe_bl)))), ?_⟩
  simp only [st_c, st_n, st_z]
  simp? [ha, hc, List.length_map]
  have kk : ∀ b, b = condsIn sz cs -> Q (V.bl b) H := fun b e => e ▸ k
  refine ⟨by decide, ?_⟩
  split
  ·rename_i hm
   refine for3 (n := (cs.length + 2) / 3) (fun i σ H' => ∃ kv, σ = [some (.ref a), some (.ref c), kv] /\ H' = H /\ condsIn sz cs = condsIn sz (cs.drop (3 * i)))
    (fun R h => by simp? [hc, List.length_map]; exact h) (rgc3 cs.length (by omega)) ⟨_, rfl, rfl, rfl⟩ ?_ ?_
   ·rintro i σ H' hi ⟨kv, rfl, rfl, e⟩
    have hi2 : 3 * i + 2 < cs.length := by omega
    rw [zb16 cs hi2, zb15] at e
    obtain ⟨q0, q1, q2⟩ := at3 hi2
    simp? [ha, hc, q0, q1, q2, zg11]
    split
    ·rename_i hb
     rw [hb] at e
     exact kk _ (by rw [e]; rfl)
    ·rename_i hb
     rw [Bool.not_eq_false] at hb
     rw [hb, Bool.true_and] at e
     exact e
   ·rintro σ H' ⟨kv, rfl, rfl, e⟩
    rw [List.drop_eq_nil_of_le (by omega)] at e
    simp? []
    exact kk _ e.symm
  ·rename_i hm
   refine kk _ ?_
   cases h : condsIn sz cs with
   | false => rfl
   | true => exact absurd (zi13 sz cs h) (by omega)
noncomputable def zc7 (sz : List Nat) (v o x : Int) : Bool := inr v 0 ((sz.length : Int) - 1) && (inr o 0 2 && (if o = 2 then inr x 0 ((sz.length : Int) - 1) else inr x 0 7))
noncomputable def zw12 : Sp := fun vs H Q _ => ∃ a sz v op x, vs = [.ref a, .int v, .int op, .int x] /\ H a = some (.lst (vN sz)) /\ Q (.bl (zc7 sz v op x)) H
theorem zi19 : FnScope ["sizes", "v", "op", "x"] ["sizes", "v", "op", "x"] (defScope (top 16)) := by simp_all? only
theorem zj19 (T : Txt K mg) : FnOk P w K mg base CX0 1 T.zi8.f T.zi8.fd ["sizes", "v", "op", "x"] zw12 := by
 refine T.zi8.F.ok zi19 (fun _ _ _ _ h => ?_) (fun _ _ _ _ H vs Q E hr h => ?_)
 ·obtain ⟨a, zs, v, op, x, rfl, _⟩ := h
  rfl
 ·obtain ⟨a, sz, v, op, x, rfl, ha, k⟩ := h
  refine ⟨_, (pss_cons (ps_if (pt_not (pt_chain op_le op_lt pe_int (pv 1) (pln T.len (pv 0)))) (pss_one (ps_ret pe_bl)) pss_nil)
   (pss_cons (ps_if (pw_or (pt_cmpR op_eq (pv 2) (zg T.c_SET) (nomark _)) (pw_or1 (pt_cmpR op_eq (pv 2) (zg T.c_ADD) (nomark _)))).pt (pss_one (ps_ret (pe_chain op_le op_le pe_int (pv 3) (zg T.zx15)))) pss_nil)
   (pss_one (ps_ret (pe_and (pe_cmpR op_eq (pv 2) (zg T.zl31) (nomark _)) (pe_one (pe_chain op_le op_lt pe_int (pv 3) (pln T.len (pv 0))))))))), ?_⟩
  simp only [st_c, st_n, st_z]
  simp? [ha, List.length_map]
  have kk : ∀ b, b = zc7 sz v op x -> Q (V.bl b) H := fun b e => e ▸ k
  have hop : op = 2 \/ op ≠ 2 := by omega
  rcases hop with hop | hop
  ·have e : zc7 sz v op x = (inr v 0 ((sz.length : Int) - 1) && (inr op 0 2 && inr x 0 ((sz.length : Int) - 1))) := by
    unfold zc7
    rw [if_pos hop]
   rw [e] at kk
   repeat' split
   all_goals first
    | exact kk _ (by rw [Bool.eq_iff_iff]; simp only [zc7, inr, Bool.and_eq_true, Bool.or_eq_true, decide_eq_true_eq, Bool.false_eq_true, false_iff, true_iff, iff_true, iff_false]; omega)
    | (exfalso; omega)
  ·have e : zc7 sz v op x = (inr v 0 ((sz.length : Int) - 1) && (inr op 0 2 && inr x 0 7)) := by
    unfold zc7
    rw [if_neg hop]
   rw [e] at kk
   repeat' split
   all_goals first
    | exact kk _ (by rw [Bool.eq_iff_iff]; simp only [zc7, inr, Bool.and_eq_true, Bool.or_eq_true, decide_eq_true_eq, Bool.false_eq_true, false_iff, true_iff, iff_true, iff_false]; omega)
    | (exfalso; omega)
theorem zj14 (sz : List Nat) : ∀ cs : List Int, effsIn sz cs = true -> cs.length % 3 = 0
 | [], _ => rfl
 | [_], h => by simp [effsIn] at h
 | [_, _], h => by simp [effsIn] at h
 | v :: r :: x :: l, h => by
  unfold effsIn at h
  rw [Bool.and_eq_true] at h
  have := zj14 sz l h.2
  simp only [List.length_cons]
  omega
theorem zc17 (sz : List Nat) (v r x : Int) (l : List Int) : effsIn sz (v :: r :: x :: l) = (zc7 sz v r x && effsIn sz l) := by
 rw [effsIn]
 rfl
noncomputable def zh12 : Sp := fun vs H Q _ => ∃ a c sz cs, vs = [.ref a, .ref c] /\ H a = some (.lst (vN sz)) /\ H c = some (.lst (vI cs)) /\ cs.length <= 2000 /\ Q (.bl (effsIn sz cs)) H
theorem zi12 : FnScope ["sizes", "effects", "k"] ["sizes", "effects"] (defScope (top 17)) := by simp_all? only
theorem zq17 (T : Txt K mg) : FnOk P w K mg base CX0 2 T.zq7.f T.zq7.fd ["sizes", "effects"] zh12 := by
 have zr21 := @zj19 P w K mg base T
 refine T.zq7.F.ok zi12 (fun _ _ _ _ h => ?_) (fun _ _ _ _ H vs Q E hr h => ?_)
 ·obtain ⟨a, c, sz, cs, rfl, _⟩ := h
  rfl
 ·obtain ⟨a, c, sz, cs, rfl, ha, hc, hl, k⟩ := h
  refine ⟨_, (pss_cons (ps_if (pt_cmpR op_ne (pe_op op_mod (pln T.len (pv 1)) pe_int) pe_int (nomark _)) (pss_one (ps_ret pe_bl)) pss_nil)
   (pss_cons (ps_for PassesOwn.never rfl (pi_range3 rfl T.range (pa_cons pe_int (pa_cons (pln T.len (pv 1)) (pa_cons pe_int pa_nil)))) (pg_name (i := 2) zi12.nd rfl (by simp_all?))
   (pss_one (ps_if (pt_not (pt_val (zm T.zi8 zr21 (hr.mono (by decide)) (pa_cons (pv 0) (pa_cons (pix (pv 1) (pv 2)) (pa_cons (pix (pv 1) (pe_op op_add (pv 2) pe_int)) (pa_cons (pix (pv 1) (pe_op op_add (pv 2) pe_int)) pa_nil))))))) (pss_one (ps_ret pe_bl)) pss_nil)))
   (pss_one (ps_ret pe_bl)))), ?_⟩
  simp only [st_c, st_n, st_z]
  simp? [ha, hc, List.length_map]
  have kk : ∀ b, b = effsIn sz cs -> Q (V.bl b) H := fun b e => e ▸ k
  refine ⟨by decide, ?_⟩
  split
  ·rename_i hm
   refine for3 (n := (cs.length + 2) / 3) (fun i σ H' => ∃ kv, σ = [some (.ref a), some (.ref c), kv] /\ H' = H /\ effsIn sz cs = effsIn sz (cs.drop (3 * i)))
    (fun R h => by simp? [hc, List.length_map]; exact h) (rgc3 cs.length (by omega)) ⟨_, rfl, rfl, rfl⟩ ?_ ?_
   ·rintro i σ H' hi ⟨kv, rfl, rfl, e⟩
    have hi2 : 3 * i + 2 < cs.length := by omega
    rw [zb16 cs hi2, zc17] at e
    obtain ⟨q0, q1, q2⟩ := at3 hi2
    simp? [ha, hc, q0, q1, q2, zw12]
    split
    ·rename_i hb
     rw [hb] at e
     exact kk _ (by rw [e]; rfl)
    ·rename_i hb
     rw [Bool.not_eq_false] at hb
     rw [hb, Bool.true_and] at e
     exact e
   ·rintro σ H' ⟨kv, rfl, rfl, e⟩
    rw [List.drop_eq_nil_of_le (by omega)] at e
    simp? []
    exact kk _ e.symm
  ·rename_i hm
   refine kk _ ?_
   cases h : effsIn sz cs with
   | false => rfl
   | true => exact absurd (zj14 sz cs h) (by omega)
noncomputable def zj12 (l : List Nat) (v rel x : Int) : Bool := (l.getD v.toNat 0 == x.toNat) == (rel.toNat == 0)
noncomputable def zh11 : Sp := fun vs H Q _ => ∃ a l v rel x, vs = [.ref a, .int v, .int rel, .int x] /\ H a = some (.lst (vN l)) /\ 0 <= v /\ v < l.length /\ 0 <= rel /\ 0 <= x /\ Q (.bl (zj12 l v rel x)) H
theorem zc15 : FnScope ["values", "v", "rel", "x"] ["values", "v", "rel", "x"] (defScope (top 18)) := by simp_all? only
theorem zd15 (T : Txt K mg) : FnOk P w K mg base CX0 1 T.zi6.f T.zi6.fd ["values", "v", "rel", "x"] zh11 := by
 refine T.zi6.F.ok zc15 (fun _ _ _ _ h => ?_) (fun _ _ _ _ H vs Q E hr h => ?_)
 ·obtain ⟨a, zs, v, op, x, rfl, _⟩ := h
  rfl
 ·obtain ⟨a, l, v, rel, x, rfl, ha, h0, h1, h2, h3, k⟩ := h
  refine ⟨_, (pss_cons (ps_if (pt_cmpR op_eq (pv 2) (zg T.zr26) (nomark _)) (pss_one (ps_ret (pe_cmpR op_eq (pix (pv 0) (pv 1)) (pv 3) (nomark _)))) pss_nil)
   (pss_one (ps_ret (pe_cmpR op_ne (pix (pv 0) (pv 1)) (pv 3) (nomark _))))), ?_⟩
  simp only [st_c, st_n, st_z]
  simp? [ha, List.length_map, zx8 0 h0 h1]
  have kk : ∀ b, b = zj12 l v rel x -> Q (V.bl b) H := fun b e => e ▸ k
  have e1 : (l.getD v.toNat 0 == x.toNat) = decide ((l.getD v.toNat 0 : Int) = x) := by
   rw [Bool.eq_iff_iff, beq_iff_eq, decide_eq_true_eq]
   omega
  split
  ·rename_i hr
   refine kk _ ?_
   unfold zj12
   rw [e1, show (rel.toNat == 0) = true by simp [hr]]
   cases decide ((l.getD v.toNat 0 : Int) = x) <;> rfl
  ·rename_i hr
   refine kk _ ?_
   unfold zj12
   rw [e1, show (rel.toNat == 0) = false by simp; omega]
   cases decide ((l.getD v.toNat 0 : Int) = x) <;> rfl
theorem zz26 (v r x : Int) (cs : List Int) (l : List Nat) : Vbtaai.holds (condsOf (v :: r :: x :: cs)) l = (zj12 l v r x && Vbtaai.holds (condsOf cs) l) := by
 rw [condsOf]
 rfl
theorem za27 {sz : List Nat} {v r x : Int} (h : zu10 sz v r x = true) : 0 <= v /\ v < sz.length /\ 0 <= r /\ 0 <= x := by
 simp only [zu10, inr, Bool.and_eq_true, decide_eq_true_eq] at h
 omega
noncomputable def zv5 : Sp := fun vs H Q _ => ∃ c a cs l sz, vs = [.ref c, .ref a] /\ H c = some (.lst (vI cs)) /\ H a = some (.lst (vN l)) /\ cs.length <= 2000 /\ condsIn sz cs = true /\ l.length = sz.length /\ Q (.bl (Vbtaai.holds (condsOf cs) l)) H
theorem zi11 : FnScope ["conditions", "values", "k"] ["conditions", "values"] (defScope (top 19)) := by simp_all? only
theorem zx7 (T : Txt K mg) : FnOk P w K mg base CX0 2 T.zg4.f T.zg4.fd ["conditions", "values"] zv5 := by
 have zq16 := @zd15 P w K mg base T
 refine T.zg4.F.ok zi11 (fun _ _ _ _ h => ?_) (fun _ _ _ _ H vs Q E hr h => ?_)
 ·obtain ⟨c, a, cs, l, sz, rfl, _⟩ := h
  rfl
 ·obtain ⟨c, a, cs, l, sz, rfl, hc, ha, hl, hin, hlen, k⟩ := h
  refine ⟨_, (pss_cons (ps_for PassesOwn.never rfl (pi_range3 rfl T.range (pa_cons pe_int (pa_cons (pln T.len (pv 0)) (pa_cons pe_int pa_nil)))) (pg_name (i := 2) zi11.nd rfl (by simp_all?))
   (pss_one (ps_if (pt_not (pt_val (zm T.zi6 zq16 (hr.mono (by decide)) (pa_cons (pv 1) (pa_cons (pix (pv 0) (pv 2)) (pa_cons (pix (pv 0) (pe_op op_add (pv 2) pe_int)) (pa_cons (pix (pv 0) (pe_op op_add (pv 2) pe_int)) pa_nil))))))) (pss_one (ps_ret pe_bl)) pss_nil)))
   (pss_one (ps_ret pe_bl))), ?_⟩
  simp only [st_c, st_n, st_z]
  simp? [ha, hc, List.length_map]
  have kk : ∀ b, b = Vbtaai.holds (condsOf cs) l -> Q (V.bl b) H := fun b e => e ▸ k
  have hm := zi13 sz cs hin
  refine for3 (n := (cs.length + 2) / 3) (fun i σ H' => ∃ kv, σ = [some (.ref c), some (.ref a), kv] /\ H' = H /\ condsIn sz (cs.drop (3 * i)) = true /\ Vbtaai.holds (condsOf cs) l = Vbtaai.holds (condsOf (cs.drop (3 * i))) l)
    (fun R h => by simp? [hc, List.length_map]; exact h) (rgc3 cs.length (by omega)) ⟨_, rfl, rfl, hin, rfl⟩ ?_ ?_
  ·rintro i σ H' hi ⟨kv, rfl, rfl, d, e⟩
   have hi2 : 3 * i + 2 < cs.length := by omega
   rw [zb16 cs hi2, zb15, Bool.and_eq_true] at d
   rw [zb16 cs hi2, zz26] at e
   obtain ⟨q0, q1, q2⟩ := at3 hi2
   obtain ⟨b0, b1, b2, b3⟩ := za27 d.1
   rw [<- hlen] at b1
   simp? [ha, hc, q0, q1, q2, zh11, b0, b1, b2, b3]
   split
   ·rename_i hb
    rw [hb] at e
    exact kk _ (by rw [e]; rfl)
   ·rename_i hb
    rw [Bool.not_eq_false] at hb
    rw [hb, Bool.true_and] at e
    exact ⟨d.2, e⟩
  ·rintro σ H' ⟨kv, rfl, rfl, d, e⟩
   rw [List.drop_eq_nil_of_le (by omega)] at e
   simp? []
   exact kk _ e.symm
noncomputable def zv10 (sz l : List Nat) (v op x : Int) : Nat := (if op.toNat = 0 then x.toNat else if op.toNat = 1 then l.getD v.toNat 0 + x.toNat else l.getD x.toNat 0) % sz.getD v.toNat 1
noncomputable def zs13 : Sp := fun vs H Q _ => ∃ z a sz l v op x, vs = [.ref z, .ref a, .int v, .int op, .int x] /\ H z = some (.lst (vN sz)) /\ H a = some (.lst (vN l)) /\ l.length = sz.length /\ (∀ s ∈ sz, 0 < s) /\ zc7 sz v op x = true /\ Q (.int (zv10 sz l v op x)) H
theorem zb21 : FnScope ["sizes", "values", "v", "op", "x"] ["sizes", "values", "v", "op", "x"] (defScope (top 20)) := by simp_all? only
theorem zk22 {sz : List Nat} {v o x : Int} (h : zc7 sz v o x = true) : 0 <= v /\ v < sz.length /\ 0 <= o /\ o <= 2 /\ 0 <= x /\ (o = 2 -> x < sz.length) := by
 unfold zc7 at h
 by_cases ho : o = 2
 ·rw [if_pos ho] at h
  simp only [inr, Bool.and_eq_true, decide_eq_true_eq] at h
  omega
 ·rw [if_neg ho] at h
  simp only [inr, Bool.and_eq_true, decide_eq_true_eq] at h
  omega
theorem zv3 {sz : List Nat} {p : Nat -> Prop} {i d : Nat} (h : ∀ s ∈ sz, p s) (hi : i < sz.length) : p (sz.getD i d) := by
 rw [List.getD_eq_getElem?_getD, List.getElem?_eq_getElem hi]
 exact h _ (List.getElem_mem hi)
theorem zc21 (T : Txt K mg) : FnOk P w K mg base CX0 1 T.zi9.f T.zi9.fd ["sizes", "values", "v", "op", "x"] zs13 := by
 refine T.zi9.F.ok zb21 (fun _ _ _ _ h => ?_) (fun _ _ _ _ H vs Q E hr h => ?_)
 ·obtain ⟨z, a, sz, l, v, op, x, rfl, _⟩ := h
  rfl
 ·obtain ⟨z, a, sz, l, v, op, x, rfl, hz, ha, hlen, hpos, hin, k⟩ := h
  obtain ⟨b0, b1, b2, b3, b4, b5⟩ := zk22 hin
  have hs : 0 < sz.getD v.toNat 1 := zv3 hpos (by omega)
  have hs' : (0 : Int) < (sz.getD v.toNat 1 : Nat) := by omega
  refine ⟨_, (pss_cons (ps_if (pt_cmpR op_eq (pv 3) (zg T.c_SET) (nomark _)) (pss_one (ps_ret (pe_op op_mod (pv 4) (pix (pv 0) (pv 2))))) pss_nil)
   (pss_cons (ps_if (pt_cmpR op_eq (pv 3) (zg T.c_ADD) (nomark _)) (pss_one (ps_ret (pe_op op_mod (pe_op op_add (pix (pv 1) (pv 2)) (pv 4)) (pix (pv 0) (pv 2))))) pss_nil)
   (pss_one (ps_ret (pe_op op_mod (pix (pv 1) (pv 4)) (pix (pv 0) (pv 2))))))), ?_⟩
  simp only [st_c, st_n, st_z]
  simp? [ha, hz, List.length_map, zx8 1 b0 b1, hs']
  have kk : ∀ b, b = (zv10 sz l v op x : Int) -> Q (V.int b) H := fun b e => e ▸ k
  split
  ·rename_i h
   refine kk _ ?_
   unfold zv10
   rw [if_pos (by omega), Int.natCast_emod, Int.toNat_of_nonneg b4]
  ·split
   ·rename_i h0 h
    rw [zx8 0 b0 (by omega)]
    simp? []
    refine kk _ ?_
    unfold zv10
    rw [if_neg (by omega), if_pos (by omega), Int.natCast_emod, Int.natCast_add, Int.toNat_of_nonneg b4]
   ·rename_i h0 h
    rw [zx8 0 b4 (by omega)]
    simp? []
    refine kk _ ?_
    unfold zv10
    rw [if_neg (by omega), if_neg (by omega), Int.natCast_emod]
theorem zg24 (sz l : List Nat) (v o x : Int) (es : List Int) (hl : l.length = sz.length) : Vbtaai.effects sz l (effsOf (v :: o :: x :: es)) = Vbtaai.effects sz (l.set v.toNat (zv10 sz l v o x)) (effsOf es) := by
 rw [effsOf]
 unfold Vbtaai.effects
 rw [List.foldl_cons]
 rfl
noncomputable def zx12 : Sp := fun vs H Q _ => ∃ z e a sz es l, vs = [.ref z, .ref e, .ref a] /\ H z = some (.lst (vN sz)) /\ H e = some (.lst (vI es)) /\ H a = some (.lst (vN l)) /\ es.length <= 2000 /\ l.length = sz.length /\ (∀ s ∈ sz, 0 < s) /\ effsIn sz es = true /\
 ∀ p, H p = none -> Q (.ref p) (upd H p (.lst (vN (Vbtaai.effects sz l (effsOf es)))))
theorem zm7 : FnScope ["sizes", "effects", "values", "after", "k", "v"] ["sizes", "effects", "values"] (defScope (top 21)) := by simp_all? only
theorem zk19 (T : Txt K mg) : FnOk P w K mg base CX0 2 T.zj8.f T.zj8.fd ["sizes", "effects", "values"] zx12 := by
 have zf23 := @zc21 P w K mg base T
 refine T.zj8.F.ok zm7 (fun _ _ _ _ h => ?_) (fun _ _ _ _ H vs Q E hr h => ?_)
 ·obtain ⟨z, e, a, sz, es, l, rfl, _⟩ := h
  rfl
 ·obtain ⟨z, e, a, sz, es, l, rfl, hz, he, ha, hl, hlen, hpos, hin, k⟩ := h
  refine ⟨_, (pss_cons (ps_set (i := 3) zm7.nd rfl (by simp_all?) (pe_callTy zh19 (by rfl) T.list boot_list (pa_cons (pv 2) pa_nil)))
   (pss_cons (ps_for PassesOwn.never rfl (pi_range3 rfl T.range (pa_cons pe_int (pa_cons (pln T.len (pv 1)) (pa_cons pe_int pa_nil)))) (pg_name (i := 4) zm7.nd rfl (by simp_all?))
   (pss_cons (ps_set (i := 5) zm7.nd rfl (by simp_all?) (pix (pv 1) (pv 4)))
   (pss_one (ps_asg (zm T.zi9 zf23 (hr.mono (by decide)) (pa_cons (pv 0) (pa_cons (pv 3) (pa_cons (pv 5) (pa_cons (pix (pv 1) (pe_op op_add (pv 4) pe_int)) (pa_cons (pix (pv 1) (pe_op op_add (pv 4) pe_int)) pa_nil)))))) (pg_sub (pv 3) (pv 5) set_list)))))
   (pss_one (ps_ret (pv 3))))), ?_⟩
  simp only [st_c, st_n, st_z]
  simp? [ha, hz, he, List.length_map]
  intro p hp
  have nz : z ≠ p := ne_of_none hz hp
  have ne : e ≠ p := ne_of_none he hp
  have hm := zj14 sz es hin
  refine for3 (n := (es.length + 2) / 3) (fun i σ H' => ∃ kv vv cur, σ = [some (.ref z), some (.ref e), some (.ref a), some (.ref p), kv, vv] /\ H' = upd H p (.lst (vN cur)) /\ cur.length = sz.length /\ effsIn sz (es.drop (3 * i)) = true /\
    Vbtaai.effects sz l (effsOf es) = Vbtaai.effects sz cur (effsOf (es.drop (3 * i))))
    (fun R h => by simp? [upd_ne ne, he, List.length_map]; exact h) (rgc3 es.length (by omega)) ⟨_, _, l, rfl, rfl, hlen, hin, rfl⟩ ?_ ?_
  ·rintro i σ H' hi ⟨kv, vv, cur, rfl, rfl, hcl, d, ee⟩
   have hi2 : 3 * i + 2 < es.length := by omega
   rw [zb16 es hi2, zc17, Bool.and_eq_true] at d
   rw [zb16 es hi2, zg24 _ _ _ _ _ _ hcl] at ee
   obtain ⟨q0, q1, q2⟩ := at3 hi2
   obtain ⟨b0, b1, b2, b3, b4, b5⟩ := zk22 d.1
   simp? [upd_ne ne, upd_ne nz, upd_same, hz, he, q0, q1, q2, zs13, hcl, d.1, List.length_map, zz27 b0 b1, hpos]
   refine ⟨hpos, _, ?_, ?_, d.2, ee⟩
   ·rw [upd_upd, zc24 _ _ (by omega), Int.toNat_natCast]
   ·rw [List.length_set, hcl]
  ·rintro σ H' ⟨kv, vv, cur, rfl, rfl, hcl, d, ee⟩
   rw [List.drop_eq_nil_of_le (by omega)] at ee
   simp? []
   have := k p hp
   rw [ee] at this
   exact this
end
section
variable {P : Program} {w : World} {K : W.Frag} {mg : Str -> Option Value} {base : Heap}
theorem zd28 {sz : List Nat} {i : Nat} (h : i < sz.length) : Vbtaai.product (sz.take (i + 1)) = Vbtaai.product (sz.take i) * sz.getD i 0 := by
 unfold Vbtaai.product
 rw [List.take_succ_eq_append_getElem h, List.foldl_append, List.getD_eq_getElem?_getD, List.getElem?_eq_getElem h]
 rfl
noncomputable def zy7 : Sp := fun vs H Q _ => ∃ a sz, vs = [.ref a] /\ H a = some (.lst (vN sz)) /\ (∀ s ∈ sz, s <= 8) /\ Q (.int (Vbtaai.product sz)) H
theorem zw5 : FnScope ["sizes", "product", "size"] ["sizes"] (defScope (top 23)) := by simp_all? only
theorem zj11 (T : Txt K mg) : FnOk P w K mg base CX0 1 T.zy4.f T.zy4.fd ["sizes"] zy7 := by
 refine T.zy4.F.ok zw5 (fun _ _ _ _ h => ?_) (fun _ _ _ _ H vs Q E hr h => ?_)
 ·obtain ⟨a, sz, rfl, _⟩ := h
  rfl
 ·obtain ⟨a, sz, rfl, ha, h8, k⟩ := h
  refine ⟨_, (pss_cons (ps_set (i := 1) zw5.nd rfl (by simp_all?) pe_int)
   (pss_cons (ps_for PassesOwn.never rfl (pi_list (pv 0)) (pg_name (i := 2) zw5.nd rfl (by simp_all?))
   (pss_one (ps_set (i := 1) zw5.nd rfl (by simp_all?) (pe_op op_mul (pv 1) (pv 2)))))
   (pss_one (ps_ret (pv 1))))), ?_⟩
  simp only [st_c, st_n, st_z]
  simp? []
  refine forL (xs := vN sz) (a := a) (fun i σ H' => ∃ kv, σ = [some (.ref a), some (.int (Vbtaai.product (sz.take i) : Nat)), kv] /\ H' = H)
    (fun R h => by simp? []; exact h) ⟨_, rfl, rfl⟩ (fun i σ H' _ ⟨_, _, e⟩ => by rw [e]; exact SqL.of ha) ?_ ?_
  ·rintro i x σ H' hx ⟨kv, rfl, rfl⟩
   obtain ⟨rfl, hi⟩ := zi5 hx
   have h8i : sz.getD i 0 <= 8 := zv3 h8 hi
   simp? []
   refine ⟨.inr ⟨by omega, by omega⟩, ?_⟩
   rw [zd28 hi, Int.natCast_mul]
  ·rintro σ H' ⟨kv, rfl, rfl⟩
   rw [List.length_map, List.take_length]
   simp? []
   exact k
noncomputable def zk12 : Sp := fun vs H Q _ => ∃ z a sz l, vs = [.ref z, .ref a] /\ H z = some (.lst (vN sz)) /\ H a = some (.lst (vN l)) /\ sz.length <= 1000 /\ Fits sz l /\ (∀ s ∈ sz, s <= 8) /\ Q (.int (Vbtaai.encode sz l)) H
theorem zm6 : FnScope ["sizes", "values", "number", "weight", "v"] ["sizes", "values"] (defScope (top 24)) := by simp_all? only
theorem zj26 : ∀ {sz l : List Nat}, Fits sz l -> ∀ i, i < sz.length -> l.getD i 0 < sz.getD i 0
 | s :: ss, v :: vs, h, 0, _ => by simpa using h.1
 | s :: ss, v :: vs, h, i + 1, hi => by simpa using zj26 h.2 i (by simpa using hi)
 | [], _, _, i, hi => by simp at hi
 | _ :: _, [], h, _, _ => h.elim
theorem zy28 {sz l : List Nat} (hl : l.length = sz.length) {i : Nat} (hi : i < sz.length) : Vbtaai.encode (sz.drop i) (l.drop i) = l.getD i 0 + sz.getD i 0 * Vbtaai.encode (sz.drop (i + 1)) (l.drop (i + 1)) := by
 rw [zm3 0 hi, zm3 0 (show i < l.length by omega)]
 rfl
theorem ze15 (T : Txt K mg) : FnOk P w K mg base CX0 1 T.zz8.f T.zz8.fd ["sizes", "values"] zk12 := by
 refine T.zz8.F.ok zm6 (fun _ _ _ _ h => ?_) (fun _ _ _ _ H vs Q E hr h => ?_)
 ·obtain ⟨z, a, sz, l, rfl, _⟩ := h
  rfl
 ·obtain ⟨z, a, sz, l, rfl, hz, ha, hsl, hf, h8, k⟩ := h
  have hl := zw7 hf
  refine ⟨_, (pss_cons (ps_set (i := 2) zm6.nd rfl (by simp_all?) pe_int)
   (pss_cons (ps_set (i := 3) zm6.nd rfl (by simp_all?) pe_int)
   (pss_cons (ps_for PassesOwn.never rfl (pi_range1 rfl T.range (pa_cons (pln T.len (pv 0)) pa_nil)) (pg_name (i := 4) zm6.nd rfl (by simp_all?))
   (pss_cons (ps_set (i := 2) zm6.nd rfl (by simp_all?) (pe_op op_add (pv 2) (pe_op op_mul (pv 3) (pix (pv 1) (pv 4)))))
   (pss_one (ps_set (i := 3) zm6.nd rfl (by simp_all?) (pe_op op_mul (pv 3) (pix (pv 0) (pv 4)))))))
   (pss_one (ps_ret (pv 2)))))), ?_⟩
  simp only [st_c, st_n, st_z]
  simp? []
  refine for1 (n := sz.length) (fun i σ H' => ∃ kv, ∃ nu we : Nat, σ = [some (.ref z), some (.ref a), some (.int nu), some (.int we), kv] /\ H' = H /\ nu + we * Vbtaai.encode (sz.drop i) (l.drop i) = Vbtaai.encode sz l)
    (fun R h => by simp? [hz, List.length_map]; exact h) ?_ ⟨_, 0, 1, rfl, rfl, by simp⟩ ?_ ?_
  ·exact Nat.lt_of_le_of_lt hsl (by decide)
  ·rintro i σ H' hi ⟨kv, nu, we, rfl, rfl, e⟩
   have h8i : sz.getD i 0 <= 8 := zv3 h8 hi
   have hli := zj26 hf i hi
   have e1 : atI (vN l) (i : Int) = some (.int (l.getD i 0 : Nat)) := by rw [zx8 0 (by omega) (by omega), Int.toNat_natCast]
   have e2 : atI (vN sz) (i : Int) = some (.int (sz.getD i 0 : Nat)) := by rw [zx8 0 (by omega) (by omega), Int.toNat_natCast]
   simp? [ha, hz, e1, e2]
   refine ⟨.inr ⟨by omega, by omega⟩, .inr ⟨by omega, by omega⟩, _, nu + we * l.getD i 0, by rw [Int.natCast_add, Int.natCast_mul], we * sz.getD i 0, by rw [Int.natCast_mul], rfl, ?_⟩
   rw [zy28 hl hi, Nat.mul_add] at e
   rw [Nat.mul_assoc, Nat.add_assoc]
   exact e
  ·rintro σ H' ⟨kv, nu, we, rfl, rfl, e⟩
   simp? []
   rw [List.drop_eq_nil_of_le (Nat.le_refl _)] at e
   have e0 : Vbtaai.encode [] (l.drop sz.length) = 0 := rfl
   rw [e0, Nat.mul_zero, Nat.add_zero] at e
   rw [e]
   exact k
noncomputable def zf15 : Sp := fun vs H Q _ => ∃ z sz, ∃ n : Nat, vs = [.ref z, .int n] /\ H z = some (.lst (vN sz)) /\ sz.length <= 1000 /\ (∀ s ∈ sz, 0 < s /\ s <= 8) /\ ∀ p, H p = none -> Q (.ref p) (upd H p (.lst (vN (Vbtaai.decode sz n))))
theorem zz7 : FnScope ["sizes", "number", "values", "rest", "size"] ["sizes", "number"] (defScope (top 25)) := by simp_all? only
theorem zh24 (T : Txt K mg) : FnOk P w K mg base CX0 1 T.zc11.f T.zc11.fd ["sizes", "number"] zf15 := by
 refine T.zc11.F.ok zz7 (fun _ _ _ _ h => ?_) (fun _ _ _ _ H vs Q E hr h => ?_)
 ·obtain ⟨z, sz, n, rfl, _⟩ := h
  rfl
 ·obtain ⟨z, sz, n, rfl, hz, hsl, h8, k⟩ := h
  refine ⟨_, (pss_cons (ps_set (i := 2) zz7.nd rfl (by simp_all?) (pe_lst pa_nil))
   (pss_cons (ps_set (i := 3) zz7.nd rfl (by simp_all?) (pv 1))
   (pss_cons (ps_for PassesOwn.never rfl (pi_list (pv 0)) (pg_name (i := 4) zz7.nd rfl (by simp_all?))
   (pss_cons (ps_expr (zg12 (pv 2) (pe_op op_mod (pv 3) (pv 4))))
   (pss_one (ps_set (i := 3) zz7.nd rfl (by simp_all?) (pe_op op_fdiv (pv 3) (pv 4))))))
   (pss_one (ps_ret (pv 2)))))), ?_⟩
  simp only [st_c, st_n, st_z]
  simp? [List.length_nil, Nat.zero_le]
  intro p hp
  have nz : z ≠ p := ne_of_none hz hp
  refine forL (xs := vN sz) (a := z) (fun i σ H' => ∃ kv l, ∃ r : Nat, σ = [some (.ref z), some (.int n), some (.ref p), some (.int r), kv] /\ H' = upd H p (.lst (vN l)) /\ l.length = i /\ l ++ Vbtaai.decode (sz.drop i) r = Vbtaai.decode sz n)
    (fun R h => by simp? []; exact h) ⟨_, [], n, rfl, rfl, rfl, rfl⟩ (fun i σ H' _ ⟨_, _, _, _, e, _⟩ => by rw [e]; exact SqL.of (by rw [upd_ne nz]; exact hz)) ?_ ?_
  ·rintro i x σ H' hx ⟨kv, l, r, rfl, rfl, hl, e⟩
   obtain ⟨rfl, hi⟩ := zi5 hx
   have h8i : 0 < sz.getD i 0 /\ sz.getD i 0 <= 8 := zv3 h8 hi
   simp? [upd_same, List.length_map]
   refine ⟨by omega, Nat.lt_of_le_of_lt (show l.length <= 1000 by omega) (by decide), ⟨by omega, by omega⟩, _, l ++ [r % sz.getD i 0], r / sz.getD i 0, by rw [Int.natCast_ediv], rfl, ?_, by simp [hl], ?_⟩
   ·rw [upd_upd, <- Int.natCast_emod, zn3 _ (by omega), Int.toNat_natCast]
   ·rw [zm3 0 hi] at e
    rw [List.append_assoc]
    exact e
  ·rintro σ H' ⟨kv, l, r, rfl, rfl, hl, e⟩
   simp? []
   rw [List.length_map, List.drop_eq_nil_of_le (Nat.le_refl _)] at e
   have e0 : Vbtaai.decode [] r = [] := rfl
   rw [e0, List.append_nil] at e
   rw [e]
   exact k p hp
end
section
variable {P : Program} {w : World} {K : W.Frag} {mg : Str -> Option Value} {base : Heap}
theorem ixM {n m : Nat} (h : m < n) : ixN n (m : Int) = some m := by rw [zz27 (by omega) (by omega), Int.toNat_natCast]
noncomputable def zo14 : Sp := fun vs H Q _ => ∃ (a nu l : Addr) (t : List (List Nat)) (nums L : List Nat) (num : Nat), vs = [.ref a, .ref nu, .ref l, .int num] /\ LL (· ≠ nu) H a (t.map vN) /\ H nu = some (.lst (vN nums)) /\ H l = some (.lst (vN L)) /\ l ≠ nu /\ nums.length = t.length /\ t.length <= 1024 /\ (∀ n ∈ L, n < t.length) /\
 (∀ k, k < t.length -> ∀ m ∈ t.getD k [], m < t.length) /\ num ≠ 0 /\
 ∀ H' p, zc nu H H' -> H' nu = some (.lst (vN (za12 (fun k => t.getD k []) num nums L).1)) -> H p = none -> H' p = some (.lst (vN (za12 (fun k => t.getD k []) num nums L).2)) -> Q (.ref p) H'
theorem zg9 : FnScope ["beside", "numbers", "layer", "number", "found", "n", "m"] ["beside", "numbers", "layer", "number"] (defScope (top 61)) := by simp_all? only
theorem zi24 {num N : Nat} (hnum : num ≠ 0) {nums ms : List Nat} (hl : nums.length = N) (hm : ∀ m ∈ ms, m < N) : (ms.foldl (zs5 num) (nums, [])).1.length = N /\ (ms.foldl (zs5 num) (nums, [])).2.length <= N := by
 obtain ⟨h1, _, _, h4⟩ := zy18 hnum ms (nums, []) hl hm
 refine ⟨h1, ?_⟩
 have h5 : zf8 nums <= nums.length := List.count_le_length
 have h6 : zf8 (nums, ([] : List Nat)).1 + (nums, ([] : List Nat)).2.length = zf8 nums := rfl
 omega
theorem ze28 {t : List (List Nat)} {L : List Nat} {i : Nat} (h : i < L.length) : (L.take (i + 1)).flatMap (fun k => t.getD k []) = (L.take i).flatMap (fun k => t.getD k []) ++ t.getD (L.getD i 0) [] := by
 rw [List.take_succ_eq_append_getElem h, List.flatMap_append, List.flatMap_singleton, List.getD_eq_getElem?_getD (l := L), List.getElem?_eq_getElem h]
 rfl
theorem zk11 {l : List Nat} {j : Nat} (h : j < l.length) : l.take (j + 1) = l.take j ++ [l.getD j 0] := by
 rw [List.take_succ_eq_append_getElem h, List.getD_eq_getElem?_getD, List.getElem?_eq_getElem h]
 rfl
theorem zt22 (T : Txt K mg) : FnOk P w K mg base CX0 1 T.zj10.f T.zj10.fd ["beside", "numbers", "layer", "number"] zo14 := by
 refine T.zj10.F.ok zg9 (fun _ _ _ _ h => ?_) (fun _ _ _ _ H vs Q E hr h => ?_)
 ·obtain ⟨a, nu, l, t, nums, L, num, rfl, _⟩ := h
  rfl
 ·obtain ⟨a, nu, l, t, nums, L, num, rfl, ha, hnu, hl, lnu, hlen, hN, hL, ht, hnum, k⟩ := h
  refine ⟨_, (pss_cons (ps_set (i := 4) zg9.nd rfl (by simp_all?) (pe_lst pa_nil))
   (pss_cons (ps_for PassesOwn.never rfl (pi_list (pv 2)) (pg_name (i := 5) zg9.nd rfl (by simp_all?))
   (pss_one (ps_for PassesOwn.never rfl (pi_list (pix (pv 0) (pv 5))) (pg_name (i := 6) zg9.nd rfl (by simp_all?))
   (pss_one (ps_if (pt_cmpR op_eq (pix (pv 1) (pv 6)) pe_int (nomark _)) (pss_cons (ps_asg (pv 3) (pg_sub (pv 1) (pv 6) set_list))
   (pss_one (ps_expr (zg12 (pv 4) (pv 6))))) pss_nil)))))
   (pss_one (ps_ret (pv 4))))), ?_⟩
  simp only [st_c, st_n, st_z]
  simp? [List.length_nil, Nat.zero_le]
  intro p hp
  have hz := szL
  have pnu : nu ≠ p := ne_of_none hnu hp
  refine za11 (xs := vN L) (a := l) (fun i σ H' => ∃ nv mv st, σ = [some (.ref a), some (.ref nu), some (.ref l), some (.int num), some (.ref p), nv, mv] /\ st = ((L.take i).flatMap fun k => t.getD k []).foldl (zs5 num) (nums, []) /\ zc nu H H' /\ H' nu = some (.lst (vN st.1)) /\ H' p = some (.lst (vN st.2)))
   (fun R h => by simp? []; exact h) ⟨none, none, (nums, []), rfl, by simp, zc.new (zc.of Same.rfl') hp, by rw [upd_ne pnu]; exact hnu, upd_same⟩ (fun i σ H' _ ⟨_, _, _, _, _, e, _⟩ => SqL.of (e l _ hl lnu)) ?_ ?_
  ·rintro P1 hP1 i x σ H' hx ⟨nv, mv, st, rfl, hst, sb, h1, h2⟩
   obtain ⟨rfl, hi⟩ := zi5 hx
   have hn : L.getD i 0 < t.length := zv3 hL hi
   have hpre : ∀ m ∈ (L.take i).flatMap (fun k => t.getD k []), m < t.length := fun m hm => by
    obtain ⟨q, hq, hm⟩ := List.mem_flatMap.mp hm
    exact ht q (hL q (List.mem_of_mem_take hq)) m hm
   obtain ⟨vs, q, g1, g2, g3, g4, g5⟩ := ha.get (i := L.getD i 0) (by simpa using hn)
   rw [zw6] at g5
   have a1 := sb a _ g1 ha.1
   have q1 := sb q _ g5 g4
   simp only [gName, List.set_cons_succ, List.set_cons_zero]
   refine za11 (xs := vN (t.getD (L.getD i 0) [])) (a := q) (fun j σ H' => ∃ mv st, σ = [some (.ref a), some (.ref nu), some (.ref l), some (.int num), some (.ref p), some (.int (L.getD i 0 : Nat)), mv] /\
     st = ((L.take i).flatMap (fun k => t.getD k []) ++ (t.getD (L.getD i 0) []).take j).foldl (zs5 num) (nums, []) /\ zc nu H H' /\ H' nu = some (.lst (vN st.1)) /\ H' p = some (.lst (vN st.2)))
    (fun R h => by simp? [a1, g2]; exact h) ⟨_, st, rfl, by simp [hst], sb, h1, h2⟩ (fun j σ H' _ ⟨_, _, _, _, e, _⟩ => SqL.of (e q _ g5 g4)) ?_ ?_
   ·clear h1 h2 hst sb a1 q1
    rintro P2 hP2 j x σ H' hx ⟨mv, st, rfl, hst, sb, h1, h2⟩
    obtain ⟨rfl, hj⟩ := zi5 hx
    have hm : (t.getD (L.getD i 0) []).getD j 0 < t.length := zv3 (ht _ hn) hj
    obtain ⟨b1, b2⟩ := zi24 (num := num) (N := t.length) hnum (nums := nums) (ms := (L.take i).flatMap (fun k => t.getD k []) ++ (t.getD (L.getD i 0) []).take j) hlen fun m hm => by
     rcases List.mem_append.mp hm with hm | hm
     ·exact hpre m hm
     ·exact ht _ hn m (List.mem_of_mem_take hm)
    rw [<- hst] at b1 b2
    generalize hme : (t.getD (L.getD i 0) []).getD j 0 = m at hm
    have e1 := atN (l := st.1) (i := m) (by omega)
    have hvis : zs5 num st m = ((L.take i).flatMap (fun k => t.getD k []) ++ (t.getD (L.getD i 0) []).take (j + 1)).foldl (zs5 num) (nums, []) := by
     rw [zk11 hj, <- List.append_assoc, List.foldl_append, <- hst, hme]
     rfl
    simp? [h1, e1]
    split
    ·rename_i h0
     have h0 : st.1.getD m 0 = 0 := by omega
     have e2 := ixM (n := st.1.length) (m := m) (by omega)
     simp? [List.length_map, e2, upd_ne pnu.symm, h2]
     refine ⟨by omega, hP2 _ _ _ ⟨_, (st.1.set m num, st.2 ++ [m]), rfl, ?_, (zc.new (zc.self sb) hp), ?_, ?_⟩⟩
     ·rw [<- hvis]; unfold zs5; rw [if_pos h0]
     ·rw [upd_ne pnu, upd_same, zc24 _ _ (by omega), Int.toNat_natCast]
     ·rw [upd_same, zn3 _ (by omega), Int.toNat_natCast]
    ·rename_i h0
     have h0 : ¬ st.1.getD m 0 = 0 := by omega
     refine hP2 _ _ _ ⟨_, st, rfl, ?_, sb, h1, h2⟩
     rw [<- hvis]; unfold zs5; rw [if_neg h0]
   ·rintro σ H' ⟨mv, st, rfl, hst, sb, h1, h2⟩
    refine hP1 _ _ _ ⟨_, _, st, rfl, ?_, sb, h1, h2⟩
    rw [hst, List.length_map, List.take_length, ze28 hi]
  ·rintro σ H' ⟨nv, mv, st, rfl, hst, sb, h1, h2⟩
   rw [List.length_map, List.take_length] at hst
   simp? []
   refine k H' p sb ?_ hp ?_
   ·rw [h1, hst]; rfl
   ·rw [h2, hst]; rfl
noncomputable def zz9 : Sp := fun vs H Q _ => ∃ (a l : Addr) (t : List (List Nat)) (L : List Nat), vs = [.ref a, .ref l] /\ LL (fun _ => True) H a (t.map vN) /\ H l = some (.lst (vN L)) /\ t.length <= 1024 /\ (∀ n ∈ L, n < t.length) /\
 (∀ k, k < t.length -> ∀ m ∈ t.getD k [], m < t.length) /\ ∀ H' p nums, Same H H' -> H p = none -> H' p = some (.lst (vN nums)) -> zz18 t.length (fun k => t.getD k []) L nums -> Q (.ref p) H'
theorem zc4 : FnScope ["beside", "first_layer", "numbers", "n", "layer", "number"] ["beside", "first_layer"] (defScope (top 62)) := by simp_all? only
theorem zj24 (n : Nat) : (List.replicate n [V.int 0]).flatten = vN (List.replicate n 0) := by
 induction n with
 | zero => rfl
 | succ n ih => rw [List.replicate_succ, List.flatten_cons, ih, List.replicate_succ]; rfl
theorem zy12 (T : Txt K mg) : FnOk P w K mg base CX0 2 T.zq6.f T.zq6.fd ["beside", "first_layer"] zz9 := by
 have zf25 := @zt22 P w K mg base T
 refine T.zq6.F.ok zc4 (fun _ _ _ _ h => ?_) (fun _ _ _ _ H vs Q E hr h => ?_)
 ·obtain ⟨a, l, t, L, rfl, _⟩ := h
  rfl
 ·obtain ⟨a, l, t, L, rfl, ha, hl, hN, hL, ht, k⟩ := h
  refine ⟨_, (pss_cons (ps_set (i := 2) zc4.nd rfl (by simp_all?) (pe_op op_rep (pe_lst (pa_cons pe_int pa_nil)) (pln T.len (pv 0))))
   (pss_cons (ps_for PassesOwn.never rfl (pi_list (pv 1)) (pg_name (i := 3) zc4.nd rfl (by simp_all?))
   (pss_one (ps_asg pe_int (pg_sub (pv 2) (pv 3) set_list))))
   (pss_cons (ps_set (i := 4) zc4.nd rfl (by simp_all?) (pv 1))
   (pss_cons (ps_set (i := 5) zc4.nd rfl (by simp_all?) pe_int)
   (pss_cons (ps_while PassesOwn.never (pt_cmpR op_gt (pln T.len (pv 4)) pe_int (nomark _))
   (pss_cons (ps_set (i := 5) zc4.nd rfl (by simp_all?) (pe_op op_add (pv 5) pe_int))
   (pss_one (ps_set (i := 4) zc4.nd rfl (by simp_all?) (zm T.zj10 zf25 (hr.mono (by decide)) (pa_cons (pv 0) (pa_cons (pv 2) (pa_cons (pv 4) (pa_cons (pv 5) pa_nil)))))))))
   (pss_one (ps_ret (pv 2)))))))), ?_⟩
  simp only [st_c, st_n, st_z]
  obtain ⟨qs, hqs, hql⟩ := ha.top
  have hz := szL
  simp? [rRep, List.length_nil, List.length_cons, Nat.zero_le]
  refine ⟨by omega, fun x hx => ?_⟩
  have hax : a ≠ x := ne_of_none hqs hx
  have hlx : l ≠ x := ne_of_none hl hx
  rw [List.length_map] at hql
  simp? [upd_ne hax, hqs, upd_same, List.length_map, hql]
  refine ⟨by omega, by omega, by simp; omega, fun nu hnu => ?_⟩
  have hxnu : x ≠ nu := fun e => by rw [e, upd_same] at hnu; cases hnu
  have hnu' : H nu = none := by rw [upd_ne hxnu.symm] at hnu; exact hnu
  have hlnu : l ≠ nu := ne_of_none hl hnu'
  have S0 : ∀ {H' : Hp}, zc nu (upd H x (.lst [V.int 0])) H' -> zc nu H H' := fun sb q o hq hn => sb q o (by rw [upd_ne (ne_of_none hq hx)]; exact hq) hn
  have ha2 : LL (fun q => q ≠ nu) H a (t.map vN) := (ha.apart hnu').sub fun q h => h.2
  rw [Int.toNat_natCast, zj24]
  simp? []
  refine za11 (xs := vN L) (a := l) (fun i σ H' => ∃ nv nums, σ = [some (.ref a), some (.ref l), some (.ref nu), nv, none, none] /\ zc nu H H' /\ H' nu = some (.lst (vN nums)) /\ nums.length = t.length /\ ∀ n, nums.getD n 0 = if n ∈ L.take i then 1 else 0)
   (fun R h => by simp? []; exact h) ⟨none, List.replicate t.length 0, rfl, zc.self (zc.new (zc.of Same.rfl') hx), upd_same, by simp, fun n => ?_⟩ (fun i σ H' _ ⟨_, _, _, e, _⟩ => SqL.of (e l _ hl hlnu)) ?_ ?_
  ·rw [List.getD_eq_getElem?_getD, List.getElem?_replicate]
   simp
   split <;> rfl
  ·rintro P1 hP1 i x σ H' hx ⟨nv, nums, rfl, sb, h1, h2, h3⟩
   obtain ⟨rfl, hi⟩ := zi5 hx
   have hn : L.getD i 0 < t.length := zv3 hL hi
   have e2 := ixM (n := nums.length) (m := L.getD i 0) (by omega)
   simp? [h1, List.length_map, e2]
   refine hP1 _ _ _ ⟨_, nums.set (L.getD i 0) 1, rfl, zc.self sb, by rw [upd_same, zc24 _ _ (by decide)]; rfl, by rw [List.length_set]; exact h2, fun n => ?_⟩
   rw [zn17 (by omega), h3 n, zk11 hi]
   by_cases hne : n = L.getD i 0
   ·rw [if_pos hne, if_pos (by rw [hne]; simp)]
   ·rw [if_neg hne]
    congr 1
    simp [hne, -List.getD_eq_getElem?_getD]
  ·rintro σ H' ⟨nv, nums, rfl, sb, h1, h2, h3⟩
   rw [List.length_map, List.take_length] at h3
   simp? []
   refine zf24 (fun m σ H' => ∃ (lay : Addr) (j : Nat) (nums layer : List Nat), σ = [some (.ref a), some (.ref l), some (.ref nu), nv, some (.ref lay), some (.int (j + 1 : Nat))] /\ zc nu H H' /\ H' nu = some (.lst (vN nums)) /\ H' lay = some (.lst (vN layer)) /\ lay ≠ nu /\
     Bfs t.length (fun k => t.getD k []) L j nums layer /\ m = zf8 nums + layer.length) _ ⟨l, 0, nums, L, rfl, sb, h1, sb l _ hl hlnu, hlnu, Bfs.start h2 h3 hL, rfl⟩ ?_
   clear sb h1 h2 h3 nums
   rintro W1 hW1 m σ H' ⟨lay, j, nums, layer, rfl, sb, h1, h2, hlay, B, rfl⟩
   simp? [h2, List.length_map]
   split
   ·rename_i hpos
    refine ⟨fun σ' H'' => ∃ m', m' < zf8 nums + layer.length /\ W1 m' σ' H'', fun σ' H'' h => h, ?_⟩
    simp? []
    unfold zo14
    obtain ⟨Bn, Bz⟩ := B.next hL ht
    refine ⟨a, nu, lay, t, nums, layer, j + 2, by simp; omega, ha2.same fun q o hq e => sb q o e hq, h1, h2, hlay, B.len, hN, fun n hn => ((B.lay n).mp hn).1, ht, by omega, fun H2 p sb2 e1 hp e2 => ?_⟩
    refine ⟨_, ?_, hW1 _ _ _ ⟨p, j + 1, _, _, ?_, sb.trans sb2, e1, e2, fun e => ?_, Bn, rfl⟩⟩
    ·rw [Bz]; omega
    ·simp
    ·rw [e, h1] at hp; cases hp
   ·rename_i hpos
    have he : layer = [] := by
     cases layer with
     | nil => rfl
     | cons x r => simp at hpos
    subst he
    simp? []
    exact k H' nu nums (sb.fresh hnu') hnu' h1 (B.done hL ht)
noncomputable def zl12 : Sp := fun vs H Q _ => ∃ (a : Addr) (t : List (List Nat)), vs = [.ref a] /\ LL (fun _ => True) H a (t.map vN) /\ t.length <= 1024 /\ (∀ l ∈ t, l.length <= 16) /\ (∀ k, k < t.length -> ∀ m ∈ t.getD k [], m < t.length) /\
 ∀ H' p (b : List (List Nat)), Same H H' -> LL (fun _ => True) H' p (b.map vN) -> b.length = t.length -> (∀ m, m < t.length -> ∀ k, k ∈ b.getD m [] ↔ k < t.length /\ m ∈ t.getD k []) -> Q (.ref p) H'
theorem zj5 : FnScope ["ahead", "n", "before", "m"] ["ahead"] (defScope (top 60)) := by simp_all? only
structure News (H H' : Hp) (qs : List Addr) (b : List (List Nat)) : Prop where
 same : Same H H'
 new : ∀ q ∈ qs, H q = none
 nd : qs.Nodup
 len : qs.length = b.length
 at_ : ∀ i q, qs[i]? = some q -> H' q = some (.lst (vN (b.getD i [])))
theorem News.put {H H' : Hp} {qs : List Addr} {b : List (List Nat)} {i : Nat} {q : Addr} {l : List Nat} (h : News H H' qs b) (hq : qs[i]? = some q) : News H (upd H' q (.lst (vN l))) qs (b.set i l) := by
 obtain ⟨hi, hqe⟩ := List.getElem?_eq_some_iff.mp hq
 refine ⟨h.same.new (h.new q (List.mem_of_getElem? hq)), h.new, h.nd, by rw [List.length_set]; exact h.len, fun j q' hq' => ?_⟩
 by_cases e : j = i
 ·subst e
  rw [hq] at hq'
  cases hq'
  rw [upd_same, List.getD_eq_getElem?_getD, List.getElem?_set]
  have hl := h.len
  simp [show j < b.length by omega]
 ·have hne : q' ≠ q := fun e' => by
   subst e'
   exact e (nd_ix h.nd hq' hq)
  rw [upd_ne hne, h.at_ j q' hq', List.getD_eq_getElem?_getD, List.getD_eq_getElem?_getD, List.getElem?_set, if_neg (fun e' => e e'.symm)]
theorem zr17 (T : Txt K mg) : FnOk P w K mg base CX0 1 T.zt7.f T.zt7.fd ["ahead"] zl12 := by
 refine T.zt7.F.ok zj5 (fun _ _ _ _ h => ?_) (fun _ _ _ _ H vs Q E hr h => ?_)
 ·obtain ⟨a, t, rfl, _⟩ := h
  rfl
 ·obtain ⟨a, t, rfl, ha, hN, h16, ht, k⟩ := h
  refine ⟨_, (pss_cons (ps_setLc (i := 2) rfl zj5.nd rfl rfl (sw_true rfl rfl rfl rfl) (pi_range1 rfl T.range (pa_cons (pln T.len (pv 0)) pa_nil)) (own := [("n", 1)]) (blkOk_by (by kernel_rfl)) (fun _ _ _ _ _ => pg_name (i := 1) zj5.nd rfl (by simp_all?)) (fun _ _ _ _ _ => by exact pts_nil) (fun _ _ _ _ _ => by exact (pe_lst pa_nil)))
   (pss_cons (ps_for PassesOwn.never rfl (pi_range1 rfl T.range (pa_cons (pln T.len (pv 0)) pa_nil)) (pg_name (i := 1) zj5.nd rfl (by simp_all?))
   (pss_one (ps_for PassesOwn.never rfl (pi_list (pix (pv 0) (pv 1))) (pg_name (i := 3) zj5.nd rfl (by simp_all?))
   (pss_one (ps_expr (zg12 (pix (pv 2) (pv 3)) (pv 1)))))))
   (pss_one (ps_ret (pv 2))))), ?_⟩
  simp only [st_c, st_n, st_z]
  obtain ⟨qs, hqs, hql⟩ := ha.top
  rw [List.length_map] at hql
  have hz := szL
  simp? []
  refine lcRo (n := t.length) (fun D i H' => ∃ ps : List Addr, H' D = some (.lst (ps.map V.ref)) /\ ps.length = i /\ D ∉ ps /\ News H H' ps (List.replicate i []))
   (fun R h => by simp? [hqs, List.length_map, hql]; exact h) (by omega) (fun D hD => ⟨[], upd_same, rfl, by simp, Same.rfl'.new hD, by simp, by simp, rfl, by simp⟩) ?_ ?_
  ·rintro P1 hP1 D i H' hD hi ⟨ps, h1, h2, h3, N⟩
   simp? [wipe, tYes, List.map_cons, List.map_nil, List.length_nil, Nat.zero_le]
   intro q hq
   have hDq : D ≠ q := ne_of_none h1 hq
   refine ⟨_, (by rw [upd_ne hDq]; exact h1), by rw [List.length_map]; omega, hP1 _ _ _ ⟨ps ++ [q], by rw [upd_same, List.map_append]; rfl, by simp [h2], ?_, ?_, ?_, ?_, ?_, ?_⟩⟩
   ·simp [h3, hDq]
   ·exact (N.same.new (N.same.free hq)).new hD
   ·intro q' hq'
    rcases List.mem_append.mp hq' with h | h
    ·exact N.new q' h
    ·rw [List.mem_singleton.mp h]; exact N.same.free hq
   ·refine List.nodup_append.mpr ⟨N.nd, by simp, fun x hx y hy e => ?_⟩
    rw [List.mem_singleton.mp hy] at e
    subst e
    obtain ⟨j, hj⟩ := List.mem_iff_getElem?.mp hx
    rw [N.at_ j _ hj] at hq
    cases hq
   ·simp [h2]
   ·intro j q' hq'
    have hjl : j < i + 1 := by have := (List.getElem?_eq_some_iff.mp hq').1; simp [h2] at this; exact this
    have hrep : (List.replicate (i + 1) ([] : List Nat)).getD j [] = [] := by
     rw [List.getD_eq_getElem?_getD, List.getElem?_replicate]; split <;> rfl
    have hD' : q' ≠ D := fun e => by
     subst e
     have hm := List.mem_of_getElem? hq'
     rcases List.mem_append.mp hm with h | h
     ·exact h3 h
     ·exact hDq (List.mem_singleton.mp h)
    rw [hrep, upd_ne hD']
    by_cases e : q' = q
    ·rw [e, upd_same]; rfl
    ·rw [upd_ne e]
     have hj : j < i := by
      by_cases hj : j < i
      ·exact hj
      ·rw [List.getElem?_append_right (by omega), h2, show j - i = 0 by omega] at hq'
       exact absurd (Option.some.inj hq').symm e
     rw [List.getElem?_append_left (by omega)] at hq'
     have := N.at_ j q' hq'
     rw [List.getD_eq_getElem?_getD, List.getElem?_replicate] at this
     rw [this]
     split <;> rfl
  ·rintro D H1 hD ⟨ps, h1, h2, h3, N⟩
   simp? []
   refine zp23 (n := t.length) (fun i σ H' => ∃ nv mv b, σ = [some (.ref a), nv, some (.ref D), mv] /\ H' D = some (.lst (ps.map V.ref)) /\ News H H' ps b /\ b.length = t.length /\ (∀ m, m < t.length -> (∀ k, k ∈ b.getD m [] ↔ k < i /\ m ∈ t.getD k []) /\ (b.getD m []).length <= 16 * i))
    (fun R h => by simp? [N.same a _ hqs, List.length_map, hql]; exact h) (by omega) ⟨none, none, List.replicate t.length [], rfl, h1, N, by simp, fun m hm => ?_⟩ ?_ ?_
   ·rw [List.getD_eq_getElem?_getD, List.getElem?_replicate, if_pos hm]
    simp
   ·clear h1 N
    rintro P1 hP1 i σ H' hi ⟨nv, mv, b, rfl, h1, N, hb, hm⟩
    obtain ⟨vs, q, g1, g2, g3, _, g5⟩ := ha.get (i := i) (by simpa using hi)
    rw [zw6] at g5
    have a1 := N.same a _ g1
    have hti : (t.getD i []).length <= 16 := by
     rw [List.getD_eq_getElem?_getD, List.getElem?_eq_getElem hi]
     exact h16 _ (List.getElem_mem hi)
    simp only [gName, List.set_cons_succ, List.set_cons_zero]
    refine za11 (xs := vN (t.getD i [])) (a := q) (fun j σ H' => ∃ mv b, σ = [some (.ref a), some (.int i), some (.ref D), mv] /\ H' D = some (.lst (ps.map V.ref)) /\ News H H' ps b /\ b.length = t.length /\
      (∀ m, m < t.length -> (∀ k, k ∈ b.getD m [] ↔ (k < i /\ m ∈ t.getD k []) \/ (k = i /\ m ∈ (t.getD i []).take j)) /\ (b.getD m []).length <= 16 * i + j))
     (fun R h => by simp? [a1, g2]; exact h) ⟨_, b, rfl, h1, N, hb, fun m h => ⟨fun k => by rw [(hm m h).1 k]; simp, (hm m h).2⟩⟩ (fun j σ H' _ ⟨_, _, _, _, N, _⟩ => SqL.of (N.same q _ g5)) ?_ ?_
    ·clear h1 N hb hm a1 b
     rintro P2 hP2 j x σ H' hx ⟨mv, b, rfl, h1, N, hb, hm⟩
     obtain ⟨rfl, hj⟩ := zi5 hx
     have hmt : (t.getD i []).getD j 0 < t.length := zv3 (ht _ hi) hj
     have htk := zk11 hj
     generalize (t.getD i []).getD j 0 = m at hmt htk
     have hpm : ps[m]? = some ps[m] := List.getElem?_eq_getElem (by omega)
     generalize ps[m] = q2 at hpm
     have e1 : atI (ps.map V.ref) (m : Int) = some (.ref q2) := atI_nat (by rw [List.getElem?_map, hpm]; rfl)
     have e2 := N.at_ m q2 hpm
     have hDq : D ≠ q2 := fun e => h3 (by rw [e]; exact List.mem_of_getElem? hpm)
     simp? [h1, e1, e2, List.length_map]
     refine ⟨by have := (hm m hmt).2; omega, hP2 _ _ _ ⟨_, b.set m (b.getD m [] ++ [i]), rfl, by rw [upd_ne hDq]; exact h1, by rw [zn3 _ (by omega), Int.toNat_natCast]; exact N.put hpm, by rw [List.length_set]; exact hb, fun m' hm' => ?_⟩⟩
     rw [htk, List.getD_eq_getElem?_getD (l := b.set m _), List.getElem?_set]
     by_cases e : m = m'
     ·subst e
      rw [if_pos rfl, if_pos (by omega)]
      simp only [Option.getD_some]
      refine ⟨fun k => ?_, by have := (hm m hmt).2; simp only [List.length_append, List.length_singleton]; omega⟩
      rw [List.mem_append, (hm m hmt).1 k, List.mem_append, List.mem_singleton, List.mem_singleton]
      constructor
      ·rintro ((h | h) | h)
       ·exact .inl h
       ·exact .inr ⟨h.1, .inl h.2⟩
       ·exact .inr ⟨h, .inr rfl⟩
      ·rintro (h | ⟨h, h' | h'⟩)
       ·exact .inl (.inl h)
       ·exact .inl (.inr ⟨h, h'⟩)
       ·exact .inr h
     ·rw [if_neg e, <- List.getD_eq_getElem?_getD]
      refine ⟨fun k => ?_, by have := (hm m' hm').2; omega⟩
      rw [(hm m' hm').1 k, List.mem_append, List.mem_singleton]
      constructor
      ·rintro (h | h)
       ·exact .inl h
       ·exact .inr ⟨h.1, .inl h.2⟩
      ·rintro (h | ⟨h, h' | h'⟩)
       ·exact .inl h
       ·exact .inr ⟨h, h'⟩
       ·exact absurd h'.symm e
    ·rintro σ H' ⟨mv, b, rfl, h1, N, hb, hm⟩
     refine hP1 _ _ _ ⟨_, _, b, rfl, h1, N, hb, fun m h => ⟨fun k => ?_, ?_⟩⟩
     ·rw [(hm m h).1 k, List.length_map, List.take_length]
      constructor
      ·rintro (h | h)
       ·exact ⟨by omega, h.2⟩
       ·rw [h.1]; exact ⟨by omega, h.2⟩
      ·rintro ⟨h4, h5⟩
       by_cases e : k = i
       ·right; rw [e] at h5; exact ⟨e, h5⟩
       ·left; exact ⟨by omega, h5⟩
     ·have := (hm m h).2
      rw [List.length_map] at this
      omega
   ·rintro σ H' ⟨nv, mv, b, rfl, h1, N, hb, hm⟩
    simp? []
    refine k H' D b N.same ⟨trivial, ps, h1, by simp [N.len], fun i q hq => ⟨trivial, by rw [zw6]; exact N.at_ i q hq⟩⟩ hb fun m h => (hm m h).1
noncomputable def zd17 : Sp := fun vs H Q _ => ∃ (c a : Addr) (ks : List Nat) (t : List (List Nat)), vs = [.ref c, .ref a] /\ H c = some (.lst (vN ks)) /\ ks.length = t.length /\ LL (fun _ => True) H a (t.map vN) /\ t.length <= 1024 /\ (∀ l ∈ t, l.length <= 16) /\ (∀ k, k < t.length -> ∀ m ∈ t.getD k [], m < t.length) /\
 ∀ H' p, Same H H' -> H p = none -> H' p = some (.lst (vN (zp13 t fun n => ks.getD n 0 == 1))) -> Q (.ref p) H'
theorem zj13 : FnScope ["kinds", "ahead", "n", "good_ends"] ["kinds", "ahead"] (defScope (top 63)) := by simp_all? only
theorem zf4 (p : Nat -> Bool) (i : Nat) : (List.range (i + 1)).filter p = (List.range i).filter p ++ if p i = true then [i] else [] := by
 rw [List.range_succ, List.filter_append]
 congr 1
 cases h : p i <;> simp [h]
theorem zy6 (p : Nat -> Bool) (i : Nat) : ((List.range i).filter p).length <= i := by
 refine Nat.le_trans (List.length_filter_le _ _) ?_
 rw [List.length_range]
 exact Nat.le_refl _
theorem zl25 (T : Txt K mg) : FnOk P w K mg base CX0 3 T.zc12.f T.zc12.fd ["kinds", "ahead"] zd17 := by
 have zz10 := @zy12 P w K mg base T
 have zm20 := @zr17 P w K mg base T
 refine T.zc12.F.ok zj13 (fun _ _ _ _ h => ?_) (fun _ _ _ _ H vs Q E hr h => ?_)
 ·obtain ⟨c, a, ks, t, rfl, _⟩ := h
  rfl
 ·obtain ⟨c, a, ks, t, rfl, hc, hkl, ha, hN, h16, ht, k⟩ := h
  refine ⟨_, (pss_cons (ps_setLc (i := 3) rfl zj13.nd rfl rfl (sw_true rfl rfl rfl rfl) (pi_range1 rfl T.range (pa_cons (pln T.len (pv 0)) pa_nil)) (own := [("n", 2)]) (blkOk_by (by kernel_rfl)) (fun _ _ _ _ _ => pg_name (i := 2) zj13.nd rfl (by simp_all?)) (fun _ _ _ _ _ => by exact (pts_one (pt_cmpR op_eq (pix (pv 0) (pv 2)) (zg T.zi10) (nomark _)))) (fun _ _ _ _ _ => by exact (pv 2)))
   (pss_one (ps_ret (zm T.zq6 zz10 (hr.mono (by decide)) (pa_cons (zm T.zt7 zm20 (hr.mono (by decide)) (pa_cons (pv 1) pa_nil)) (pa_cons (pv 3) pa_nil)))))), ?_⟩
  simp only [st_c, st_n, st_z]
  have hz := szL
  simp? []
  refine lcRo (n := t.length) (fun D i H' => H' = upd H D (.lst (vN ((List.range i).filter fun n => ks.getD n 0 == 1))))
   (fun R h => by simp? [hc, List.length_map, hkl]; exact h) (by omega) (fun D hD => rfl) ?_ ?_
  ·rintro P1 hP1 D i H' hD hi rfl
   have hcD : c ≠ D := ne_of_none hc hD
   have e1 := atN (l := ks) (i := i) (by omega)
   simp? [wipe, tYes, List.map_cons, List.map_nil, upd_ne hcD, hc, e1]
   have hle := zy6 (fun n => ks.getD n 0 == 1) i
   split
   ·rename_i h
    simp? [upd_same]
    refine ⟨by rw [List.length_map]; omega, hP1 _ _ _ ?_⟩
    rw [upd_upd, zf4, if_pos (by rw [beq_iff_eq]; omega), zn3 _ (by omega), Int.toNat_natCast]
   ·rename_i h
    refine hP1 _ _ _ ?_
    rw [zf4, if_neg (by rw [beq_iff_eq]; omega), List.append_nil]
  ·rintro D H1 hD rfl
   simp? []
   unfold zl12
   refine ⟨a, t, rfl, ha.same fun q o _ e => by rw [upd_ne (ne_of_none e hD)]; exact e, hN, h16, ht, fun H2 p b s2 hp hbl hb => ?_⟩
   unfold zz9
   refine ⟨p, D, b, _, rfl, hp, s2 D _ upd_same, by omega, fun n hn => by rw [hbl]; exact List.mem_range.mp (List.mem_filter.mp hn).1, fun m hm n hn => by rw [hbl]; exact ((hb m (by omega) n).mp hn).1, fun H3 r nums s3 hr hr3 num => ?_⟩
   rw [hbl] at num
   have hS : Same H H3 := fun q o e => s3 q o (s2 q o (by rw [upd_ne (ne_of_none e hD)]; exact e))
   refine k H3 r hS ?_ ?_
   ·exact Same.free (fun q o e => s2 q o (by rw [upd_ne (ne_of_none e hD)]; exact e)) hr
   ·rw [hr3, zt26 hb num]
noncomputable def zp8 : Sp := fun vs H Q _ => ∃ (a : Addr) (t : List (List Nat)) (n : Nat), vs = [.ref a, .int n] /\ LL (fun _ => True) H a (t.map vN) /\ t.length <= 1024 /\ n < t.length /\ (∀ k, k < t.length -> ∀ m ∈ t.getD k [], m < t.length) /\
 ∀ H' p, Same H H' -> H p = none -> H' p = some (.lst (vN (zd3 t n))) -> Q (.ref p) H'
theorem zc16 : FnScope ["ahead", "n"] ["ahead", "n"] (defScope (top 64)) := by simp_all? only
theorem zf6 (T : Txt K mg) : FnOk P w K mg base CX0 3 T.zw3.f T.zw3.fd ["ahead", "n"] zp8 := by
 have zz10 := @zy12 P w K mg base T
 refine T.zw3.F.ok zc16 (fun _ _ _ _ h => ?_) (fun _ _ _ _ H vs Q E hr h => ?_)
 ·obtain ⟨a, t, n, rfl, _⟩ := h
  rfl
 ·obtain ⟨a, t, n, rfl, ha, hN, hn, ht, k⟩ := h
  refine ⟨_, (pss_one (ps_ret (zm T.zq6 zz10 (hr.mono (by decide)) (pa_cons (pv 0) (pa_cons (pe_lst (pa_cons (pv 1) pa_nil)) pa_nil))))), ?_⟩
  simp only [st_c, st_n, st_z]
  have hz := szL
  simp? [List.length_cons, List.length_nil]
  unfold zz9
  refine ⟨by omega, fun l hl => ?_⟩
  refine ⟨a, l, t, [n], rfl, ha.same fun q o _ e => by rw [upd_ne (ne_of_none e hl)]; exact e, upd_same, hN, by simp [hn], ht, fun H3 r nums s3 hr hr3 num => ?_⟩
  have hS : Same H (upd H l (.lst [V.int n])) := Same.rfl'.new hl
  refine k H3 r (hS.trans s3) (hS.free hr) ?_
  rw [hr3, zu26 hn ht num]
end
noncomputable def stF (sz : Addr) (fi : Nat) (sv ks ef tu : Addr) (tc gc bc : Nat) (ka kr : Addr) : List (Str × V) :=
 [("sizes", .ref sz), ("first", .int fi), ("state_values", .ref sv), ("kinds", .ref ks), ("effected", .ref ef), ("turned", .ref tu), ("turn_count", .int tc), ("good_count", .int gc), ("bad_count", .int bc), ("known_ahead", .ref ka), ("known_ranks", .ref kr)]
section
variable {sz sv ks ef tu ka kr q : Addr} {fi tc gc bc n : Nat}
theorem zf28 : (stF sz fi sv ks ef tu tc gc bc ka kr).lookup ("sizes" : Str) = some (.ref sz) := rfl
theorem zg28 : (stF sz fi sv ks ef tu tc gc bc ka kr).lookup ("first" : Str) = some (.int fi) := rfl
theorem zb27 : (stF sz fi sv ks ef tu tc gc bc ka kr).lookup ("state_values" : Str) = some (.ref sv) := rfl
theorem zh28 : (stF sz fi sv ks ef tu tc gc bc ka kr).lookup ("kinds" : Str) = some (.ref ks) := rfl
theorem zk24 : (stF sz fi sv ks ef tu tc gc bc ka kr).lookup ("effected" : Str) = some (.ref ef) := rfl
theorem zc27 : (stF sz fi sv ks ef tu tc gc bc ka kr).lookup ("turned" : Str) = some (.ref tu) := rfl
theorem zq30 : (stF sz fi sv ks ef tu tc gc bc ka kr).lookup ("turn_count" : Str) = some (.int tc) := rfl
theorem zr30 : (stF sz fi sv ks ef tu tc gc bc ka kr).lookup ("good_count" : Str) = some (.int gc) := rfl
theorem zs30 : (stF sz fi sv ks ef tu tc gc bc ka kr).lookup ("bad_count" : Str) = some (.int bc) := rfl
theorem zt30 : (stF sz fi sv ks ef tu tc gc bc ka kr).lookup ("known_ahead" : Str) = some (.ref ka) := rfl
theorem zu30 : (stF sz fi sv ks ef tu tc gc bc ka kr).lookup ("known_ranks" : Str) = some (.ref kr) := rfl
theorem zv30 : (stF sz fi sv ks ef tu tc gc bc ka kr).lookup ("state_after" : Str) = none := rfl
theorem zw30 : (stF sz fi sv ks ef tu tc gc bc ka kr).lookup ("forget" : Str) = none := rfl
theorem zx30 : (stF sz fi sv ks ef tu tc gc bc ka kr).lookup ("add_action" : Str) = none := rfl
theorem zy30 : (stF sz fi sv ks ef tu tc gc bc ka kr).lookup ("add_turn" : Str) = none := rfl
theorem zz30 : (stF sz fi sv ks ef tu tc gc bc ka kr).lookup ("kind_with_good" : Str) = none := rfl
theorem za31 : (stF sz fi sv ks ef tu tc gc bc ka kr).lookup ("add_good" : Str) = none := rfl
theorem zb31 : (stF sz fi sv ks ef tu tc gc bc ka kr).lookup ("kind_with_bad" : Str) = none := rfl
theorem zc31 : (stF sz fi sv ks ef tu tc gc bc ka kr).lookup ("add_bad" : Str) = none := rfl
theorem zd31 : (stF sz fi sv ks ef tu tc gc bc ka kr).lookup ("can_be_done" : Str) = none := rfl
theorem zi29 : (stF sz fi sv ks ef tu tc gc bc ka kr).lookup ("actions_in" : Str) = none := rfl
theorem zj29 : (stF sz fi sv ks ef tu tc gc bc ka kr).lookup ("leads_to" : Str) = none := rfl
theorem zk29 : (stF sz fi sv ks ef tu tc gc bc ka kr).lookup ("ahead_of" : Str) = none := rfl
theorem zl29 : (stF sz fi sv ks ef tu tc gc bc ka kr).lookup ("states_ahead" : Str) = none := rfl
theorem zm29 : (stF sz fi sv ks ef tu tc gc bc ka kr).lookup ("ranks" : Str) = none := rfl
theorem zn29 : (stF sz fi sv ks ef tu tc gc bc ka kr).lookup ("hinted_action" : Str) = none := rfl
theorem zo29 : putF "kinds" (.ref q) (stF sz fi sv ks ef tu tc gc bc ka kr) = stF sz fi sv q ef tu tc gc bc ka kr := rfl
theorem zp29 : putF "turned" (.ref q) (stF sz fi sv ks ef tu tc gc bc ka kr) = stF sz fi sv ks ef q tc gc bc ka kr := rfl
theorem zq29 : putF "turn_count" (.int n) (stF sz fi sv ks ef tu tc gc bc ka kr) = stF sz fi sv ks ef tu n gc bc ka kr := rfl
theorem zr29 : putF "good_count" (.int n) (stF sz fi sv ks ef tu tc gc bc ka kr) = stF sz fi sv ks ef tu tc n bc ka kr := rfl
theorem zs29 : putF "bad_count" (.int n) (stF sz fi sv ks ef tu tc gc bc ka kr) = stF sz fi sv ks ef tu tc gc n ka kr := rfl
theorem zt29 : putF "known_ahead" (.ref q) (stF sz fi sv ks ef tu tc gc bc ka kr) = stF sz fi sv ks ef tu tc gc bc q kr := rfl
theorem zu29 : putF "known_ranks" (.ref q) (stF sz fi sv ks ef tu tc gc bc ka kr) = stF sz fi sv ks ef tu tc gc bc ka q := rfl
theorem zv29 : (stF sz fi sv ks ef tu tc gc bc ka kr).length < 1000 := by show 11 < 1000; decide
end
local macro_rules
  | `(tactic| simp? only [$args,*]) => `(tactic| simp? [Nat.zero_le, List.length_nil, zf28, zg28, zb27, zh28, zk24, zc27, zq30, zr30, zs30, zt30, zu30, zv29, zv30, zw30, zx30, zy30, zz30, za31, zb31, zc31, zd31, zi29, zj29, zk29, zl29, zm29, zn29, zo29, zp29, zq29, zr29, zs29, zt29, zu29, $args,*])
open Vbtaai in
structure zn6 (R : Addr -> Prop) (H : Hp) (s : Story) (sz sv ks ef tu ka kr : Addr) : Prop where
 sz : R sz /\ H sz = some (.lst (vN s.sizes))
 sv : LL R H sv ((places s).map fun n => vN (decode s.sizes n))
 ks : R ks /\ H ks = some (.lst (vN (zi s)))
 ef : ∃ es : List Addr, H ef = some (.lst (es.map V.ref)) /\ es.length = s.actions.length /\ ∀ a q, es[a]? = some q -> R q /\ H q = some (.lst (vI ((places s).map (effd s (s.actions.getD a zb4)))))
 tu : R tu /\ H tu = some (.lst (vN ((places s).map (zb2 s))))
 ka : (R ka /\ H ka = some (.lst [])) \/ LL R H ka ((table s).map vN)
 kr : R kr /\ (H kr = some (.lst []) \/ H kr = some (.lst (vN (ranks s))))
open Vbtaai in
noncomputable def zj (C : Addr) (F : Addr -> Prop) (H : Hp) (p : Addr) (s : Story) : Prop := WfS s /\ ∃ dx sz sv ks ef tu ka kr,
 H p = some (.ins C dx (stF sz (encode s.sizes s.first) sv ks ef tu s.turns.length s.goods.length s.bads.length ka kr)) /\ F p /\ F ef /\ ef ≠ p /\ zn6 (fun q => F q /\ q ≠ p /\ q ≠ ef) H s sz sv ks ef tu ka kr /\ ∀ q, F q -> ∃ o, H q = some o
noncomputable def Grow (F : Addr -> Prop) (H : Hp) (F' : Addr -> Prop) : Prop := ∀ q, F' q -> F q \/ H q = none
theorem Grow.refl {F : Addr -> Prop} {H : Hp} : Grow F H F := fun _ h => .inl h
theorem zn6.same {R : Addr -> Prop} {H H' : Hp} {s : Story} {sz sv ks ef tu ka kr : Addr} (h : zn6 R H s sz sv ks ef tu ka kr) (e : ∀ q o, R q -> H q = some o -> H' q = some o) (e2 : H' ef = H ef) : zn6 R H' s sz sv ks ef tu ka kr where
 sz := ⟨h.sz.1, e _ _ h.sz.1 h.sz.2⟩
 sv := h.sv.same e
 ks := ⟨h.ks.1, e _ _ h.ks.1 h.ks.2⟩
 ef := let ⟨es, h1, h2, h3⟩ := h.ef; ⟨es, e2.trans h1, h2, fun a q hq => ⟨(h3 a q hq).1, e _ _ (h3 a q hq).1 (h3 a q hq).2⟩⟩
 tu := ⟨h.tu.1, e _ _ h.tu.1 h.tu.2⟩
 ka := h.ka.elim (fun z => .inl ⟨z.1, e _ _ z.1 z.2⟩) fun z => .inr (z.same e)
 kr := ⟨h.kr.1, h.kr.2.elim (fun z => .inl (e _ _ h.kr.1 z)) fun z => .inr (e _ _ h.kr.1 z)⟩
theorem zn6.sub {R R' : Addr -> Prop} {H : Hp} {s : Story} {sz sv ks ef tu ka kr : Addr} (h : zn6 R H s sz sv ks ef tu ka kr) (e : ∀ q, R q -> R' q) : zn6 R' H s sz sv ks ef tu ka kr where
 sz := ⟨e _ h.sz.1, h.sz.2⟩
 sv := h.sv.sub e
 ks := ⟨e _ h.ks.1, h.ks.2⟩
 ef := let ⟨es, h1, h2, h3⟩ := h.ef; ⟨es, h1, h2, fun a q hq => ⟨e _ (h3 a q hq).1, (h3 a q hq).2⟩⟩
 tu := ⟨e _ h.tu.1, h.tu.2⟩
 ka := h.ka.elim (fun z => .inl ⟨e _ z.1, z.2⟩) fun z => .inr (z.sub e)
 kr := ⟨e _ h.kr.1, h.kr.2⟩
theorem zj.frame {C : Addr} {F : Addr -> Prop} {H H' : Hp} {p : Addr} {s : Story} (h : zj C F H p s) (e : ∀ q o, F q -> H q = some o -> H' q = some o) : zj C F H' p s := by
 obtain ⟨W, dx, sz, sv, ks, ef, tu, ka, kr, h1, h2, h3, h4, R, dm⟩ := h
 refine ⟨W, dx, sz, sv, ks, ef, tu, ka, kr, e p _ h2 h1, h2, h3, h4, R.same (fun q o hq => e q o hq.1) ?_, fun q hq => let ⟨o, ho⟩ := dm q hq; ⟨o, e q o hq ho⟩⟩
 obtain ⟨es, e1, _⟩ := R.ef
 rw [e1, e ef _ h3 e1]
theorem zj.same {C : Addr} {F : Addr -> Prop} {H H' : Hp} {p : Addr} {s : Story} (h : zj C F H p s) (e : Same H H') : zj C F H' p s := h.frame fun q o _ => e q o
section
variable {P : Program} {w : World} {K : W.Frag} {mg : Str -> Option Value} {base : Heap}
open Vbtaai (places decode encode count)
theorem zy (s : Story) : (places s).length = count s := by unfold places; rw [List.length_range]
theorem zf1 {α : Type} {s : Story} {f : Nat -> α} {n : Nat} {d : α} (h : n < count s) : ((places s).map f).getD n d = f n := by
 unfold places
 rw [zc2, if_pos h]
theorem zz12 {sz : List Nat} {cs : List Int} (h : cs.length <= 24) : cs.length <= 2000 := by omega
noncomputable def zw10 (C : Addr) : Sp := fun vs H Q _ => ∃ (p c e : Addr) (F : Addr -> Prop) (s : Story) (cs es : List Int) (n : Nat) (ot : Int), vs = [.ref p, .ref c, .ref e, .int n, .int ot] /\ zj C F H p s /\ H c = some (.lst (vI cs)) /\ H e = some (.lst (vI es)) /\ cs.length <= 24 /\ es.length <= 24 /\
 condsIn s.sizes cs = true /\ effsIn s.sizes es = true /\ n < count s /\
 ∀ H', Same H H' -> Q (.int (if Vbtaai.holds (condsOf cs) (decode s.sizes n) = true then ((encode s.sizes (Vbtaai.effects s.sizes (decode s.sizes n) (effsOf es)) : Nat) : Int) else ot)) H'
theorem za10 : FnScope ["self", "conditions", "effects", "n", "otherwise", "values"] ["self", "conditions", "effects", "n", "otherwise"] (defScope (inClass (top 74) 2)) := by simp_all? only
theorem zb10 (T : Txt K mg) : FnOk P w K mg base CX0 3 T.zo3.f T.zo3.fd ["self", "conditions", "effects", "n", "otherwise"] (zw10 T.za.C) := by
 have zc5 := @zx7 P w K mg base T
 have zs21 := @zk19 P w K mg base T
 have zn13 := @ze15 P w K mg base T
 refine T.zo3.F.ok za10 (fun _ _ _ _ h => ?_) (fun _ _ _ _ H vs Q E hr h => ?_)
 ·obtain ⟨p, c, e, F, s, cs, es, n, ot, rfl, _⟩ := h
  rfl
 ·obtain ⟨p, c, e, F, s, cs, es, n, ot, rfl, ⟨W, dx, sz, sv, ks, ef, tu, ka, kr, h1, h2, h3, h4, R, dm⟩, hc, he, lc, le, ic, ie, hn, k⟩ := h
  refine ⟨_, (pss_cons (ps_set (i := 5) za10.nd rfl (by simp_all?) (pix (zd T.za.cl T.zs1 (pv 0) rfl) (pv 3)))
   (pss_cons (ps_if (pt_not (pt_val (zm T.zg4 zc5 (hr.mono (by decide)) (pa_cons (pv 1) (pa_cons (pv 5) pa_nil))))) (pss_one (ps_ret (pv 4))) pss_nil)
   (pss_one (ps_ret (zm T.zz8 zn13 (hr.mono (by decide)) (pa_cons (zd T.za.cl T.zk1 (pv 0) rfl) (pa_cons (zm T.zj8 zs21 (hr.mono (by decide)) (pa_cons (zd T.za.cl T.zk1 (pv 0) rfl) (pa_cons (pv 2) (pa_cons (pv 5) pa_nil)))) pa_nil))))))), ?_⟩
  simp only [st_c, st_n, st_z]
  obtain ⟨vs, q, g1, g2, g3, g4, g5⟩ := R.sv.get (i := n) (by rw [List.length_map, zy]; exact hn)
  rw [zf1 hn] at g5
  have hf := zq3 n W.pos
  have hl := zw7 hf
  have h8 : ∀ z ∈ s.sizes, z <= 8 := fun z hz => (W.sz z hz).2
  simp? only [h1, g1, g2]
  unfold zv5
  refine ⟨c, q, cs, _, s.sizes, rfl, hc, g5, zz12 (sz := []) lc, ic, hl, ?_⟩
  simp? []
  split
  ·rename_i hb
   have := k H Same.rfl'
   rw [if_neg (by rw [hb]; exact Bool.false_ne_true)] at this
   exact this
  ·rename_i hb
   rw [Bool.not_eq_false] at hb
   simp? only [h1]
   unfold zx12
   refine ⟨sz, e, q, s.sizes, es, _, rfl, R.sz.2, he, g5, zz12 (sz := []) le, hl, W.pos, ie, fun r hr => ?_⟩
   unfold zk12
   refine ⟨sz, r, s.sizes, _, rfl, by rw [upd_ne (ne_of_none R.sz.2 hr)]; exact R.sz.2, upd_same, by have := W.len; omega, zk6 W.pos _ hf, h8, ?_⟩
   simp? []
   rw [if_pos hb] at k
   exact k _ (Same.rfl'.new hr)
theorem zn6.eff {R : Addr -> Prop} {H : Hp} {s : Story} {sz sv ks ef tu ka kr : Addr} (h : zn6 R H s sz sv ks ef tu ka kr) {a : Nat} (ha : a < s.actions.length) : ∃ (vs : List V) (q : Addr), H ef = some (.lst vs) /\ vs.length = s.actions.length /\ atI vs (a : Int) = some (.ref q) /\ H q = some (.lst (vI ((places s).map (effd s (s.actions.getD a zb4))))) := by
 obtain ⟨es, h1, h2, h3⟩ := h.ef
 have hq : es[a]? = some es[a] := List.getElem?_eq_getElem (by omega)
 exact ⟨_, es[a], h1, by simp [h2], atI_nat (by rw [List.getElem?_map, hq]; rfl), (h3 a _ hq).2⟩
noncomputable def zx10 (C : Addr) : Sp := fun vs H Q _ => ∃ (p : Addr) (F : Addr -> Prop) (s : Story) (n a : Nat), vs = [.ref p, .int n, .int a] /\ zj C F H p s /\ n < count s /\ a < s.actions.length /\ Q (.bl (lead s n a).isSome) H
theorem zk14 : FnScope ["self", "n", "a"] ["self", "n", "a"] (defScope (inClass (top 74) 9)) := by simp_all? only
theorem zc10 (T : Txt K mg) : FnOk P w K mg base CX0 1 T.zp3.f T.zp3.fd ["self", "n", "a"] (zx10 T.za.C) := by
 refine T.zp3.F.ok zk14 (fun _ _ _ _ h => ?_) (fun _ _ _ _ H vs Q E hr h => ?_)
 ·obtain ⟨p, F, s, n, a, rfl, _⟩ := h
  rfl
 ·obtain ⟨p, F, s, n, a, rfl, ⟨W, dx, sz, sv, ks, ef, tu, ka, kr, h1, h2, h3, h4, R, dm⟩, hn, ha, k⟩ := h
  refine ⟨_, (pss_one (ps_ret (pe_and (pe_cmpR op_eq (pix (zd T.za.cl T.zk (pv 0) rfl) (pv 1)) (zg T.ze13) (nomark _)) (pe_one (pe_cmpR op_ne (pix (pix (zd T.za.cl T.zz1 (pv 0) rfl) (pv 2)) (pv 1)) (zg T.zs22) (nomark _)))))), ?_⟩
  simp only [st_c, st_n, st_z]
  obtain ⟨vs, q, g1, g2, g3, g4⟩ := R.eff ha
  have e1 := atN (l := zi s) (i := n) (by unfold zi; rw [List.length_map, zy]; exact hn)
  have e2 := atZ (l := (places s).map (effd s (s.actions.getD a zb4))) (i := n) (by rw [List.length_map, zy]; exact hn)
  rw [zf1 hn] at e2
  rw [show (zi s).getD n 0 = zh s n from zf1 hn] at e1
  simp? only [h1, R.ks.2, e1]
  have kk : ∀ b, b = (lead s n a).isSome -> Q (V.bl b) H := fun b e => e ▸ k
  rw [zy20 W ha] at kk
  split
  ·rename_i h0
   have h0 : zh s n = 0 := by omega
   simp? only [h1, g1, g3, g4, e2]
   refine kk _ ?_
   by_cases h5 : effd s (s.actions.getD a zb4) n = -1
   ·rw [if_neg fun z => z.2 h5, h5]; rfl
   ·rw [if_pos ⟨h0, h5⟩, decide_eq_false h5]; rfl
  ·rename_i h0
   refine kk _ ?_
   rw [if_neg (fun z => h0 (by rw [z.1]; rfl))]
   rfl
noncomputable def zb11 (C : Addr) : Sp := fun vs H Q _ => ∃ (p : Addr) (F : Addr -> Prop) (s : Story) (n a m : Nat), vs = [.ref p, .int n, .int a] /\ zj C F H p s /\ n < count s /\ lead s n a = some m /\ Q (.int m) H
theorem zd16 : FnScope ["self", "n", "a"] ["self", "n", "a"] (defScope (inClass (top 74) 11)) := by simp_all? only
theorem zx4 (T : Txt K mg) : FnOk P w K mg base CX0 1 T.zw2.f T.zw2.fd ["self", "n", "a"] (zb11 T.za.C) := by
 refine T.zw2.F.ok zd16 (fun _ _ _ _ h => ?_) (fun _ _ _ _ H vs Q E hr h => ?_)
 ·obtain ⟨p, F, s, n, a, m, rfl, _⟩ := h
  rfl
 ·obtain ⟨p, F, s, n, a, m, rfl, ⟨W, dx, sz, sv, ks, ef, tu, ka, kr, h1, h2, h3, h4, R, dm⟩, hn, hm, k⟩ := h
  have ha : a < s.actions.length := by
   by_cases ha : a < s.actions.length
   ·exact ha
   ·rw [zc22 (by omega)] at hm; cases hm
  refine ⟨_, (pss_one (ps_ret (pix (zd T.za.cl T.zl4 (pv 0) rfl) (pix (pix (zd T.za.cl T.zz1 (pv 0) rfl) (pv 2)) (pv 1))))), ?_⟩
  simp only [st_c, st_n, st_z]
  obtain ⟨vs, q, g1, g2, g3, g4⟩ := R.eff ha
  have e2 := atZ (l := (places s).map (effd s (s.actions.getD a zb4))) (i := n) (by rw [List.length_map, zy]; exact hn)
  rw [zf1 hn] at e2
  rw [zy20 W ha] at hm
  split at hm
  ·rename_i hc
   have hlt := ze29 W (s.actions.getD a zb4) n
   have h0 : 0 <= effd s (s.actions.getD a zb4) n := by have := hc.2; omega
   have e3 := zx8 (l := (places s).map (zb2 s)) (i := effd s (s.actions.getD a zb4) n) 0 h0 (by rw [List.length_map, zy]; exact hlt.2)
   rw [zf1 (by omega)] at e3
   cases hm
   simp? only [h1, g1, g3, g4, e2, R.tu.2, e3]
   exact k
  ·cases hm
noncomputable def zu22 (C : Addr) : Sp := fun vs H Q _ => ∃ (p : Addr) (F : Addr -> Prop) (s : Story) (n : Nat), vs = [.ref p, .int n] /\ zj C F H p s /\ n < count s /\ ∀ q, H q = none -> Q (.ref q) (upd H q (.lst (vN (zc1 s n))))
theorem zg7 : FnScope ["self", "n", "a"] ["self", "n"] (defScope (inClass (top 74) 10)) := by simp_all? only
theorem zh7 (T : Txt K mg) : FnOk P w K mg base CX0 2 T.zf3.f T.zf3.fd ["self", "n"] (zu22 T.za.C) := by
 have zk7 := @zc10 P w K mg base T
 refine T.zf3.F.ok zg7 (fun _ _ _ _ h => ?_) (fun _ _ _ _ H vs Q E hr h => ?_)
 ·obtain ⟨p, F, s, n, rfl, _⟩ := h
  rfl
 ·obtain ⟨p, F, s, n, rfl, S, hn, k⟩ := h
  have S' := S
  obtain ⟨W, dx, sz, sv, ks, ef, tu, ka, kr, h1, h2, h3, h4, R, dm⟩ := S'
  refine ⟨_, (pss_one (ps_ret (pe_lc rfl zg7.nd (pi_range1 rfl T.range (pa_cons (pln T.len (zd T.za.cl T.zz1 (pv 0) rfl)) pa_nil)) (own := [("a", 2)]) (blkOk_by (by kernel_rfl)) (fun _ _ _ _ _ => pg_name (i := 2) zg7.nd rfl (by simp_all?)) (fun _ _ _ _ _ => by exact (pts_one (pt_val (zy1 T.za.cl T.zp3 zk7 (hr.mono (by decide)) (pv 0) (pa_cons (pv 1) (pa_cons (pv 2) pa_nil)))))) (fun _ _ _ _ _ => by exact (pv 2))))), ?_⟩
  simp only [st_c, st_n, st_z]
  obtain ⟨es, g1, g2, _⟩ := R.ef
  have na := W.na
  have hz := szL
  simp? []
  refine lcR (n := s.actions.length) (fun D i H' => H' = upd H D (.lst (vN ((List.range i).filter fun a => (lead s n a).isSome))))
   (fun R h => by simp? only [h1, g1, List.length_map, g2]; exact h) (by omega) (fun D hD => rfl) ?_ ?_
  ·rintro D i H' hD hi rfl
   have hpD : p ≠ D := ne_of_none h1 hD
   simp? only [wipe, tYes, List.map_cons, List.map_nil, upd_ne hpD, h1]
   unfold zx10
   refine ⟨p, F, s, n, i, rfl, S.same (Same.rfl'.new hD), hn, hi, ?_⟩
   simp? []
   have hle := zy6 (fun a => (lead s n a).isSome) i
   split
   ·rename_i h
    simp? [upd_same]
    refine ⟨by rw [List.length_map]; omega, ?_⟩
    rw [upd_upd, zf4, if_pos h, zn3 _ (by omega), Int.toNat_natCast]
   ·rename_i h
    rw [zf4, if_neg h, List.append_nil]
  ·rintro D H1 hD rfl
   exact k D hD
noncomputable def ze17 (C : Addr) : Sp := fun vs H Q _ => ∃ (p : Addr) (F : Addr -> Prop) (s : Story) (n : Nat), vs = [.ref p, .int n] /\ zj C F H p s /\ n < count s /\ ∀ H' q, Same H H' -> H q = none -> H' q = some (.lst (vN (nexts s n))) -> Q (.ref q) H'
theorem zq8 : FnScope ["self", "n", "a"] ["self", "n"] (defScope (inClass (top 74) 12)) := by simp_all? only
theorem zr11 {f : Nat -> Nat} {l : List Nat} {i : Nat} (h : i < l.length) : (l.take (i + 1)).map f = (l.take i).map f ++ [f (l.getD i 0)] := by
 rw [zk11 h, List.map_append]
 rfl
theorem ze16 (T : Txt K mg) : FnOk P w K mg base CX0 3 T.zo5.f T.zo5.fd ["self", "n"] (ze17 T.za.C) := by
 have zt4 := @zh7 P w K mg base T
 have zx2 := @zx4 P w K mg base T
 refine T.zo5.F.ok zq8 (fun _ _ _ _ h => ?_) (fun _ _ _ _ H vs Q E hr h => ?_)
 ·obtain ⟨p, F, s, n, rfl, _⟩ := h
  rfl
 ·obtain ⟨p, F, s, n, rfl, S, hn, k⟩ := h
  have S' := S
  obtain ⟨W, dx, sz, sv, ks, ef, tu, ka, kr, h1, h2, h3, h4, R, dm⟩ := S'
  refine ⟨_, (pss_one (ps_ret (pe_lc rfl zq8.nd (pi_list (zy1 T.za.cl T.zf3 zt4 (hr.mono (by decide)) (pv 0) (pa_cons (pv 1) pa_nil))) (own := [("a", 2)]) (blkOk_by (by kernel_rfl)) (fun _ _ _ _ _ => pg_name (i := 2) zq8.nd rfl (by simp_all?)) (fun _ _ _ _ _ => by exact pts_nil) (fun _ _ _ _ _ => by exact (zy1 T.za.cl T.zw2 zx2 (hr.mono (by decide)) (pv 0) (pa_cons (pv 1) (pa_cons (pv 2) pa_nil))))))), ?_⟩
  simp only [st_c, st_n, st_z]
  have na := W.na
  have nl := zb7 s n
  have hz := szL
  simp? only []
  refine lcA (xs := vN (zc1 s n)) (fun q D i H' => H' = upd (upd H q (.lst (vN (zc1 s n)))) D (.lst (vN (((zc1 s n).take i).map (zr3 s n)))))
   (fun R' h => by
    simp? only [h1]
    exact ⟨p, F, s, n, rfl, S, hn, h⟩) (fun q D _ _ _ => rfl) (fun q D i H' _ _ hqD _ e => by rw [e]; exact SqL.of (by rw [upd_ne hqD, upd_same])) ?_ ?_
  ·rintro P1 hP1 q D i x H' hq hD hqD hx rfl
   obtain ⟨rfl, hi⟩ := zi5 hx
   have hpq : p ≠ q := ne_of_none h1 hq
   have hpD : p ≠ D := ne_of_none h1 hD
   have hm : (zc1 s n).getD i 0 ∈ zc1 s n := zv3 (p := fun x => x ∈ zc1 s n) (fun _ h => h) hi
   simp? only [wipe, tYes, List.map_cons, List.map_nil, upd_ne hpD, upd_ne hpq, h1]
   unfold zb11
   refine ⟨p, F, s, n, _, _, rfl, S.same ((Same.rfl'.new hq).new hD), hn, (zx9 hm).2, _, upd_same, by simp; omega, hP1 _ _ _ _ ?_⟩
   rw [upd_upd, zr11 hi, zn3 _ (by omega), Int.toNat_natCast]
  ·rintro q D H' hq hD hqD rfl
   rw [List.length_map, List.take_length, <- zf14]
   exact k _ D ((Same.rfl'.new hq).new hD) hD upd_same
end
section
variable {P : Program} {w : World} {K : W.Frag} {mg : Str -> Option Value} {base : Heap}
open Vbtaai (places decode encode count told)
noncomputable def Gr (F : Addr -> Prop) (H H' : Hp) : Addr -> Prop := fun q => F q \/ (H q = none /\ ∃ o, H' q = some o)
theorem Gr.grow {F : Addr -> Prop} {H H' : Hp} : Grow F H (Gr F H H') := fun q h => h.elim .inl fun z => .inr z.1
theorem Grow.trans {F F' F'' : Addr -> Prop} {H H' : Hp} (a : Grow F H F') (b : Grow F' H' F'') (e : ∀ q o, H q = some o -> ¬ F q -> H' q = some o) : Grow F H F'' := fun q h => by
 rcases b q h with h | h
 ·exact a q h
 ·cases r : H q with
  | none => exact .inr rfl
  | some o =>
   by_cases hF : F q
   ·exact .inl hF
   ·rw [e q o r hF] at h; cases h
theorem zc.out {F : Addr -> Prop} {H H' : Hp} {p : Addr} (e : zc p H H') (hp : F p) : ∀ q o, H q = some o -> ¬ F q -> H' q = some o := fun q o h hF => e q o h fun z => hF (z ▸ hp)
theorem zc.free {p q : Addr} {H H' : Hp} {o : HO} (e : zc p H H') (hq : H' q = none) (hp : H' p = some o) : H q = none := by
 cases r : H q with
 | none => rfl
 | some u => rw [e q u r (fun z => by rw [z, hp] at hq; cases hq)] at hq; cases hq
noncomputable def zu4 (C : Addr) : Sp := fun vs H Q _ => ∃ (p : Addr) (F : Addr -> Prop) (s : Story), vs = [.ref p] /\ zj C F H p s /\
 ∀ H' F' q, zc p H H' -> Grow F H F' -> zj C F' H' p s -> LL (fun x => F' x /\ x ≠ p) H' q ((Vbtaai.table s).map vN) -> Q (.ref q) H'
theorem zo6 : FnScope ["self", "n"] ["self"] (defScope (inClass (top 74) 13)) := by simp_all? only
theorem zr2 (T : Txt K mg) : FnOk P w K mg base CX0 4 T.zi1.f T.zi1.fd ["self"] (zu4 T.za.C) := by
 have zp18 := @ze16 P w K mg base T
 refine T.zi1.F.ok zo6 (fun _ _ _ _ h => ?_) (fun _ _ _ _ H vs Q E hr h => ?_)
 ·obtain ⟨p, F, s, rfl, _⟩ := h
  rfl
 ·obtain ⟨p, F, s, rfl, S, k⟩ := h
  have S' := S
  obtain ⟨W, dx, sz, sv, ks, ef, tu, ka, kr, h1, h2, h3, h4, R, dm⟩ := S'
  refine ⟨_, (pss_cons (ps_if (pt_cmpR op_eq (pln T.len (zd T.za.cl T.zp2 (pv 0) rfl)) pe_int (nomark _)) (pss_one (zg2 T.za.cl T.zp2 (pv 0) (pe_lc rfl zo6.nd (pi_range1 rfl T.range (pa_cons (pln T.len (zd T.za.cl T.zk (pv 0) rfl)) pa_nil)) (own := [("n", 1)]) (blkOk_by (by kernel_rfl)) (fun _ _ _ _ _ => pg_name (i := 1) zo6.nd rfl (by simp_all?)) (fun _ _ _ _ _ => by exact pts_nil) (fun _ _ _ _ _ => by exact (zy1 T.za.cl T.zo5 zp18 (hr.mono (by decide)) (pv 0) (pa_cons (pv 1) pa_nil)))) rfl)) pss_nil)
   (pss_one (ps_ret (zd T.za.cl T.zp2 (pv 0) rfl)))), ?_⟩
  simp only [st_c, st_n, st_z]
  have cp := W.cpos
  have c1 := W.cnt
  have hz := szL
  rcases R.ka with ⟨r1, r2⟩ | r1
  ·simp? only [h1, r2, List.length_nil, Int.ofNat_zero, Int.natCast_zero]
   have hkl : (zi s).length = count s := by unfold zi; rw [List.length_map, zy]
   refine lcRo (n := count s) (fun D i H' => ∃ ps : List Addr, H' D = some (.lst (ps.map V.ref)) /\ ps.length = i /\ Same H H' /\ ∀ j q, ps[j]? = some q -> q ≠ D /\ H q = none /\ H' q = some (.lst (vN (nexts s j))))
    (fun R' h => by simp? only [h1, R.ks.2, List.length_map, hkl]; exact h) (by omega) (fun D hD => ⟨[], upd_same, rfl, Same.rfl'.new hD, by simp⟩) ?_ ?_
   ·rintro P1 hP1 D i H' hD hi ⟨ps, e1, e2, sm, e3⟩
    simp? only [wipe, tYes, List.map_cons, List.map_nil, sm p _ h1]
    unfold ze17
    refine ⟨p, F, s, i, rfl, S.same sm, hi, fun H2 q s2 hq e4 => ?_⟩
    have hDq : D ≠ q := ne_of_none e1 hq
    refine ⟨_, s2 D _ e1, by rw [List.length_map]; omega, hP1 _ _ _ ⟨ps ++ [q], by rw [upd_same, List.map_append]; rfl, by simp [e2], (sm.trans s2).new hD, fun j q' hq' => ?_⟩⟩
    by_cases hj : j < i
    ·rw [List.getElem?_append_left (by omega)] at hq'
     obtain ⟨f1, f2, f3⟩ := e3 j q' hq'
     exact ⟨f1, f2, by rw [upd_ne f1]; exact s2 _ _ f3⟩
    ·rw [List.getElem?_append_right (by omega)] at hq'
     have hj0 : j - ps.length = 0 := by
      have := (List.getElem?_eq_some_iff.mp hq').1
      simp at this
      omega
     rw [hj0] at hq'
     cases hq'
     have : j = i := by omega
     subst this
     exact ⟨hDq.symm, sm.free hq, by rw [upd_ne hDq.symm]; exact e4⟩
   ·rintro D H1 hD ⟨ps, e1, e2, sm, e3⟩
    have hpD : p ≠ D := ne_of_none h1 hD
    have hefD : ef ≠ D := fun e => by obtain ⟨es, f1, _⟩ := R.ef; rw [e, hD] at f1; cases f1
    simp? only [sm p _ h1, upd_same]
    generalize hH2 : upd H1 p _ = H2
    have sb : zc p H H2 := by rw [<- hH2]; exact (zc.of sm).self
    have hp2 : H2 p = some (.ins T.za.C dx (stF sz (encode s.sizes s.first) sv ks ef tu s.turns.length s.goods.length s.bads.length D kr)) := by rw [<- hH2]; exact upd_same
    have dm2 : ∀ q, Gr F H H2 q -> ∃ o, H2 q = some o := fun q hq => by
     rcases hq with hq | hq
     ·by_cases e : q = p
      ·rw [e]; exact ⟨_, hp2⟩
      ·obtain ⟨o, ho⟩ := dm q hq; exact ⟨o, sb q o ho e⟩
     ·exact hq.2
    have newR : ∀ q o, H q = none -> H2 q = some o -> Gr F H H2 q /\ q ≠ p /\ q ≠ ef := fun q o e f => ⟨.inr ⟨e, o, f⟩, (fun z => by rw [z, h1] at e; cases e), fun z => by obtain ⟨es, f1, _⟩ := R.ef; rw [z, f1] at e; cases e⟩
    have hDl : LL (fun q => Gr F H H2 q /\ q ≠ p /\ q ≠ ef) H2 D ((Vbtaai.table s).map vN) := by
     have hD2 : H2 D = some (.lst (ps.map V.ref)) := by rw [<- hH2, upd_ne hpD.symm]; exact e1
     refine ⟨newR D _ hD hD2, ps, hD2, by rw [List.length_map, zd1]; exact e2, fun i q hq => ?_⟩
     obtain ⟨f1, f2, f3⟩ := e3 i q hq
     have hi : i < count s := by have := (List.getElem?_eq_some_iff.mp hq).1; omega
     have f4 : H2 q = some (.lst (vN (nexts s i))) := by rw [<- hH2, upd_ne (ne_of_none h1 f2).symm]; exact f3
     refine ⟨newR q _ f2 f4, ?_⟩
     rw [zw6, zx6 hi]
     exact f4
    have R2 : zn6 (fun q => Gr F H H2 q /\ q ≠ p /\ q ≠ ef) H2 s sz sv ks ef tu D kr := by
     have R1 := (R.sub (R' := fun q => Gr F H H2 q /\ q ≠ p /\ q ≠ ef) fun q hq => ⟨.inl hq.1, hq.2⟩)
     have R3 : zn6 (fun q => F q /\ q ≠ p /\ q ≠ ef) H2 s sz sv ks ef tu ka kr := R.same (fun q o hq e => sb q o e hq.2.1) (by obtain ⟨es, f1, _⟩ := R.ef; rw [f1, sb ef _ f1 h4])
     have R4 := (R3.sub (R' := fun q => Gr F H H2 q /\ q ≠ p /\ q ≠ ef) fun q hq => ⟨.inl hq.1, hq.2⟩)
     exact ⟨R4.sz, R4.sv, R4.ks, R4.ef, R4.tu, .inr hDl, R4.kr⟩
    exact k H2 (Gr F H H2) D sb Gr.grow ⟨W, dx, sz, sv, ks, ef, tu, D, kr, hp2, .inl h2, .inl h3, h4, R2, dm2⟩ (hDl.sub fun q hq => ⟨hq.1, hq.2.1⟩)
  ·obtain ⟨qs, f1, f2⟩ := r1.top
   rw [List.length_map, zd1] at f2
   have hne : ¬ ((count s : Int) = 0) := by omega
   simp? only [h1, f1, List.length_map, f2, hne]
   exact k H F ka (zc.of Same.rfl') Grow.refl S (r1.sub fun q hq => ⟨hq.1, hq.2.1⟩)
noncomputable def zy10 (C : Addr) : Sp := fun vs H Q _ => ∃ (p : Addr) (F : Addr -> Prop) (s : Story), vs = [.ref p] /\ zj C F H p s /\
 ∀ H' F' q, zc p H H' -> Grow F H F' -> zj C F' H' p s -> F' q -> q ≠ p -> H' q = some (.lst (vN (Vbtaai.ranks s))) -> Q (.ref q) H'
theorem zd21 : FnScope ["self"] ["self"] (defScope (inClass (top 74) 14)) := by simp_all? only
theorem zh3 (T : Txt K mg) : FnOk P w K mg base CX0 5 T.ze2.f T.ze2.fd ["self"] (zy10 T.za.C) := by
 have zx := @zr2 P w K mg base T
 have zm27 := @zl25 P w K mg base T
 refine T.ze2.F.ok zd21 (fun _ _ _ _ h => ?_) (fun _ _ _ _ H vs Q E hr h => ?_)
 ·obtain ⟨p, F, s, rfl, _⟩ := h
  rfl
 ·obtain ⟨p, F, s, rfl, S, k⟩ := h
  have S' := S
  obtain ⟨W, dx, sz, sv, ks, ef, tu, ka, kr, h1, h2, h3, h4, R, dm⟩ := S'
  refine ⟨_, (pss_cons (ps_if (pt_cmpR op_eq (pln T.len (zd T.za.cl T.zq2 (pv 0) rfl)) pe_int (nomark _)) (pss_one (zg2 T.za.cl T.zq2 (pv 0) (zm T.zc12 zm27 (hr.mono (by decide)) (pa_cons (zd T.za.cl T.zk (pv 0) rfl) (pa_cons (zj1 T.za.cl T.zi1 zx (hr.mono (by decide)) (pv 0)) pa_nil))) rfl)) pss_nil)
   (pss_one (ps_ret (zd T.za.cl T.zq2 (pv 0) rfl)))), ?_⟩
  simp only [st_c, st_n, st_z]
  have cp := W.cpos
  have c1 := W.cnt
  have hz := szL
  obtain ⟨r0, r1 | r1⟩ := R.kr
  ·simp? only [h1, r1, List.length_nil, Int.natCast_zero]
   unfold zu4
   refine ⟨p, F, s, rfl, S, fun H1 F1 q sb1 gr1 S1 hl1 => ?_⟩
   have hk1 := sb1 ks _ R.ks.2 R.ks.1.2.1
   have hkl : (zi s).length = count s := by unfold zi; rw [List.length_map, zy]
   unfold zd17
   refine ⟨ks, q, zi s, Vbtaai.table s, rfl, hk1, by rw [hkl, zd1], hl1.sub fun _ _ => trivial, by rw [zd1]; exact c1, zj25 W, zl9 W, fun H2 r sm2 hr hr2 => ?_⟩
   obtain ⟨_, dx1, sz1, sv1, ks1, ef1, tu1, ka1, kr1, i1, i2, i3, i4, R1, dm1⟩ := S1
   simp? only [sm2 p _ i1, upd_same]
   generalize hH3 : upd H2 p _ = H3
   have hpr : p ≠ r := ne_of_none i1 hr
   have sb3 : zc p H1 H3 := by rw [<- hH3]; exact (zc.of sm2).self
   have hp3 : H3 p = some (.ins T.za.C dx1 (stF sz1 (encode s.sizes s.first) sv1 ks1 ef1 tu1 s.turns.length s.goods.length s.bads.length ka1 r)) := by rw [<- hH3]; exact upd_same
   have hr3 : H3 r = some (.lst (vN (Vbtaai.ranks s))) := by
    rw [<- hH3, upd_ne hpr.symm, hr2, zu28]
    congr 3
    unfold zp13
    rw [zd1]
    have ef : (List.range (count s)).filter (fun n => (zi s).getD n 0 == 1) = (List.range (count s)).filter (fun n => zh s n == 1) := List.filter_congr fun m hm => by
     rw [show (zi s).getD m 0 = zh s m from zf1 (List.mem_range.mp hm)]
    rw [ef]
   have newr : Gr F1 H1 H3 r /\ r ≠ p /\ r ≠ ef1 := ⟨.inr ⟨hr, _, hr3⟩, hpr.symm, fun z => by obtain ⟨es, f1, _⟩ := R1.ef; rw [z, f1] at hr; cases hr⟩
   have dm3 : ∀ q, Gr F1 H1 H3 q -> ∃ o, H3 q = some o := fun q hq => by
    rcases hq with hq | hq
    ·by_cases e : q = p
     ·rw [e]; exact ⟨_, hp3⟩
     ·obtain ⟨o, ho⟩ := dm1 q hq; exact ⟨o, sb3 q o ho e⟩
    ·exact hq.2
   have R3 : zn6 (fun q => F1 q /\ q ≠ p /\ q ≠ ef1) H3 s sz1 sv1 ks1 ef1 tu1 ka1 kr1 := R1.same (fun q o hq e => sb3 q o e hq.2.1) (by obtain ⟨es, f1, _⟩ := R1.ef; rw [f1, sb3 ef1 _ f1 i4])
   have R4 := (R3.sub (R' := fun q => Gr F1 H1 H3 q /\ q ≠ p /\ q ≠ ef1) fun q hq => ⟨.inl hq.1, hq.2⟩)
   exact k H3 (Gr F1 H1 H3) r (sb1.trans sb3) (gr1.trans Gr.grow (sb1.out h2)) ⟨W, dx1, sz1, sv1, ks1, ef1, tu1, ka1, r, hp3, .inl i2, .inl i3, i4, ⟨R4.sz, R4.sv, R4.ks, R4.ef, R4.tu, R4.ka, ⟨newr, .inr hr3⟩⟩, dm3⟩ newr.1 newr.2.1 hr3
  ·have hne : ¬ ((count s : Int) = 0) := by omega
   simp? only [h1, r1, List.length_map, zl3, hne]
   exact k H F kr (zc.of Same.rfl') Grow.refl S r0.1 r0.2.1 r1
noncomputable def zl22 (C : Addr) : Sp := fun vs H Q _ => ∃ (p : Addr) (F : Addr -> Prop) (s : Story) (n a kk : Nat) (r : List Nat), vs = [.ref p, .int n] /\ zj C F H p s /\ Vbtaai.rank s n = some (kk + 1) /\ zt5 s n = a :: r /\
 ∀ H' F', zc p H H' -> Grow F H F' -> zj C F' H' p s -> Q (.int a) H'
theorem zp4 : FnScope ["self", "n", "ranks", "a", "leading"] ["self", "n"] (defScope (inClass (top 74) 15)) := by simp_all? only
theorem zi2 {p : Nat -> Bool} {l : List Nat} {i : Nat} (h : i < l.length) : (l.take (i + 1)).filter p = (l.take i).filter p ++ if p (l.getD i 0) = true then [l.getD i 0] else [] := by
 rw [zk11 h, List.filter_append]
 congr 1
 cases e : p (l.getD i 0) <;> simp [e, -List.getD_eq_getElem?_getD]
theorem zy8 (T : Txt K mg) : FnOk P w K mg base CX0 6 T.ze3.f T.ze3.fd ["self", "n"] (zl22 T.za.C) := by
 have zl1 := @zh3 P w K mg base T
 have zt4 := @zh7 P w K mg base T
 have zx2 := @zx4 P w K mg base T
 refine T.ze3.F.ok zp4 (fun _ _ _ _ h => ?_) (fun _ _ _ _ H vs Q E hr h => ?_)
 ·obtain ⟨p, F, s, n, a, kk, r, rfl, _⟩ := h
  rfl
 ·obtain ⟨p, F, s, n, a, kk, r, rfl, S, hk, hl, k⟩ := h
  have hn := zq9 hk
  have S' := S
  obtain ⟨W, dx, sz, sv, ks, ef, tu, ka, kr, h1, h2, h3, h4, R, dm⟩ := S'
  refine ⟨_, (pss_cons (ps_set (i := 2) zp4.nd rfl (by simp_all?) (zj1 T.za.cl T.ze2 zl1 (hr.mono (by decide)) (pv 0)))
   (pss_cons (ps_setLc (i := 4) rfl zp4.nd rfl rfl (sw_true rfl rfl rfl rfl) (pi_list (zy1 T.za.cl T.zf3 zt4 (hr.mono (by decide)) (pv 0) (pa_cons (pv 1) pa_nil))) (own := [("a", 3)]) (blkOk_by (by kernel_rfl)) (fun _ _ _ _ _ => pg_name (i := 3) zp4.nd rfl (by simp_all?)) (fun _ _ _ _ _ => by exact (pts_one (pt_cmpR op_eq (pix (pv 2) (zy1 T.za.cl T.zw2 zx2 (hr.mono (by decide)) (pv 0) (pa_cons (pv 1) (pa_cons (pv 3) pa_nil)))) (pe_op op_sub (pix (pv 2) (pv 1)) pe_int) (nomark _)))) (fun _ _ _ _ _ => by exact (pv 3)))
   (pss_one (ps_ret (pix (pv 4) pe_int))))), ?_⟩
  simp only [st_c, st_n, st_z]
  have na := W.na
  have nl := zb7 s n
  have hz := szL
  simp? only [h1]
  unfold zy10
  refine ⟨p, F, s, rfl, S, fun H1 F1 rk sb1 gr1 S1 frk rkp hrk => ?_⟩
  have S1' := S1
  obtain ⟨_, dx1, sz1, sv1, ks1, ef1, tu1, ka1, kr1, i1, i2, i3, i4, R1, dm1⟩ := S1'
  have en := atN (l := Vbtaai.ranks s) (i := n) (by rw [zl3]; exact hn)
  rw [zh5 hn] at en
  simp? only []
  refine lcA (xs := vN (zc1 s n)) (fun q D i H' => H' = upd (upd H1 q (.lst (vN (zc1 s n)))) D (.lst (vN (((zc1 s n).take i).filter fun a => told (Vbtaai.rank s (zr3 s n a)) == told (Vbtaai.rank s n) - 1))))
   (fun R' h => by
    simp? only [i1]
    exact ⟨p, F1, s, n, rfl, S1, hn, h⟩) (fun q D _ _ _ => rfl) (fun q D i H' _ _ hqD _ e => by rw [e]; exact SqL.of (by rw [upd_ne hqD, upd_same])) ?_ ?_
  ·rintro P1 hP1 q D i x H' hq hD hqD hx rfl
   obtain ⟨rfl, hi⟩ := zi5 hx
   have hpq : p ≠ q := ne_of_none i1 hq
   have hpD : p ≠ D := ne_of_none i1 hD
   have hrq : rk ≠ q := ne_of_none hrk hq
   have hrD : rk ≠ D := ne_of_none hrk hD
   have hm : (zc1 s n).getD i 0 ∈ zc1 s n := zv3 (p := fun x => x ∈ zc1 s n) (fun _ h => h) hi
   have hml := zd22 W hm
   have el := atN (l := Vbtaai.ranks s) (i := zr3 s n ((zc1 s n).getD i 0)) (by rw [zl3]; exact hml)
   rw [zh5 hml] at el
   simp? only [wipe, tYes, List.map_cons, List.map_nil, upd_ne hpD, upd_ne hpq, i1]
   unfold zb11
   refine ⟨p, F1, s, n, _, _, rfl, S1.same ((Same.rfl'.new hq).new hD), hn, (zx9 hm).2, ?_⟩
   simp? [upd_ne hrD, upd_ne hrq, hrk, el, en]
   have hnl : told (Vbtaai.rank s n) = kk + 1 + 1 := zr9.mpr hk
   have hle : (((zc1 s n).take i).filter fun a => told (Vbtaai.rank s (zr3 s n a)) == told (Vbtaai.rank s n) - 1).length <= 16 := Nat.le_trans (List.length_filter_le _ _) (Nat.le_trans (List.length_take_le' _ _) (by omega))
   split
   ·rename_i h
    simp? [upd_same]
    refine ⟨by rw [List.length_map]; omega, hP1 _ _ _ _ ?_⟩
    rw [upd_upd, zi2 hi, if_pos (by rw [beq_iff_eq]; omega), zn3 _ (by omega), Int.toNat_natCast]
   ·rename_i h
    refine hP1 _ _ _ _ ?_
    rw [zi2 hi, if_neg (by rw [beq_iff_eq]; omega), List.append_nil]
  ·rintro q D H' hq hD hqD rfl
   rw [List.length_map, List.take_length]
   have hlead : ((zc1 s n).filter fun a => told (Vbtaai.rank s (zr3 s n a)) == told (Vbtaai.rank s n) - 1) = a :: r := hl
   rw [hlead]
   simp? [upd_same]
   refine ⟨.int a, (by have := atN (l := a :: r) (i := 0) (by simp); simpa using this), ?_⟩
   refine k _ F1 ?_ gr1 (S1.same ((Same.rfl'.new hq).new hD))
   exact sb1.trans (zc.of ((Same.rfl'.new hq).new hD))
end
section
variable {P : Program} {w : World} {K : W.Frag} {mg : Str -> Option Value} {base : Heap}
open Vbtaai (places decode encode count told)
noncomputable def zl11 (C : Addr) : Sp := fun vs H Q _ => ∃ (p dx sz sv ks ef tu ka kr : Addr) (fi tc gc bc : Nat), vs = [.ref p] /\ H p = some (.ins C dx (stF sz fi sv ks ef tu tc gc bc ka kr)) /\
 ∀ H' ka' kr', zc p H H' -> H' p = some (.ins C dx (stF sz fi sv ks ef tu tc gc bc ka' kr')) -> H ka' = none -> H kr' = none -> H' ka' = some (.lst []) -> H' kr' = some (.lst []) -> Q .non H'
theorem zl19 : FnScope ["self"] ["self"] (defScope (inClass (top 74) 1)) := by simp_all? only
theorem zn7 (T : Txt K mg) : FnOk P w K mg base CX0 1 T.zz3.f T.zz3.fd ["self"] (zl11 T.za.C) := by
 refine T.zz3.F.ok zl19 (fun _ _ _ _ h => ?_) (fun _ _ _ _ H vs Q E hr h => ?_)
 ·obtain ⟨p, dx, sz, sv, ks, ef, tu, ka, kr, fi, tc, gc, bc, rfl, _⟩ := h
  rfl
 ·obtain ⟨p, dx, sz, sv, ks, ef, tu, ka, kr, fi, tc, gc, bc, rfl, h1, k⟩ := h
  refine ⟨_, (pss_cons (zg2 T.za.cl T.zp2 (pv 0) (pe_lst pa_nil) rfl)
   (pss_one (zg2 T.za.cl T.zq2 (pv 0) (pe_lst pa_nil) rfl))), ?_⟩
  simp only [st_c, st_n, st_z]
  simp? only [List.length_nil, Nat.zero_le]
  intro a ha
  have hpa : p ≠ a := ne_of_none h1 ha
  simp? only [upd_ne hpa, h1, upd_same]
  intro b hb
  have hpb : p ≠ b := fun e => by rw [e, upd_same] at hb; cases hb
  have hab : a ≠ b := fun e => by rw [<- e, upd_ne hpa.symm, upd_same] at hb; cases hb
  have hb' : H b = none := by rw [upd_ne hpb.symm, upd_ne hab.symm] at hb; exact hb
  simp? only [upd_ne hpb, upd_same]
  refine k _ a b ?_ upd_same ha hb' ?_ ?_
  ·exact (((((zc.of Same.rfl').new ha).self).new hb').self)
  ·rw [upd_ne hpa.symm, upd_ne hab, upd_ne hpa.symm, upd_same]
  ·rw [upd_ne hpb.symm, upd_same]
structure Fr (F : Addr -> Prop) (H : Hp) (F' : Addr -> Prop) (H' : Hp) : Prop where
 out : ∀ q o, H q = some o -> ¬ F q -> H' q = some o
 grow : Grow F H F'
theorem Fr.refl {F : Addr -> Prop} {H : Hp} : Fr F H F H := ⟨fun _ _ h _ => h, Grow.refl⟩
theorem Fr.trans {F F' F'' : Addr -> Prop} {H H' H'' : Hp} (a : Fr F H F' H') (b : Fr F' H' F'' H'') : Fr F H F'' H'' :=
 ⟨fun q o h hF => b.out q o (a.out q o h hF) (fun hF' => (a.grow q hF').elim hF fun z => by rw [h] at z; cases z), a.grow.trans b.grow a.out⟩
theorem Fr.but {F F' : Addr -> Prop} {H H' : Hp} {p : Addr} (e : zc p H H') (hp : F p) (g : Grow F H F') : Fr F H F' H' := ⟨e.out hp, g⟩
theorem Fr.same {F : Addr -> Prop} {H H' : Hp} (e : Same H H') : Fr F H F H' := ⟨fun q o h _ => e q o h, Grow.refl⟩
open Vbtaai in
noncomputable def zd10 (s : Story) (r : Rule) : Story := { s with actions := s.actions ++ [r] }
open Vbtaai in
noncomputable def zm9 (s : Story) (r : Rule) : Story := { s with turns := s.turns ++ [r] }
open Vbtaai in
noncomputable def za8 (s : Story) (c : List Cond) : Story := { s with goods := s.goods ++ [c] }
open Vbtaai in
noncomputable def zs9 (s : Story) (c : List Cond) : Story := { s with bads := s.bads ++ [c] }
theorem zv22 {s : Story} (W : WfS s) (r : Vbtaai.Rule) (n : Nat) : ((zb2 (zm9 s r) n : Nat) : Int) = if Vbtaai.holds r.conds (decode s.sizes (zb2 s n)) = true then ((encode s.sizes (Vbtaai.effects s.sizes (decode s.sizes (zb2 s n)) r.effs) : Nat) : Int) else (zb2 s n : Int) := by
 have hf := zz11 W.pos s.turns (zq3 n W.pos)
 have e : decode s.sizes (zb2 s n) = s.turns.foldl (Vbtaai.turn s.sizes) (decode s.sizes n) := zg3 hf
 have e2 : zb2 (zm9 s r) n = encode s.sizes (Vbtaai.turn s.sizes (s.turns.foldl (Vbtaai.turn s.sizes) (decode s.sizes n)) r) := by
  show encode s.sizes ((s.turns ++ [r]).foldl (Vbtaai.turn s.sizes) (decode s.sizes n)) = _
  rw [List.foldl_append]
  rfl
 rw [e2, e]
 unfold Vbtaai.turn
 split
 ·rfl
 ·rfl
theorem zm25 (s : Story) (c : List Vbtaai.Cond) (n : Nat) : zh (za8 s c) n = if zh s n ≠ 2 /\ Vbtaai.holds c (decode s.sizes n) = true then 1 else zh s n := by
 show Vbtaai.ending (za8 s c) (decode s.sizes n) = if Vbtaai.ending s (decode s.sizes n) ≠ 2 /\ _ then 1 else Vbtaai.ending s (decode s.sizes n)
 unfold Vbtaai.ending
 show (if s.bads.any _ = true then 2 else if (s.goods ++ [c]).any _ = true then 1 else 0) = _
 rw [List.any_append]
 by_cases h1 : (s.bads.any fun c => Vbtaai.holds c (decode s.sizes n)) = true
 ·simp [h1]
 ·by_cases h2 : (s.goods.any fun c => Vbtaai.holds c (decode s.sizes n)) = true
  ·simp [h1, h2]
  ·by_cases h3 : Vbtaai.holds c (decode s.sizes n) = true
   ·simp [h1, h2, h3]
   ·simp [h1, h2, h3]
theorem zd27 (s : Story) (c : List Vbtaai.Cond) (n : Nat) : zh (zs9 s c) n = if Vbtaai.holds c (decode s.sizes n) = true then 2 else zh s n := by
 show Vbtaai.ending (zs9 s c) (decode s.sizes n) = if _ then 2 else Vbtaai.ending s (decode s.sizes n)
 unfold Vbtaai.ending
 show (if (s.bads ++ [c]).any _ = true then 2 else if s.goods.any _ = true then 1 else 0) = _
 rw [List.any_append]
 by_cases h3 : Vbtaai.holds c (decode s.sizes n) = true
 ·simp [h3]
 ·simp [h3]
theorem zw29 (l : List Int) (z : Int) : vI l ++ [.int z] = vI (l ++ [z]) := by
 show vI l ++ List.map V.int [z] = _
 exact List.map_append.symm
theorem zg8 {α : Type} (f : Nat -> α) (i : Nat) : (List.range (i + 1)).map f = (List.range i).map f ++ [f i] := by rw [List.range_succ, List.map_append]; rfl
noncomputable def zw22 (C : Addr) : Sp := fun vs H Q _ => ∃ (p c e : Addr) (F : Addr -> Prop) (s : Story) (cs es : List Int), vs = [.ref p, .ref c, .ref e] /\ zj C F H p s /\ H c = some (.lst (vI cs)) /\ H e = some (.lst (vI es)) /\ cs.length <= 24 /\ es.length <= 24 /\
 condsIn s.sizes cs = true /\ effsIn s.sizes es = true /\ s.actions.length < 16 /\
 ∀ H' F', Fr F H F' H' -> zj C F' H' p (zd10 s ⟨condsOf cs, effsOf es⟩) -> Q (.int s.actions.length) H'
theorem zi7 : FnScope ["self", "conditions", "effects", "n", "after"] ["self", "conditions", "effects"] (defScope (inClass (top 74) 3)) := by simp_all? only
theorem zs14 (T : Txt K mg) : FnOk P w K mg base CX0 4 T.zr4.f T.zr4.fd ["self", "conditions", "effects"] (zw22 T.za.C) := by
 have zl7 := @zb10 P w K mg base T
 have zn4 := @zn7 P w K mg base T
 refine T.zr4.F.ok zi7 (fun _ _ _ _ h => ?_) (fun _ _ _ _ H vs Q E hr h => ?_)
 ·obtain ⟨p, c, e, F, s, cs, es, rfl, _⟩ := h
  rfl
 ·obtain ⟨p, c, e, F, s, cs, es, rfl, S, hc, he, lc, le, ic, ie, hlt, k⟩ := h
  have S' := S
  obtain ⟨W, dx, sz, sv, ks, ef, tu, ka, kr, h1, h2, h3, h4, R, dm⟩ := S'
  refine ⟨_, (pss_cons (ps_setLc (i := 4) rfl zi7.nd rfl rfl (sw_true rfl rfl rfl rfl) (pi_range1 rfl T.range (pa_cons (pln T.len (zd T.za.cl T.zk (pv 0) rfl)) pa_nil)) (own := [("n", 3)]) (blkOk_by (by kernel_rfl)) (fun _ _ _ _ _ => pg_name (i := 3) zi7.nd rfl (by simp_all?)) (fun _ _ _ _ _ => by exact pts_nil) (fun _ _ _ _ _ => by exact (zy1 T.za.cl T.zo3 zl7 (hr.mono (by decide)) (pv 0) (pa_cons (pv 1) (pa_cons (pv 2) (pa_cons (pv 3) (pa_cons (zg T.zs22) pa_nil)))))))
   (pss_cons (ps_expr (zg12 (zd T.za.cl T.zz1 (pv 0) rfl) (pv 4)))
   (pss_cons (ps_expr (zj1 T.za.cl T.zz3 zn4 (hr.mono (by decide)) (pv 0)))
   (pss_one (ps_ret (pe_op op_sub (pln T.len (zd T.za.cl T.zz1 (pv 0) rfl)) pe_int)))))), ?_⟩
  simp only [st_c, st_n, st_z]
  have c1 := W.cnt
  have hz := szL
  have hkl : (zi s).length = count s := by unfold zi; rw [List.length_map, zy]
  simp? []
  refine lcRo (n := count s) (fun D i H' => H' D = some (.lst (vI ((List.range i).map (effd s ⟨condsOf cs, effsOf es⟩)))) /\ Same H H')
   (fun R' h => by simp? only [h1, R.ks.2, List.length_map, hkl]; exact h) (by omega) (fun D hD => ⟨upd_same, Same.rfl'.new hD⟩) ?_ ?_
  ·rintro P1 hP1 D i H' hD hi ⟨e1, sm⟩
   simp? only [wipe, tYes, List.map_cons, List.map_nil, sm p _ h1]
   unfold zw10
   refine ⟨p, c, e, F, s, cs, es, i, -1, rfl, S.same sm, sm c _ hc, sm e _ he, lc, le, ic, ie, hi, fun H2 s2 => ?_⟩
   refine ⟨_, s2 D _ e1, by simp; omega, hP1 _ _ _ ⟨?_, (sm.trans s2).new hD⟩⟩
   rw [upd_same, zw29, zg8]
   rfl
  ·rintro D H1 hD ⟨e1, sm⟩
   obtain ⟨efs, f1, f2, f3⟩ := R.ef
   have hefD : ef ≠ D := ne_of_none f1 hD
   have hpD : p ≠ D := ne_of_none h1 hD
   simp? only [sm p _ h1, sm ef _ f1, List.length_map, f2]
   refine ⟨by omega, ?_⟩
   generalize hH2 : upd H1 ef _ = H2
   have sb2 : zc ef H H2 := by rw [<- hH2]; exact (zc.of sm).self
   have hp2 := sb2 p _ h1 h4.symm
   simp? only [hp2]
   unfold zl11
   refine ⟨p, dx, sz, sv, ks, ef, tu, ka, kr, _, _, _, _, rfl, hp2, fun H3 ka' kr' sb3 hp3 hka hkr hka3 hkr3 => ?_⟩
   have hef2 : H2 ef = some (.lst ((efs ++ [D]).map V.ref)) := by rw [<- hH2, upd_same, List.map_append]; rfl
   have hef3 := sb3 ef _ hef2 h4
   simp? only [hp3, hef3, List.length_map, List.length_append, List.length_cons, List.length_nil, f2]
   have keep : ∀ q o, H q = some o -> q ≠ p -> q ≠ ef -> H3 q = some o := fun q o h hq1 hq2 => sb3 q o (sb2 q o h hq2) hq1
   have free : ∀ q, H2 q = none -> H q = none := fun q hq => sb2.free hq hef2
   have newR : ∀ q o, H q = none -> H3 q = some o -> Gr F H H3 q /\ q ≠ p /\ q ≠ ef := fun q o e f => ⟨.inr ⟨e, o, f⟩, (fun z => by rw [z, h1] at e; cases e), fun z => by rw [z, f1] at e; cases e⟩
   have hD3 : H3 D = some (.lst (vI ((places s).map (effd s ⟨condsOf cs, effsOf es⟩)))) := sb3 D _ (by rw [<- hH2, upd_ne hefD.symm]; exact e1) hpD.symm
   have dm3 : ∀ q, Gr F H H3 q -> ∃ o, H3 q = some o := fun q hq => by
    rcases hq with hq | hq
    ·by_cases e : q = p
     ·rw [e]; exact ⟨_, hp3⟩
     ·by_cases e' : q = ef
      ·rw [e']; exact ⟨_, hef3⟩
      ·obtain ⟨o, ho⟩ := dm q hq; exact ⟨o, keep q o ho e e'⟩
    ·exact hq.2
   have sub : ∀ q, (F q /\ q ≠ p /\ q ≠ ef) -> (Gr F H H3 q /\ q ≠ p /\ q ≠ ef) := fun q hq => ⟨.inl hq.1, hq.2⟩
   have kp : ∀ q o, (F q /\ q ≠ p /\ q ≠ ef) -> H q = some o -> H3 q = some o := fun q o hq h => keep q o h hq.2.1 hq.2.2
   have key : zj T.za.C (Gr F H H3) H3 p (zd10 s ⟨condsOf cs, effsOf es⟩) := by
    refine ⟨⟨W.sz, W.len, W.cnt, W.fst, by show (s.actions ++ [_]).length <= 16; rw [List.length_append, List.length_singleton]; omega, W.nt, W.ng, W.nb⟩, dx, sz, sv, ks, ef, tu, ka', kr', hp3, .inl h2, .inl h3, h4, ?_, dm3⟩
    refine ⟨⟨sub _ R.sz.1, kp _ _ R.sz.1 R.sz.2⟩, (R.sv.same kp).sub sub, ⟨sub _ R.ks.1, kp _ _ R.ks.1 R.ks.2⟩, ⟨efs ++ [D], hef3, by show _ = (s.actions ++ [_]).length; simp [f2], fun a q hq => ?_⟩, ⟨sub _ R.tu.1, kp _ _ R.tu.1 R.tu.2⟩, .inl ⟨newR _ _ (free _ hka) hka3, hka3⟩, newR _ _ (free _ hkr) hkr3, .inl hkr3⟩
    by_cases hal : a < s.actions.length
    ·rw [List.getElem?_append_left (by omega)] at hq
     have eg : (zd10 s ⟨condsOf cs, effsOf es⟩).actions.getD a zb4 = s.actions.getD a zb4 := by
      show (s.actions ++ [_]).getD a zb4 = _
      rw [List.getD_eq_getElem?_getD, List.getElem?_append_left hal, List.getD_eq_getElem?_getD]
     rw [eg]
     exact ⟨sub _ (f3 a q hq).1, kp _ _ (f3 a q hq).1 (f3 a q hq).2⟩
    ·rw [List.getElem?_append_right (by omega)] at hq
     have hj0 : a - efs.length = 0 := by
      have := (List.getElem?_eq_some_iff.mp hq).1
      simp at this
      omega
     rw [hj0] at hq
     cases hq
     have ea : a = s.actions.length := by omega
     have eg : (zd10 s ⟨condsOf cs, effsOf es⟩).actions.getD a zb4 = ⟨condsOf cs, effsOf es⟩ := by
      show (s.actions ++ [_]).getD a zb4 = _
      rw [List.getD_eq_getElem?_getD, List.getElem?_append_right (by omega), ea, Nat.sub_self]
      rfl
     rw [eg]
     exact ⟨newR D _ hD hD3, hD3⟩
   have fin := k H3 (Gr F H H3) ⟨fun q o h hF => keep q o h (fun z => hF (z ▸ h2)) (fun z => hF (z ▸ h3)), Gr.grow⟩ key
   have ez : ((s.actions.length + 1 : Nat) : Int) - 1 = (s.actions.length : Int) := by omega
   first
    | exact fin
    | (rw [ez]; exact fin)
    | (simp only [Nat.zero_add] ; rw [ez]; exact fin)
noncomputable def zn25 (C : Addr) : Sp := fun vs H Q _ => ∃ (p c e : Addr) (F : Addr -> Prop) (s : Story) (cs es : List Int), vs = [.ref p, .ref c, .ref e] /\ zj C F H p s /\ H c = some (.lst (vI cs)) /\ H e = some (.lst (vI es)) /\ cs.length <= 24 /\ es.length <= 24 /\
 condsIn s.sizes cs = true /\ effsIn s.sizes es = true /\ s.turns.length < 8 /\
 ∀ H' F', Fr F H F' H' -> zj C F' H' p (zm9 s ⟨condsOf cs, effsOf es⟩) -> Q (.int s.turns.length) H'
theorem zr8 : FnScope ["self", "conditions", "effects", "n"] ["self", "conditions", "effects"] (defScope (inClass (top 74) 4)) := by simp_all? only
theorem zg15 {C p dx dx' sz sv ks ef tu ka kr ks' tu' ka' kr' : Addr} {F : Addr -> Prop} {H H3 : Hp} {s s' : Story} {fs : List (Str × V)} (W' : WfS s') (h1 : H p = some (.ins C dx fs)) (h2 : F p) (h3 : F ef) (h4 : ef ≠ p)
  (R : zn6 (fun q => F q /\ q ≠ p /\ q ≠ ef) H s sz sv ks ef tu ka kr) (dm : ∀ q, F q -> ∃ o, H q = some o) (sb : zc p H H3)
  (hp3 : H3 p = some (.ins C dx' (stF sz (encode s'.sizes s'.first) sv ks' ef tu' s'.turns.length s'.goods.length s'.bads.length ka' kr')))
  (hka : H ka' = none) (hkr : H kr' = none) (hka3 : H3 ka' = some (.lst [])) (hkr3 : H3 kr' = some (.lst [])) (ez : s'.sizes = s.sizes) (ea : s'.actions = s.actions)
  (hk : (ks' = ks /\ zi s' = zi s) \/ (H ks' = none /\ H3 ks' = some (.lst (vN (zi s'))))) (ht : (tu' = tu /\ (places s').map (zb2 s') = (places s).map (zb2 s)) \/ (H tu' = none /\ H3 tu' = some (.lst (vN ((places s').map (zb2 s')))))) :
  Fr F H (Gr F H H3) H3 /\ zj C (Gr F H H3) H3 p s' := by
 have ep : places s' = places s := by unfold places count; rw [ez]
 have sub : ∀ q, (F q /\ q ≠ p /\ q ≠ ef) -> (Gr F H H3 q /\ q ≠ p /\ q ≠ ef) := fun q hq => ⟨.inl hq.1, hq.2⟩
 have kp : ∀ q o, (F q /\ q ≠ p /\ q ≠ ef) -> H q = some o -> H3 q = some o := fun q o hq h => sb q o h hq.2.1
 have newR : ∀ q o, H q = none -> H3 q = some o -> Gr F H H3 q /\ q ≠ p /\ q ≠ ef := fun q o e f => ⟨.inr ⟨e, o, f⟩, (fun z => by rw [z, h1] at e; cases e), fun z => by obtain ⟨es, f1, _⟩ := R.ef; rw [z, f1] at e; cases e⟩
 refine ⟨⟨sb.out h2, Gr.grow⟩, W', dx', sz, sv, ks', ef, tu', ka', kr', hp3, .inl h2, .inl h3, h4, ⟨?_, ?_, ?_, ?_, ?_, .inl ⟨newR _ _ hka hka3, hka3⟩, newR _ _ hkr hkr3, .inl hkr3⟩, fun q hq => ?_⟩
 ·rw [ez]; exact ⟨sub _ R.sz.1, kp _ _ R.sz.1 R.sz.2⟩
 ·rw [ez, ep]; exact (R.sv.same kp).sub sub
 ·rcases hk with ⟨rfl, e⟩ | ⟨e1, e2⟩
  ·rw [e]; exact ⟨sub _ R.ks.1, kp _ _ R.ks.1 R.ks.2⟩
  ·exact ⟨newR _ _ e1 e2, e2⟩
 ·obtain ⟨es, f1, f2, f3⟩ := R.ef
  refine ⟨es, sb _ _ f1 h4, by rw [ea]; exact f2, fun a q hq => ?_⟩
  have ee : (places s').map (effd s' (s'.actions.getD a zb4)) = (places s).map (effd s (s.actions.getD a zb4)) := by
   rw [ep, ea]
   unfold effd
   rw [ez]
  rw [ee]
  exact ⟨sub _ (f3 a q hq).1, kp _ _ (f3 a q hq).1 (f3 a q hq).2⟩
 ·rcases ht with ⟨rfl, e⟩ | ⟨e1, e2⟩
  ·rw [e]; exact ⟨sub _ R.tu.1, kp _ _ R.tu.1 R.tu.2⟩
  ·exact ⟨newR _ _ e1 e2, e2⟩
 ·rcases hq with hq | hq
  ·by_cases e : q = p
   ·rw [e]; exact ⟨_, hp3⟩
   ·obtain ⟨o, ho⟩ := dm q hq; exact ⟨o, sb q o ho e⟩
  ·exact hq.2
theorem zf16 (T : Txt K mg) : FnOk P w K mg base CX0 4 T.zm5.f T.zm5.fd ["self", "conditions", "effects"] (zn25 T.za.C) := by
 have zl7 := @zb10 P w K mg base T
 have zn4 := @zn7 P w K mg base T
 refine T.zm5.F.ok zr8 (fun _ _ _ _ h => ?_) (fun _ _ _ _ H vs Q E hr h => ?_)
 ·obtain ⟨p, c, e, F, s, cs, es, rfl, _⟩ := h
  rfl
 ·obtain ⟨p, c, e, F, s, cs, es, rfl, S, hc, he, lc, le, ic, ie, hlt, k⟩ := h
  have S' := S
  obtain ⟨W, dx, sz, sv, ks, ef, tu, ka, kr, h1, h2, h3, h4, R, dm⟩ := S'
  refine ⟨_, (pss_cons (zg2 T.za.cl T.zl4 (pv 0) (pe_lc rfl zr8.nd (pi_list (zd T.za.cl T.zl4 (pv 0) rfl)) (own := [("n", 3)]) (blkOk_by (by kernel_rfl)) (fun _ _ _ _ _ => pg_name (i := 3) zr8.nd rfl (by simp_all?)) (fun _ _ _ _ _ => by exact pts_nil) (fun _ _ _ _ _ => by exact (zy1 T.za.cl T.zo3 zl7 (hr.mono (by decide)) (pv 0) (pa_cons (pv 1) (pa_cons (pv 2) (pa_cons (pv 3) (pa_cons (pv 3) pa_nil))))))) rfl)
   (pss_cons (ps_expr (zj1 T.za.cl T.zz3 zn4 (hr.mono (by decide)) (pv 0)))
   (pss_cons (zg2 T.za.cl T.zt2 (pv 0) (pe_op op_add (zd T.za.cl T.zt2 (pv 0) rfl) pe_int) rfl)
   (pss_one (ps_ret (pe_op op_sub (zd T.za.cl T.zt2 (pv 0) rfl) pe_int)))))), ?_⟩
  simp only [st_c, st_n, st_z]
  have c1 := W.cnt
  have hz := szL
  have pl := zy s
  simp? []
  refine lcLo (xs := vN ((places s).map (zb2 s))) (a := tu) (H1 := H) (fun D i H' => H' D = some (.lst (vN (((places s).take i).map (zb2 (zm9 s ⟨condsOf cs, effsOf es⟩))))) /\ Same H H')
   (fun R' h => by simp? only [h1]; exact h) (fun D hD => ⟨upd_same, Same.rfl'.new hD⟩) (SqL.of R.tu.2) (fun D i H' _ _ ⟨_, sm⟩ => SqL.of (sm _ _ R.tu.2)) ?_ ?_
  ·rintro P1 hP1 D i x H' hD hx ⟨e1, sm⟩
   obtain ⟨rfl, hi⟩ := zi5 hx
   rw [List.length_map, pl] at hi
   rw [zf1 hi]
   simp? only [wipe, tYes, List.map_cons, List.map_nil, sm p _ h1]
   unfold zw10
   refine ⟨p, c, e, F, s, cs, es, zb2 s i, zb2 s i, rfl, S.same sm, sm c _ hc, sm e _ he, lc, le, ic, ie, zv16 W i, fun H2 s2 => ?_⟩
   refine ⟨_, s2 D _ e1, by simp; omega, hP1 _ _ _ ⟨?_, (sm.trans s2).new hD⟩⟩
   rw [upd_same, <- zv22 W ⟨condsOf cs, effsOf es⟩ i, zn3 _ (by omega), Int.toNat_natCast, zr11 (by omega)]
   have : (places s).getD i 0 = i := by unfold places; rw [List.getD_eq_getElem?_getD, List.getElem?_range hi]; rfl
   rw [this]
  ·rintro D H1 hD ⟨e1, sm⟩
   have hpD : p ≠ D := ne_of_none h1 hD
   rw [List.length_map, List.length_map, List.take_length] at e1
   simp? only [sm p _ h1]
   generalize hH2 : upd H1 p _ = H2
   have sb2 : zc p H H2 := by rw [<- hH2]; exact (zc.of sm).self
   have hp2 : H2 p = some (.ins T.za.C dx (stF sz (encode s.sizes s.first) sv ks ef D s.turns.length s.goods.length s.bads.length ka kr)) := by rw [<- hH2]; exact upd_same
   simp? only [hp2]
   unfold zl11
   refine ⟨p, dx, sz, sv, ks, ef, D, ka, kr, _, _, _, _, rfl, hp2, fun H3 ka' kr' sb3 hp3 hka hkr hka3 hkr3 => ?_⟩
   have ec : ((s.turns.length : Int) + 1) = ((s.turns.length + 1 : Nat) : Int) := by omega
   simp? only [hp3, ec]
   generalize hH4 : upd H3 p _ = H4
   have hp4 : H4 p = some (.ins T.za.C dx (stF sz (encode s.sizes s.first) sv ks ef D (s.turns.length + 1) s.goods.length s.bads.length ka' kr')) := by rw [<- hH4]; exact upd_same
   have sb4 : zc p H H4 := (sb2.trans sb3).trans (by rw [<- hH4]; exact (zc.of Same.rfl').self)
   have hkp : ∀ q o, q ≠ p -> H3 q = some o -> H4 q = some o := fun q o hq h => by rw [<- hH4, upd_ne hq]; exact h
   have n1 : H ka' = none := sb2.free hka hp2
   have n2 : H kr' = none := sb2.free hkr hp2
   have hD4 : H4 D = some (.lst (vN ((places s).map (zb2 (zm9 s ⟨condsOf cs, effsOf es⟩))))) := hkp _ _ hpD.symm (sb3 D _ (by rw [<- hH2, upd_ne hpD.symm]; exact e1) hpD.symm)
   obtain ⟨fr, key⟩ := zg15 (s' := zm9 s ⟨condsOf cs, effsOf es⟩) ⟨W.sz, W.len, W.cnt, W.fst, W.na, by show (s.turns ++ [_]).length <= 8; rw [List.length_append, List.length_singleton]; omega, W.ng, W.nb⟩ h1 h2 h3 h4 R dm sb4
    (dx' := dx) (ks' := ks) (tu' := D) (ka' := ka') (kr' := kr') (by rw [hp4]; show _ = some (HO.ins _ _ (stF _ _ _ _ _ _ (s.turns ++ [_]).length _ _ _ _)); rw [List.length_append, List.length_singleton]; rfl) n1 n2 (hkp _ _ (ne_of_none h1 n1).symm hka3) (hkp _ _ (ne_of_none h1 n2).symm hkr3) rfl rfl (.inl ⟨rfl, rfl⟩) (.inr ⟨hD, hD4⟩)
   simp? only [hp4]
   have fin := k H4 _ fr key
   have ez : ((s.turns.length + 1 : Nat) : Int) - 1 = (s.turns.length : Int) := by omega
   rw [ez]
   exact fin
noncomputable def ze10 (C : Addr) (v : Nat -> Nat -> Bool -> Nat) : Sp := fun vs H Q _ => ∃ (p c : Addr) (F : Addr -> Prop) (s : Story) (cs : List Int) (n : Nat), vs = [.ref p, .ref c, .int n] /\ zj C F H p s /\ H c = some (.lst (vI cs)) /\ cs.length <= 24 /\
 condsIn s.sizes cs = true /\ n < count s /\ Q (.int (v (zh s n) n (Vbtaai.holds (condsOf cs) (decode s.sizes n)) : Nat)) H
theorem zt12 : FnScope ["self", "conditions", "n"] ["self", "conditions", "n"] (defScope (inClass (top 74) 5)) := by simp_all? only
theorem zu12 (T : Txt K mg) : FnOk P w K mg base CX0 3 T.zt3.f T.zt3.fd ["self", "conditions", "n"] (ze10 T.za.C fun k _ b => if k ≠ 2 /\ b = true then 1 else k) := by
 have zc5 := @zx7 P w K mg base T
 refine T.zt3.F.ok zt12 (fun _ _ _ _ h => ?_) (fun _ _ _ _ H vs Q E hr h => ?_)
 ·obtain ⟨p, c, F, s, cs, n, rfl, _⟩ := h
  rfl
 ·obtain ⟨p, c, F, s, cs, n, rfl, ⟨W, dx, sz, sv, ks, ef, tu, ka, kr, h1, h2, h3, h4, R, dm⟩, hc, lc, ic, hn, k⟩ := h
  refine ⟨_, (pss_cons (ps_if (pw_and (pt_cmpR op_ne (pix (zd T.za.cl T.zk (pv 0) rfl) (pv 2)) (zg T.zw15) (nomark _)) (pw_and1 (pt_val (zm T.zg4 zc5 (hr.mono (by decide)) (pa_cons (pv 1) (pa_cons (pix (zd T.za.cl T.zs1 (pv 0) rfl) (pv 2)) pa_nil)))))).pt (pss_one (ps_ret (zg T.zi10))) pss_nil)
   (pss_one (ps_ret (pix (zd T.za.cl T.zk (pv 0) rfl) (pv 2))))), ?_⟩
  simp only [st_c, st_n, st_z]
  obtain ⟨vs, q, g1, g2, g3, g4, g5⟩ := R.sv.get (i := n) (by rw [List.length_map, zy]; exact hn)
  rw [zf1 hn] at g5
  have hl := zw7 (zq3 n W.pos)
  have e1 := atN (l := zi s) (i := n) (by unfold zi; rw [List.length_map, zy]; exact hn)
  rw [show (zi s).getD n 0 = zh s n from zf1 hn] at e1
  have kk : ∀ b : Int, b = ((if zh s n ≠ 2 /\ Vbtaai.holds (condsOf cs) (decode s.sizes n) = true then 1 else zh s n : Nat) : Int) -> Q (V.int b) H := fun b e => e ▸ k
  simp? only [h1, R.ks.2, e1]
  split
  ·rename_i h0
   simp? only [h1, R.ks.2, e1]
   refine kk _ ?_
   rw [if_neg fun z => z.1 (by omega)]
  ·rename_i h0
   simp? only [h1, g1, g2]
   unfold zv5
   refine ⟨c, q, cs, _, s.sizes, rfl, hc, g5, zz12 (sz := []) lc, ic, hl, ?_⟩
   simp? []
   split
   ·rename_i hb
    refine kk _ ?_
    rw [if_pos ⟨by omega, hb⟩]
    rfl
   ·rename_i hb
    simp? only [h1, R.ks.2, e1]
    refine kk _ ?_
    rw [if_neg fun z => hb z.2]
theorem zk13 : FnScope ["self", "conditions", "n"] ["self", "conditions", "n"] (defScope (inClass (top 74) 7)) := by simp_all? only
theorem zl13 (T : Txt K mg) : FnOk P w K mg base CX0 3 T.za4.f T.za4.fd ["self", "conditions", "n"] (ze10 T.za.C fun k _ b => if b = true then 2 else k) := by
 have zc5 := @zx7 P w K mg base T
 refine T.za4.F.ok zk13 (fun _ _ _ _ h => ?_) (fun _ _ _ _ H vs Q E hr h => ?_)
 ·obtain ⟨p, c, F, s, cs, n, rfl, _⟩ := h
  rfl
 ·obtain ⟨p, c, F, s, cs, n, rfl, ⟨W, dx, sz, sv, ks, ef, tu, ka, kr, h1, h2, h3, h4, R, dm⟩, hc, lc, ic, hn, k⟩ := h
  refine ⟨_, (pss_cons (ps_if (pt_val (zm T.zg4 zc5 (hr.mono (by decide)) (pa_cons (pv 1) (pa_cons (pix (zd T.za.cl T.zs1 (pv 0) rfl) (pv 2)) pa_nil)))) (pss_one (ps_ret (zg T.zw15))) pss_nil)
   (pss_one (ps_ret (pix (zd T.za.cl T.zk (pv 0) rfl) (pv 2))))), ?_⟩
  simp only [st_c, st_n, st_z]
  obtain ⟨vs, q, g1, g2, g3, g4, g5⟩ := R.sv.get (i := n) (by rw [List.length_map, zy]; exact hn)
  rw [zf1 hn] at g5
  have hl := zw7 (zq3 n W.pos)
  have e1 := atN (l := zi s) (i := n) (by unfold zi; rw [List.length_map, zy]; exact hn)
  rw [show (zi s).getD n 0 = zh s n from zf1 hn] at e1
  have kk : ∀ b : Int, b = ((if Vbtaai.holds (condsOf cs) (decode s.sizes n) = true then 2 else zh s n : Nat) : Int) -> Q (V.int b) H := fun b e => e ▸ k
  simp? only [h1, g1, g2]
  unfold zv5
  refine ⟨c, q, cs, _, s.sizes, rfl, hc, g5, zz12 (sz := []) lc, ic, hl, ?_⟩
  simp? []
  split
  ·rename_i hb
   refine kk _ ?_
   rw [if_pos hb]
   rfl
  ·rename_i hb
   simp? only [h1, R.ks.2, e1]
   refine kk _ ?_
   rw [if_neg hb]
noncomputable def zm19 (C : Addr) (cnt : Story -> Nat) (f : Story -> List Vbtaai.Cond -> Story) : Sp := fun vs H Q _ => ∃ (p c : Addr) (F : Addr -> Prop) (s : Story) (cs : List Int), vs = [.ref p, .ref c] /\ zj C F H p s /\ H c = some (.lst (vI cs)) /\ cs.length <= 24 /\
 condsIn s.sizes cs = true /\ cnt s < 4 /\ ∀ H' F', Fr F H F' H' -> zj C F' H' p (f s (condsOf cs)) -> Q (.int (cnt s)) H'
theorem zs8 : FnScope ["self", "conditions", "n"] ["self", "conditions"] (defScope (inClass (top 74) 6)) := by simp_all? only
theorem zg16 (T : Txt K mg) : FnOk P w K mg base CX0 4 T.zn5.f T.zn5.fd ["self", "conditions"] (zm19 T.za.C (fun s => s.goods.length) za8) := by
 have zo13 := @zu12 P w K mg base T
 have zn4 := @zn7 P w K mg base T
 refine T.zn5.F.ok zs8 (fun _ _ _ _ h => ?_) (fun _ _ _ _ H vs Q E hr h => ?_)
 ·obtain ⟨p, c, F, s, cs, rfl, _⟩ := h
  rfl
 ·obtain ⟨p, c, F, s, cs, rfl, S, hc, lc, ic, hlt, k⟩ := h
  have S' := S
  obtain ⟨W, dx, sz, sv, ks, ef, tu, ka, kr, h1, h2, h3, h4, R, dm⟩ := S'
  refine ⟨_, (pss_cons (zg2 T.za.cl T.zk (pv 0) (pe_lc rfl zs8.nd (pi_range1 rfl T.range (pa_cons (pln T.len (zd T.za.cl T.zk (pv 0) rfl)) pa_nil)) (own := [("n", 2)]) (blkOk_by (by kernel_rfl)) (fun _ _ _ _ _ => pg_name (i := 2) zs8.nd rfl (by simp_all?)) (fun _ _ _ _ _ => by exact pts_nil) (fun _ _ _ _ _ => by exact (zy1 T.za.cl T.zt3 zo13 (hr.mono (by decide)) (pv 0) (pa_cons (pv 1) (pa_cons (pv 2) pa_nil))))) rfl)
   (pss_cons (ps_expr (zj1 T.za.cl T.zz3 zn4 (hr.mono (by decide)) (pv 0)))
   (pss_cons (zg2 T.za.cl T.zu2 (pv 0) (pe_op op_add (zd T.za.cl T.zu2 (pv 0) rfl) pe_int) rfl)
   (pss_one (ps_ret (pe_op op_sub (zd T.za.cl T.zu2 (pv 0) rfl) pe_int)))))), ?_⟩
  simp only [st_c, st_n, st_z]
  have hlt : s.goods.length < 4 := hlt
  have c1 := W.cnt
  have hz := szL
  have hkl : (zi s).length = count s := by unfold zi; rw [List.length_map, zy]
  simp? []
  refine lcRo (n := count s) (fun D i H' => H' = upd H D (.lst (vN ((List.range i).map (zh (za8 s (condsOf cs)))))))
   (fun R' h => by simp? only [h1, R.ks.2, List.length_map, hkl]; exact h) (by omega) (fun D hD => rfl) ?_ ?_
  ·rintro P1 hP1 D i H' hD hi rfl
   have hpD : p ≠ D := ne_of_none h1 hD
   have sm : Same H (upd H D (.lst (vN ((List.range i).map (zh (za8 s (condsOf cs))))))) := Same.rfl'.new hD
   simp? only [wipe, tYes, List.map_cons, List.map_nil, upd_ne hpD, h1]
   unfold ze10
   refine ⟨p, c, F, s, cs, i, rfl, S.same sm, sm c _ hc, lc, ic, hi, _, upd_same, by simp; omega, hP1 _ _ _ ?_⟩
   simp? []
   rw [upd_upd, zn3 _ (by omega), Int.toNat_natCast, zg8, zm25]
  ·rintro D H1 hD rfl
   have hpD : p ≠ D := ne_of_none h1 hD
   simp? only [upd_ne hpD, h1]
   generalize hH2 : upd (upd H D _) p _ = H2
   have sb2 : zc p H H2 := by rw [<- hH2]; exact ((zc.of Same.rfl').new hD).self
   have hp2 : H2 p = some (.ins T.za.C dx (stF sz (encode s.sizes s.first) sv D ef tu s.turns.length s.goods.length s.bads.length ka kr)) := by rw [<- hH2]; exact upd_same
   simp? only [hp2]
   unfold zl11
   refine ⟨p, dx, sz, sv, D, ef, tu, ka, kr, _, _, _, _, rfl, hp2, fun H3 ka' kr' sb3 hp3 hka hkr hka3 hkr3 => ?_⟩
   have ec : ((s.goods.length : Int) + 1) = ((s.goods.length + 1 : Nat) : Int) := by omega
   simp? only [hp3, ec]
   generalize hH4 : upd H3 p _ = H4
   have hp4 : H4 p = some (.ins T.za.C dx (stF sz (encode s.sizes s.first) sv D ef tu s.turns.length (s.goods.length + 1) s.bads.length ka' kr')) := by rw [<- hH4]; exact upd_same
   have sb4 : zc p H H4 := (sb2.trans sb3).trans (by rw [<- hH4]; exact (zc.of Same.rfl').self)
   have hkp : ∀ q o, q ≠ p -> H3 q = some o -> H4 q = some o := fun q o hq h => by rw [<- hH4, upd_ne hq]; exact h
   have n1 : H ka' = none := sb2.free hka hp2
   have n2 : H kr' = none := sb2.free hkr hp2
   have hD4 : H4 D = some (.lst (vN (zi (za8 s (condsOf cs))))) := hkp _ _ hpD.symm (sb3 D _ (by rw [<- hH2, upd_ne hpD.symm, upd_same]; rfl) hpD.symm)
   obtain ⟨fr, key⟩ := zg15 (s' := za8 s (condsOf cs)) ⟨W.sz, W.len, W.cnt, W.fst, W.na, W.nt, by show (s.goods ++ [_]).length <= 4; rw [List.length_append, List.length_singleton]; omega, W.nb⟩ h1 h2 h3 h4 R dm sb4
    (dx' := dx) (ks' := D) (tu' := tu) (ka' := ka') (kr' := kr') (by rw [hp4]; show _ = some (HO.ins _ _ (stF _ _ _ _ _ _ _ (s.goods ++ [_]).length _ _ _)); rw [List.length_append, List.length_singleton]; rfl) n1 n2 (hkp _ _ (ne_of_none h1 n1).symm hka3) (hkp _ _ (ne_of_none h1 n2).symm hkr3) rfl rfl (.inr ⟨hD, hD4⟩) (.inl ⟨rfl, rfl⟩)
   simp? only [hp4]
   have fin := k H4 _ fr key
   have ez : ((s.goods.length + 1 : Nat) : Int) - 1 = (s.goods.length : Int) := by omega
   rw [ez]
   exact fin
theorem zn9 : FnScope ["self", "conditions", "n"] ["self", "conditions"] (defScope (inClass (top 74) 8)) := by simp_all? only
theorem zs17 (T : Txt K mg) : FnOk P w K mg base CX0 4 T.zz5.f T.zz5.fd ["self", "conditions"] (zm19 T.za.C (fun s => s.bads.length) zs9) := by
 have zc14 := @zl13 P w K mg base T
 have zn4 := @zn7 P w K mg base T
 refine T.zz5.F.ok zn9 (fun _ _ _ _ h => ?_) (fun _ _ _ _ H vs Q E hr h => ?_)
 ·obtain ⟨p, c, F, s, cs, rfl, _⟩ := h
  rfl
 ·obtain ⟨p, c, F, s, cs, rfl, S, hc, lc, ic, hlt, k⟩ := h
  have S' := S
  obtain ⟨W, dx, sz, sv, ks, ef, tu, ka, kr, h1, h2, h3, h4, R, dm⟩ := S'
  refine ⟨_, (pss_cons (zg2 T.za.cl T.zk (pv 0) (pe_lc rfl zn9.nd (pi_range1 rfl T.range (pa_cons (pln T.len (zd T.za.cl T.zk (pv 0) rfl)) pa_nil)) (own := [("n", 2)]) (blkOk_by (by kernel_rfl)) (fun _ _ _ _ _ => pg_name (i := 2) zn9.nd rfl (by simp_all?)) (fun _ _ _ _ _ => by exact pts_nil) (fun _ _ _ _ _ => by exact (zy1 T.za.cl T.za4 zc14 (hr.mono (by decide)) (pv 0) (pa_cons (pv 1) (pa_cons (pv 2) pa_nil))))) rfl)
   (pss_cons (ps_expr (zj1 T.za.cl T.zz3 zn4 (hr.mono (by decide)) (pv 0)))
   (pss_cons (zg2 T.za.cl T.zc3 (pv 0) (pe_op op_add (zd T.za.cl T.zc3 (pv 0) rfl) pe_int) rfl)
   (pss_one (ps_ret (pe_op op_sub (zd T.za.cl T.zc3 (pv 0) rfl) pe_int)))))), ?_⟩
  simp only [st_c, st_n, st_z]
  have hlt : s.bads.length < 4 := hlt
  have c1 := W.cnt
  have hz := szL
  have hkl : (zi s).length = count s := by unfold zi; rw [List.length_map, zy]
  simp? []
  refine lcRo (n := count s) (fun D i H' => H' = upd H D (.lst (vN ((List.range i).map (zh (zs9 s (condsOf cs)))))))
   (fun R' h => by simp? only [h1, R.ks.2, List.length_map, hkl]; exact h) (by omega) (fun D hD => rfl) ?_ ?_
  ·rintro P1 hP1 D i H' hD hi rfl
   have hpD : p ≠ D := ne_of_none h1 hD
   have sm : Same H (upd H D (.lst (vN ((List.range i).map (zh (zs9 s (condsOf cs))))))) := Same.rfl'.new hD
   simp? only [wipe, tYes, List.map_cons, List.map_nil, upd_ne hpD, h1]
   unfold ze10
   refine ⟨p, c, F, s, cs, i, rfl, S.same sm, sm c _ hc, lc, ic, hi, _, upd_same, by simp; omega, hP1 _ _ _ ?_⟩
   simp? []
   rw [upd_upd, zn3 _ (by omega), Int.toNat_natCast, zg8, zd27]
  ·rintro D H1 hD rfl
   have hpD : p ≠ D := ne_of_none h1 hD
   simp? only [upd_ne hpD, h1]
   generalize hH2 : upd (upd H D _) p _ = H2
   have sb2 : zc p H H2 := by rw [<- hH2]; exact ((zc.of Same.rfl').new hD).self
   have hp2 : H2 p = some (.ins T.za.C dx (stF sz (encode s.sizes s.first) sv D ef tu s.turns.length s.goods.length s.bads.length ka kr)) := by rw [<- hH2]; exact upd_same
   simp? only [hp2]
   unfold zl11
   refine ⟨p, dx, sz, sv, D, ef, tu, ka, kr, _, _, _, _, rfl, hp2, fun H3 ka' kr' sb3 hp3 hka hkr hka3 hkr3 => ?_⟩
   have ec : ((s.bads.length : Int) + 1) = ((s.bads.length + 1 : Nat) : Int) := by omega
   simp? only [hp3, ec]
   generalize hH4 : upd H3 p _ = H4
   have hp4 : H4 p = some (.ins T.za.C dx (stF sz (encode s.sizes s.first) sv D ef tu s.turns.length s.goods.length (s.bads.length + 1) ka' kr')) := by rw [<- hH4]; exact upd_same
   have sb4 : zc p H H4 := (sb2.trans sb3).trans (by rw [<- hH4]; exact (zc.of Same.rfl').self)
   have hkp : ∀ q o, q ≠ p -> H3 q = some o -> H4 q = some o := fun q o hq h => by rw [<- hH4, upd_ne hq]; exact h
   have n1 : H ka' = none := sb2.free hka hp2
   have n2 : H kr' = none := sb2.free hkr hp2
   have hD4 : H4 D = some (.lst (vN (zi (zs9 s (condsOf cs))))) := hkp _ _ hpD.symm (sb3 D _ (by rw [<- hH2, upd_ne hpD.symm, upd_same]; rfl) hpD.symm)
   obtain ⟨fr, key⟩ := zg15 (s' := zs9 s (condsOf cs)) ⟨W.sz, W.len, W.cnt, W.fst, W.na, W.nt, W.ng, by show (s.bads ++ [_]).length <= 4; rw [List.length_append, List.length_singleton]; omega⟩ h1 h2 h3 h4 R dm sb4
    (dx' := dx) (ks' := D) (tu' := tu) (ka' := ka') (kr' := kr') (by rw [hp4]; show _ = some (HO.ins _ _ (stF _ _ _ _ _ _ _ _ (s.bads ++ [_]).length _ _)); rw [List.length_append, List.length_singleton]; rfl) n1 n2 (hkp _ _ (ne_of_none h1 n1).symm hka3) (hkp _ _ (ne_of_none h1 n2).symm hkr3) rfl rfl (.inr ⟨hD, hD4⟩) (.inl ⟨rfl, rfl⟩)
   simp? only [hp4]
   have fin := k H4 _ fr key
   have ez : ((s.bads.length + 1 : Nat) : Int) - 1 = (s.bads.length : Int) := by omega
   rw [ez]
   exact fin
end
section
variable {P : Program} {w : World} {K : W.Frag} {mg : Str -> Option Value} {base : Heap}
open Vbtaai (places decode encode count told)
section
variable {v1 v2 v3 v4 v5 v6 v7 v8 v9 v10 v11 : V}
theorem pf1 : putF "sizes" v1 ([] : List (Str × V)) = ([("sizes", v1)] : List (Str × V)) := rfl
theorem pf2 : putF "first" v2 ([("sizes", v1)] : List (Str × V)) = ([("sizes", v1), ("first", v2)] : List (Str × V)) := rfl
theorem pf3 : putF "state_values" v3 ([("sizes", v1), ("first", v2)] : List (Str × V)) = ([("sizes", v1), ("first", v2), ("state_values", v3)] : List (Str × V)) := rfl
theorem pf4 : putF "kinds" v4 ([("sizes", v1), ("first", v2), ("state_values", v3)] : List (Str × V)) = ([("sizes", v1), ("first", v2), ("state_values", v3), ("kinds", v4)] : List (Str × V)) := rfl
theorem pf5 : putF "effected" v5 ([("sizes", v1), ("first", v2), ("state_values", v3), ("kinds", v4)] : List (Str × V)) = ([("sizes", v1), ("first", v2), ("state_values", v3), ("kinds", v4), ("effected", v5)] : List (Str × V)) := rfl
theorem pf6 : putF "turned" v6 ([("sizes", v1), ("first", v2), ("state_values", v3), ("kinds", v4), ("effected", v5)] : List (Str × V)) = ([("sizes", v1), ("first", v2), ("state_values", v3), ("kinds", v4), ("effected", v5), ("turned", v6)] : List (Str × V)) := rfl
theorem pf7 : putF "turn_count" v7 ([("sizes", v1), ("first", v2), ("state_values", v3), ("kinds", v4), ("effected", v5), ("turned", v6)] : List (Str × V)) = ([("sizes", v1), ("first", v2), ("state_values", v3), ("kinds", v4), ("effected", v5), ("turned", v6), ("turn_count", v7)] : List (Str × V)) := rfl
theorem pf8 : putF "good_count" v8 ([("sizes", v1), ("first", v2), ("state_values", v3), ("kinds", v4), ("effected", v5), ("turned", v6), ("turn_count", v7)] : List (Str × V)) = ([("sizes", v1), ("first", v2), ("state_values", v3), ("kinds", v4), ("effected", v5), ("turned", v6), ("turn_count", v7), ("good_count", v8)] : List (Str × V)) := rfl
theorem pf9 : putF "bad_count" v9 ([("sizes", v1), ("first", v2), ("state_values", v3), ("kinds", v4), ("effected", v5), ("turned", v6), ("turn_count", v7), ("good_count", v8)] : List (Str × V)) = ([("sizes", v1), ("first", v2), ("state_values", v3), ("kinds", v4), ("effected", v5), ("turned", v6), ("turn_count", v7), ("good_count", v8), ("bad_count", v9)] : List (Str × V)) := rfl
theorem pf10 : putF "known_ahead" v10 ([("sizes", v1), ("first", v2), ("state_values", v3), ("kinds", v4), ("effected", v5), ("turned", v6), ("turn_count", v7), ("good_count", v8), ("bad_count", v9)] : List (Str × V)) = ([("sizes", v1), ("first", v2), ("state_values", v3), ("kinds", v4), ("effected", v5), ("turned", v6), ("turn_count", v7), ("good_count", v8), ("bad_count", v9), ("known_ahead", v10)] : List (Str × V)) := rfl
theorem pf11 : putF "known_ranks" v11 ([("sizes", v1), ("first", v2), ("state_values", v3), ("kinds", v4), ("effected", v5), ("turned", v6), ("turn_count", v7), ("good_count", v8), ("bad_count", v9), ("known_ahead", v10)] : List (Str × V)) = ([("sizes", v1), ("first", v2), ("state_values", v3), ("kinds", v4), ("effected", v5), ("turned", v6), ("turn_count", v7), ("good_count", v8), ("bad_count", v9), ("known_ahead", v10), ("known_ranks", v11)] : List (Str × V)) := rfl
end
theorem ze31 {H : Hp} {x q : Addr} {o u v : HO} (hx : H x = some v) (hq : H q = none) : zc x H (upd (upd H q o) x u) /\ upd (upd H q o) x u x = some u /\ upd (upd H q o) x u q = some o /\ q ≠ x := by
 have hne : q ≠ x := (ne_of_none hx hq).symm
 exact ⟨((zc.of Same.rfl').new hq).self, upd_same, by rw [upd_ne hne, upd_same], hne⟩
noncomputable def zx22 (C : Addr) : Sp := fun vs H Q _ => ∃ (x dx a b : Addr) (s : Story), vs = [.ref x, .ref a, .ref b] /\ H x = some (.ins C dx []) /\ H a = some (.lst (vN s.sizes)) /\ H b = some (.lst (vN s.first)) /\ WfS s /\ s.actions = [] /\ s.turns = [] /\ s.goods = [] /\ s.bads = [] /\
 ∀ H' F', zc x H H' -> (∀ q, F' q -> q = x \/ H q = none) -> zj C F' H' x s -> Q .non H'
theorem zg6 : FnScope ["self", "sizes", "first_values", "total", "n"] ["self", "sizes", "first_values"] (defScope (inClass (top 74) 0)) := by simp_all? only
theorem ze27 {s : Story} (h1 : s.goods = []) (h2 : s.bads = []) : zi s = List.replicate (count s) 0 := by
 have e : zh s = fun _ => 0 := by
  funext n
  unfold zh Vbtaai.ending
  rw [h1, h2]
  rfl
 unfold zi places
 rw [e, List.map_const', List.length_range]
theorem zo25 {s : Story} (W : WfS s) (h1 : s.turns = []) : (places s).map (zb2 s) = List.range (count s) := by
 have : ∀ n ∈ places s, zb2 s n = n := fun n hn => by
  unfold zb2
  rw [h1]
  exact zq11 W.pos (List.mem_range.mp hn)
 rw [List.map_congr_left this, List.map_id']
 rfl
theorem zs11 (T : Txt K mg) : FnOk P w K mg base CX0 2 T.zk4.f T.zk4.fd ["self", "sizes", "first_values"] (zx22 T.za.C) := by
 have zv8 := @zj11 P w K mg base T
 have zn13 := @ze15 P w K mg base T
 have zx25 := @zh24 P w K mg base T
 refine T.zk4.F.ok zg6 (fun _ _ _ _ h => ?_) (fun _ _ _ _ H vs Q E hr h => ?_)
 ·obtain ⟨x, dx, a, b, s, rfl, _⟩ := h
  rfl
 ·obtain ⟨x, dx, a, b, s, rfl, hx, ha, hb, W, na, nt, ng, nb, k⟩ := h
  refine ⟨_, (pss_cons (ps_set (i := 3) zg6.nd rfl (by simp_all?) (zm T.zy4 zv8 (hr.mono (by decide)) (pa_cons (pv 1) pa_nil)))
   (pss_cons (zg2 T.za.cl T.zk1 (pv 0) (pe_callTy zh19 (by rfl) T.list boot_list (pa_cons (pv 1) pa_nil)) rfl)
   (pss_cons (zg2 T.za.cl T.zw4 (pv 0) (zm T.zz8 zn13 (hr.mono (by decide)) (pa_cons (pv 1) (pa_cons (pv 2) pa_nil))) rfl)
   (pss_cons (zg2 T.za.cl T.zs1 (pv 0) (pe_lc rfl zg6.nd (pi_range1 rfl T.range (pa_cons (pv 3) pa_nil)) (own := [("n", 4)]) (blkOk_by (by kernel_rfl)) (fun _ _ _ _ _ => pg_name (i := 4) zg6.nd rfl (by simp_all?)) (fun _ _ _ _ _ => by exact pts_nil) (fun _ _ _ _ _ => by exact (zm T.zc11 zx25 (hr.mono (by decide)) (pa_cons (pv 1) (pa_cons (pv 4) pa_nil))))) rfl)
   (pss_cons (zg2 T.za.cl T.zk (pv 0) (pe_op op_rep (pe_lst (pa_cons (zg T.ze13) pa_nil)) (pv 3)) rfl)
   (pss_cons (zg2 T.za.cl T.zz1 (pv 0) (pe_lst pa_nil) rfl)
   (pss_cons (zg2 T.za.cl T.zl4 (pv 0) (pe_callTy (zw26 rfl) (by rfl) T.list boot_list (pa_cons (pe_callTy zk25 (by rfl) T.range boot_range (pa_cons (pv 3) pa_nil)) pa_nil)) rfl)
   (pss_cons (zg2 T.za.cl T.zt2 (pv 0) pe_int rfl)
   (pss_cons (zg2 T.za.cl T.zu2 (pv 0) pe_int rfl)
   (pss_cons (zg2 T.za.cl T.zc3 (pv 0) pe_int rfl)
   (pss_cons (zg2 T.za.cl T.zp2 (pv 0) (pe_lst pa_nil) rfl)
   (pss_one (zg2 T.za.cl T.zq2 (pv 0) (pe_lst pa_nil) rfl))))))))))))), ?_⟩
  simp only [st_c, st_n, st_z]
  have c1 := W.cnt
  have hz := szL
  have h8 : ∀ z ∈ s.sizes, z <= 8 := fun z hz => (W.sz z hz).2
  have h18 : ∀ z ∈ s.sizes, 0 < z /\ z <= 8 := fun z hz => ⟨W.pos z hz, h8 z hz⟩
  have hax : a ≠ x := ne_of ha hx (by intro z; cases z)
  have hbx : b ≠ x := ne_of hb hx (by intro z; cases z)
  have hsl := W.len
  simp? []
  unfold zy7
  refine ⟨a, s.sizes, rfl, ha, h8, ?_⟩
  simp? []
  have ecount : Vbtaai.product s.sizes = count s := rfl
  rw [ecount]
  simp? only [ha]
  intro a1 n1
  simp? only [upd_ne (ne_of_none hx n1), hx, pf1, List.length_nil, show (0 : Nat) < 1000 by decide]
  obtain ⟨sA, xA, iA, neA⟩ := ze31 (o := .lst (vN s.sizes)) (u := .ins T.za.C dx [("sizes", .ref a1)]) hx n1
  generalize upd (upd H a1 (.lst (vN s.sizes))) x (.ins T.za.C dx [("sizes", .ref a1)]) = HA at sA xA iA ⊢
  simp? []
  unfold zk12
  refine ⟨a, b, s.sizes, s.first, rfl, sA a _ ha hax, sA b _ hb hbx, by omega, W.fst, h8, ?_⟩
  simp? []
  simp? only [xA, pf2, List.length_cons, List.length_nil, show (0 + 1 : Nat) < 1000 by decide]
  have sB : zc x HA (upd HA x (.ins T.za.C dx [("sizes", .ref a1), ("first", .int (encode s.sizes s.first : Nat))])) := (zc.of Same.rfl').self
  have xB : upd HA x (.ins T.za.C dx [("sizes", .ref a1), ("first", .int (encode s.sizes s.first : Nat))]) x = some (.ins T.za.C dx [("sizes", .ref a1), ("first", .int (encode s.sizes s.first : Nat))]) := upd_same
  generalize upd HA x (.ins T.za.C dx [("sizes", .ref a1), ("first", .int (encode s.sizes s.first : Nat))]) = HB at sB xB ⊢
  have sAB := sA.trans sB
  refine lcRo (n := count s) (fun D i H' => ∃ ps : List Addr, H' D = some (.lst (ps.map V.ref)) /\ ps.length = i /\ Same HB H' /\ ∀ j q, ps[j]? = some q -> q ≠ D /\ HB q = none /\ H' q = some (.lst (vN (decode s.sizes j))))
   (fun R' h => by simp? []; exact h) (by omega) (fun D hD => ⟨[], upd_same, rfl, Same.rfl'.new hD, by simp⟩) ?_ ?_
  ·rintro P1 hP1 D i H' hD hi ⟨ps, e1, e2, sm, e3⟩
   simp? [wipe, tYes, List.map_cons, List.map_nil]
   unfold zf15
   refine ⟨a, s.sizes, i, rfl, sm _ _ (sAB a _ ha hax), by omega, h18, fun q hq => ?_⟩
   have hDq : D ≠ q := ne_of_none e1 hq
   refine ⟨_, by rw [upd_ne hDq]; exact e1, by rw [List.length_map]; omega, hP1 _ _ _ ⟨ps ++ [q], by rw [upd_same, List.map_append]; rfl, by simp [e2], (sm.new (sm.free hq)).new hD, fun j q' hq' => ?_⟩⟩
   by_cases hj : j < i
   ·rw [List.getElem?_append_left (by omega)] at hq'
    obtain ⟨f1, f2, f3⟩ := e3 j q' hq'
    exact ⟨f1, f2, by rw [upd_ne f1, upd_ne (ne_of_none f3 hq)]; exact f3⟩
   ·rw [List.getElem?_append_right (by omega)] at hq'
    have hj0 : j - ps.length = 0 := by
     have := (List.getElem?_eq_some_iff.mp hq').1
     simp at this
     omega
    rw [hj0] at hq'
    cases hq'
    have : j = i := by omega
    subst this
    exact ⟨hDq.symm, sm.free hq, by rw [upd_ne hDq.symm, upd_same]⟩
  ·rintro sv H1 hsv ⟨ps, e1, e2, sm, e3⟩
   have nesv : sv ≠ x := (ne_of_none xB hsv).symm
   simp? only [sm x _ xB, pf3, List.length_cons, List.length_nil, show (0 + 1 + 1 : Nat) < 1000 by decide]
   have sC : zc x HB (upd H1 x (.ins T.za.C dx [("sizes", .ref a1), ("first", .int (encode s.sizes s.first : Nat)), ("state_values", .ref sv)])) := (zc.of sm).self
   have xC : upd H1 x (.ins T.za.C dx [("sizes", .ref a1), ("first", .int (encode s.sizes s.first : Nat)), ("state_values", .ref sv)]) x = some (.ins T.za.C dx [("sizes", .ref a1), ("first", .int (encode s.sizes s.first : Nat)), ("state_values", .ref sv)]) := upd_same
   have hC : ∀ q o, q ≠ x -> H1 q = some o -> upd H1 x (.ins T.za.C dx [("sizes", .ref a1), ("first", .int (encode s.sizes s.first : Nat)), ("state_values", .ref sv)]) q = some o := fun q o hq h => by rw [upd_ne hq]; exact h
   generalize upd H1 x (.ins T.za.C dx [("sizes", .ref a1), ("first", .int (encode s.sizes s.first : Nat)), ("state_values", .ref sv)]) = HC at sC xC hC ⊢
   have svC := hC sv _ nesv e1
   have psC : ∀ j q, ps[j]? = some q -> q ≠ x /\ HB q = none /\ HC q = some (.lst (vN (decode s.sizes j))) := fun j q hq => by
    obtain ⟨f1, f2, f3⟩ := e3 j q hq
    have := (ne_of_none xB f2).symm
    exact ⟨this, f2, hC q _ this f3⟩
   refine ⟨by omega, fun t1 m1 => ?_⟩
   have t1x : t1 ≠ x := (ne_of_none xC m1).symm
   simp? [upd_same]
   refine ⟨by omega, by omega, by simp; omega, fun ks m2 => ?_⟩
   have ksx : ks ≠ x := fun z => by rw [z, upd_ne t1x.symm, xC] at m2; cases m2
   have kst : ks ≠ t1 := fun z => by rw [z, upd_same] at m2; cases m2
   have m2' : HC ks = none := by rw [upd_ne kst] at m2; exact m2
   rw [Int.toNat_natCast, zj24]
   simp? only [upd_ne ksx.symm, upd_ne t1x.symm, xC, pf4, List.length_cons, List.length_nil, show (0 + 1 + 1 + 1 : Nat) < 1000 by decide]
   generalize hHD : upd (upd (upd HC t1 _) ks _) x _ = HD
   have sD : zc x HC HD := by rw [<- hHD]; exact (((zc.of Same.rfl').new m1).new m2').self
   have xD : HD x = some (.ins T.za.C dx [("sizes", .ref a1), ("first", .int (encode s.sizes s.first : Nat)), ("state_values", .ref sv), ("kinds", .ref ks)]) := by rw [<- hHD]; exact upd_same
   have ksD : HD ks = some (.lst (vN (List.replicate (count s) 0))) := by rw [<- hHD, upd_ne ksx, upd_same]
   intro ef m3
   simp? only [upd_ne (ne_of_none xD m3), xD, pf5, List.length_cons, List.length_nil, show (0 + 1 + 1 + 1 + 1 : Nat) < 1000 by decide]
   generalize hHE : upd (upd HD ef _) x _ = HE
   have efx : ef ≠ x := (ne_of_none xD m3).symm
   have sE : zc x HD HE := by rw [<- hHE]; exact ((zc.of Same.rfl').new m3).self
   have xE : HE x = some (.ins T.za.C dx [("sizes", .ref a1), ("first", .int (encode s.sizes s.first : Nat)), ("state_values", .ref sv), ("kinds", .ref ks), ("effected", .ref ef)]) := by rw [<- hHE]; exact upd_same
   have efE : HE ef = some (.lst []) := by rw [<- hHE, upd_ne efx, upd_same]
   refine ⟨count s, rfl, fun rg m4 => ?_⟩
   have rgx : rg ≠ x := (ne_of_none xE m4).symm
   simp? [upd_same, HO.rng.injEq]
   refine ⟨count s, rfl, by omega, fun tu m5 => ?_⟩
   have tux : tu ≠ x := fun z => by rw [z, upd_ne rgx.symm, xE] at m5; cases m5
   have turg : tu ≠ rg := fun z => by rw [z, upd_same] at m5; cases m5
   have m5' : HE tu = none := by rw [upd_ne turg] at m5; exact m5
   simp? only [upd_ne tux.symm, upd_ne rgx.symm, xE, pf6, List.length_cons, List.length_nil, show (0 + 1 + 1 + 1 + 1 + 1 : Nat) < 1000 by decide, pf7, pf8, pf9, upd_same, upd_upd, show (0 + 1 + 1 + 1 + 1 + 1 + 1 : Nat) < 1000 by decide, show (0 + 1 + 1 + 1 + 1 + 1 + 1 + 1 : Nat) < 1000 by decide, show (0 + 1 + 1 + 1 + 1 + 1 + 1 + 1 + 1 : Nat) < 1000 by decide]
   generalize hHF : upd (upd (upd HE rg _) tu _) x _ = HF
   have sF : zc x HE HF := by rw [<- hHF]; exact (((zc.of Same.rfl').new m4).new m5').self
   have xF : HF x = some (.ins T.za.C dx [("sizes", .ref a1), ("first", .int (encode s.sizes s.first : Nat)), ("state_values", .ref sv), ("kinds", .ref ks), ("effected", .ref ef), ("turned", .ref tu), ("turn_count", .int 0), ("good_count", .int 0), ("bad_count", .int 0)]) := by rw [<- hHF]; exact upd_same
   have tuF : HF tu = some (.lst (vN (List.range (count s)))) := by rw [<- hHF, upd_ne tux, upd_same]
   intro ka m6
   simp? only [upd_ne (ne_of_none xF m6), xF, pf10, List.length_cons, List.length_nil, show (0 + 1 + 1 + 1 + 1 + 1 + 1 + 1 + 1 + 1 : Nat) < 1000 by decide]
   generalize hHG : upd (upd HF ka _) x _ = HG
   have kax : ka ≠ x := (ne_of_none xF m6).symm
   have sG : zc x HF HG := by rw [<- hHG]; exact ((zc.of Same.rfl').new m6).self
   have xG : HG x = some (.ins T.za.C dx [("sizes", .ref a1), ("first", .int (encode s.sizes s.first : Nat)), ("state_values", .ref sv), ("kinds", .ref ks), ("effected", .ref ef), ("turned", .ref tu), ("turn_count", .int 0), ("good_count", .int 0), ("bad_count", .int 0), ("known_ahead", .ref ka)]) := by rw [<- hHG]; exact upd_same
   have kaG : HG ka = some (.lst []) := by rw [<- hHG, upd_ne kax, upd_same]
   intro kr m7
   simp? only [upd_ne (ne_of_none xG m7), xG, pf11, List.length_cons, List.length_nil, show (0 + 1 + 1 + 1 + 1 + 1 + 1 + 1 + 1 + 1 + 1 : Nat) < 1000 by decide]
   generalize hHK : upd (upd HG kr _) x _ = HK
   have krx : kr ≠ x := (ne_of_none xG m7).symm
   have sK : zc x HG HK := by rw [<- hHK]; exact ((zc.of Same.rfl').new m7).self
   have xK : HK x = some (.ins T.za.C dx (stF a1 (encode s.sizes s.first) sv ks ef tu s.turns.length s.goods.length s.bads.length ka kr)) := by rw [<- hHK, upd_same, nt, ng, nb]; rfl
   have krK : HK kr = some (.lst []) := by rw [<- hHK, upd_ne krx, upd_same]
   have sGK := sK
   have sFK := sG.trans sGK
   have sEK := sF.trans sFK
   have sDK := sE.trans sEK
   have sCK := sD.trans sDK
   have sBK := sC.trans sCK
   have sAK := sB.trans sBK
   have sHK := sA.trans sAK
   have fA : ∀ q, HA q = none -> H q = none := fun q hq => sA.free hq xA
   have fB : ∀ q, HB q = none -> H q = none := fun q hq => fA q (sB.free hq xB)
   have fC : ∀ q, HC q = none -> H q = none := fun q hq => fB q (sC.free hq xC)
   have fD : ∀ q, HD q = none -> H q = none := fun q hq => fC q (sD.free hq xD)
   have fE : ∀ q, HE q = none -> H q = none := fun q hq => fD q (sE.free hq xE)
   have fF : ∀ q, HF q = none -> H q = none := fun q hq => fE q (sF.free hq xF)
   have fG : ∀ q, HG q = none -> H q = none := fun q hq => fF q (sG.free hq xG)
   have efK := sEK ef _ efE efx
   have ne_ef : ∀ q, HD q = some (.lst (vN (List.replicate (count s) 0))) \/ (∃ o, HD q = some o) \/ HE q = none -> q ≠ ef := fun q h z => by
    subst z
    rcases h with h | ⟨o, h⟩ | h
    ·rw [m3] at h; cases h
    ·rw [m3] at h; cases h
    ·rw [efE] at h; cases h
   have R0 : ∀ q, q ≠ x -> q ≠ ef -> H q = none -> (∃ o, HK q = some o) -> ((q = x \/ (H q = none /\ ∃ o, HK q = some o)) /\ q ≠ x /\ q ≠ ef) := fun q h1 h2 h3 h4 => ⟨.inr ⟨h3, h4⟩, h1, h2⟩
   have a1K := sAK a1 _ iA neA
   have svK := sCK sv _ svC nesv
   have ksK := sDK ks _ ksD ksx
   have tuK := sFK tu _ tuF tux
   have kaK := sGK ka _ kaG kax
   have ef1 : a1 ≠ ef := ne_ef a1 (.inr (.inl ⟨_, (sB.trans (sC.trans sD)) a1 _ iA neA⟩))
   have ef2 : sv ≠ ef := ne_ef sv (.inr (.inl ⟨_, sD sv _ svC nesv⟩))
   have ef3 : ks ≠ ef := ne_ef ks (.inl ksD)
   have ef4 : tu ≠ ef := ne_ef tu (.inr (.inr m5'))
   have ef5 : ka ≠ ef := ne_ef ka (.inr (.inr (sF.free m6 xF)))
   have ef6 : kr ≠ ef := ne_ef kr (.inr (.inr (sF.free (sG.free m7 xG) xF)))
   refine k HK (fun q => q = x \/ (H q = none /\ ∃ o, HK q = some o)) sHK (fun q h => h.elim .inl fun z => .inr z.1) ⟨W, dx, a1, sv, ks, ef, tu, ka, kr, xK, .inl rfl, .inr ⟨fD ef m3, _, efK⟩, efx, ⟨?_, ?_, ?_, ?_, ?_, ?_, ?_⟩, fun q hq => ?_⟩
   ·exact ⟨R0 a1 neA ef1 n1 ⟨_, a1K⟩, a1K⟩
   ·refine ⟨R0 sv nesv ef2 (fB sv hsv) ⟨_, svK⟩, ps, svK, by rw [List.length_map, zy]; exact e2, fun i q hq => ?_⟩
    obtain ⟨f1, f2, f3⟩ := psC i q hq
    have hi : i < count s := by have := (List.getElem?_eq_some_iff.mp hq).1; omega
    have f4 := sCK q _ f3 f1
    refine ⟨R0 q f1 (ne_ef q (.inr (.inl ⟨_, sD q _ f3 f1⟩))) (fB q f2) ⟨_, f4⟩, ?_⟩
    rw [zf1 hi]
    exact f4
   ·rw [ze27 ng nb]
    exact ⟨R0 ks ksx ef3 (fC ks m2') ⟨_, ksK⟩, ksK⟩
   ·exact ⟨[], efK, by rw [na]; rfl, fun a q hq => by simp at hq⟩
   ·rw [zo25 W nt]
    exact ⟨R0 tu tux ef4 (fE tu m5') ⟨_, tuK⟩, tuK⟩
   ·exact .inl ⟨R0 ka kax ef5 (fF ka m6) ⟨_, kaK⟩, kaK⟩
   ·exact ⟨R0 kr krx ef6 (fG kr m7) ⟨_, krK⟩, .inl krK⟩
   ·rcases hq with hq | hq
    ·rw [hq]; exact ⟨_, xK⟩
    ·exact hq.2
end
section
variable {P : Program} {w : World} {K : W.Frag} {mg : Str -> Option Value} {base : Heap}
open Vbtaai (places decode encode count told)
noncomputable def zt11 : Sp := fun vs H Q _ => ∃ (a : Addr) (l : List Nat) (r : Nat), vs = [.ref a, .int r] /\ H a = some (.lst (vN l)) /\ Q (.bl (l.all fun k => k == 0 || decide (r <= k))) H
theorem zu11 : FnScope ["numbers_ahead", "least", "number"] ["numbers_ahead", "least"] (defScope (top 4)) := by simp_all? only
theorem zh16 (T : Txt K mg) : FnOk P w K mg base CX0 1 T.za7.f T.za7.fd ["numbers_ahead", "least"] zt11 := by
 refine T.za7.F.ok zu11 (fun _ _ _ _ h => ?_) (fun _ _ _ _ H vs Q E hr h => ?_)
 ·obtain ⟨a, l, r, rfl, _⟩ := h
  rfl
 ·obtain ⟨a, l, r, rfl, ha, k⟩ := h
  refine ⟨_, (pss_cons (ps_for PassesOwn.never rfl (pi_list (pv 0)) (pg_name (i := 2) zu11.nd rfl (by simp_all?))
   (pss_one (ps_if (pw_and (pt_cmpR op_ne (pv 2) pe_int (nomark _)) (pw_and1 (pt_cmpR op_lt (pv 2) (pv 1) (nomark _)))).pt (pss_one (ps_ret pe_bl)) pss_nil)))
   (pss_one (ps_ret pe_bl))), ?_⟩
  simp only [st_c, st_n, st_z]
  have kk : ∀ b, b = (l.all fun k => k == 0 || decide (r <= k)) -> Q (V.bl b) H := fun b e => e ▸ k
  simp? []
  refine za11 (xs := vN l) (a := a) (fun i σ H' => ∃ nv, σ = [some (.ref a), some (.int r), nv] /\ H' = H /\ (l.all fun k => k == 0 || decide (r <= k)) = ((l.drop i).all fun k => k == 0 || decide (r <= k)))
   (fun R h => by simp? []; exact h) ⟨_, rfl, rfl, rfl⟩ (fun i σ H' _ ⟨_, _, e, _⟩ => by rw [e]; exact SqL.of ha) ?_ ?_
  ·rintro P1 hP1 i x σ H' hx ⟨nv, rfl, rfl, e⟩
   obtain ⟨rfl, hi⟩ := zi5 hx
   rw [zm3 0 hi, List.all_cons] at e
   generalize l.getD i 0 = m at e
   simp? []
   split
   ·rename_i h0
    rw [show (m == 0) = true by simp; omega, Bool.true_or, Bool.true_and] at e
    exact hP1 _ _ _ ⟨_, rfl, rfl, e⟩
   ·rename_i h0
    simp? []
    split
    ·rename_i h1
     refine kk _ ?_
     rw [e, show (m == 0) = false by simp; omega, show decide (r <= m) = false by simp; omega]
     rfl
    ·rename_i h1
     rw [show decide (r <= m) = true by simp; omega, Bool.or_true, Bool.true_and] at e
     exact hP1 _ _ _ ⟨_, rfl, rfl, e⟩
  ·rintro σ H' ⟨nv, rfl, rfl, e⟩
   rw [List.length_map, List.drop_eq_nil_of_le (Nat.le_refl _)] at e
   simp? []
   exact kk _ e.symm
noncomputable def zt13 : Sp := fun vs H Q _ => ∃ (a : Addr) (l : List Nat) (kd r : Nat), vs = [.int kd, .int r, .ref a] /\ H a = some (.lst (vN l)) /\ Q (.bl (zo23 kd r l)) H
theorem ze21 : FnScope ["kind", "number", "numbers_ahead"] ["kind", "number", "numbers_ahead"] (defScope (top 5)) := by simp_all? only
theorem zf31 (r : Nat) (l : List Nat) : inV (.int (r : Int)) (vN l) = l.contains r := by
 unfold inV
 rw [List.any_map]
 induction l with
 | nil => rfl
 | cons x t ih =>
  rw [List.any_cons, List.contains_cons, ih]
  congr 1
  show ((x : Int) == (r : Int)) = (r == x)
  rw [Bool.eq_iff_iff, beq_iff_eq, beq_iff_eq]
  omega
theorem zx29 (l : List Nat) : (vN l).all flatV = true := by
 rw [List.all_map]
 exact List.all_eq_true.mpr fun _ _ => rfl
theorem zi28 (l : List Nat) : (l.count 0 = l.length) ↔ (l.all fun k => k == 0) = true := by
 rw [List.count_eq_length, List.all_eq_true]
 constructor
 ·intro h x hx
  rw [beq_iff_eq]
  exact (h x hx).symm
 ·intro h x hx
  exact (beq_iff_eq.mp (h x hx)).symm
theorem zf21 (T : Txt K mg) : FnOk P w K mg base CX0 2 T.zh9.f T.zh9.fd ["kind", "number", "numbers_ahead"] zt13 := by
 have zq18 := @zh16 P w K mg base T
 refine T.zh9.F.ok ze21 (fun _ _ _ _ h => ?_) (fun _ _ _ _ H vs Q E hr h => ?_)
 ·obtain ⟨a, l, kd, r, rfl, _⟩ := h
  rfl
 ·obtain ⟨a, l, kd, r, rfl, ha, k⟩ := h
  refine ⟨_, (pss_cons (ps_if (pt_cmpR op_eq (pv 0) (zg T.zi10) (nomark _)) (pss_one (ps_ret (pe_cmpR op_eq (pv 1) pe_int (nomark _)))) pss_nil)
   (pss_cons (ps_if (pt_cmpR op_eq (pv 1) pe_int (nomark _)) (pss_one (ps_ret (pe_cmpR op_eq (zo30 (pv 2) pe_int) (pln T.len (pv 2)) (nomark _)))) pss_nil)
   (pss_cons (ps_if (pw_or (pt_cmpR op_eq (pv 1) pe_int (nomark _)) (pw_or1 (pt_cmpR op_notIn_seq (pe_op op_sub (pv 1) pe_int) (pv 2) rfl))).pt (pss_one (ps_ret pe_bl)) pss_nil)
   (pss_one (ps_ret (zm T.za7 zq18 (hr.mono (by decide)) (pa_cons (pv 2) (pa_cons (pe_op op_sub (pv 1) pe_int) pa_nil)))))))), ?_⟩
  simp only [st_c, st_n, st_z]
  have kk : ∀ b, b = zo23 kd r l -> Q (V.bl b) H := fun b e => e ▸ k
  unfold zo23 at kk
  simp? []
  split
  ·rename_i h0
   rw [if_pos (by omega)] at kk
   refine kk _ ?_
   rw [Bool.eq_iff_iff, decide_eq_true_eq, beq_iff_eq]
   omega
  ·rename_i h0
   rw [if_neg (by omega)] at kk
   simp? []
   split
   ·rename_i h1
    rw [if_pos (by omega)] at kk
    simp? [ha, List.length_map]
    refine ⟨l, 0, rfl, rfl, ?_⟩
    refine kk _ ?_
    rw [Bool.eq_iff_iff, decide_eq_true_eq, <- zi28]
    omega
   ·rename_i h1
    rw [if_neg (by omega)] at kk
    simp? []
    split
    ·rename_i h2
     rw [if_pos (by omega)] at kk
     exact kk _ rfl
    ·rename_i h2
     rw [if_neg (by omega)] at kk
     have er : (r : Int) - 1 = ((r - 1 : Nat) : Int) := by omega
     simp? [rIn]
     refine ⟨_, .inl (SqL.of ha), rfl, zx29 l, ?_⟩
     rw [er, zf31]
     simp? []
     split
     ·rename_i h3
      refine kk _ ?_
      rw [show l.contains (r - 1) = false by simpa using h3]
      rfl
     ·rename_i h3
      have h3 : l.contains (r - 1) = true := by simpa using h3
      simp? []
      unfold zt11
      refine ⟨a, l, r - 1, by first | rfl | rw [er], ha, ?_⟩
      simp? []
      refine kk _ ?_
      rw [h3, Bool.true_and]
noncomputable def zf27 (C : Addr) : Sp := fun vs H Q _ => ∃ (p tb : Addr) (F : Addr -> Prop) (s : Story) (t : List Nat), vs = [.ref p, .ref tb] /\ zj C F H p s /\ H tb = some (.lst (vN t)) /\ t.length <= 1024 /\ ¬ F tb /\
 ∀ H' F', zc p H H' -> Grow F H F' -> zj C F' H' p s -> Q (.bl (Vbtaai.accepts s t)) H'
theorem zf10 : FnScope ["story", "table", "ahead", "n", "m"] ["story", "table"] (defScope (top 6)) := by simp_all? only
theorem zg21 (f : Nat -> Bool) (N i : Nat) (h : i < N) : ((List.range N).drop i).all f = (f i && ((List.range N).drop (i + 1)).all f) := by
 rw [List.drop_eq_getElem_cons (by simpa using h), List.all_cons, List.getElem_range]
theorem zg27 (T : Txt K mg) : FnOk P w K mg base CX0 5 T.zf13.f T.zf13.fd ["story", "table"] (zf27 T.za.C) := by
 have zg23 := @zf21 P w K mg base T
 have zx := @zr2 P w K mg base T
 refine T.zf13.F.ok zf10 (fun _ _ _ _ h => ?_) (fun _ _ _ _ H vs Q E hr h => ?_)
 ·obtain ⟨p, tb, F, s, t, rfl, _⟩ := h
  rfl
 ·obtain ⟨p, tb, F, s, t, rfl, S, htb, h1024, nF, k⟩ := h
  have S' := S
  obtain ⟨W, dx, sz, sv, ks, ef, tu, ka, kr, h1, h2, h3, h4, R, dm⟩ := S'
  refine ⟨_, (pss_cons (ps_if (pt_cmpR op_ne (pln T.len (pv 1)) (pln T.len (zd T.za.cl T.zk (pv 0) rfl)) (nomark _)) (pss_one (ps_ret pe_bl)) pss_nil)
   (pss_cons (ps_set (i := 2) zf10.nd rfl (by simp_all?) (zj1 T.za.cl T.zi1 zx (hr.mono (by decide)) (pv 0)))
   (pss_cons (ps_for PassesOwn.never rfl (pi_range1 rfl T.range (pa_cons (pln T.len (pv 1)) pa_nil)) (pg_name (i := 3) zf10.nd rfl (by simp_all?))
   (pss_one (ps_if (pt_not (pt_val (zm T.zh9 zg23 (hr.mono (by decide)) (pa_cons (pix (zd T.za.cl T.zk (pv 0) rfl) (pv 3)) (pa_cons (pix (pv 1) (pv 3)) (pa_cons (pe_lc rfl zf10.nd (pi_list (pix (pv 2) (pv 3))) (own := [("m", 4)]) (blkOk_by (by kernel_rfl)) (fun _ _ _ _ _ => pg_name (i := 4) zf10.nd rfl (by simp_all?)) (fun _ _ _ _ _ => by exact pts_nil) (fun _ _ _ _ _ => by exact (pix (pv 1) (pv 4)))) pa_nil)))))) (pss_one (ps_ret pe_bl)) pss_nil)))
   (pss_one (ps_ret pe_bl))))), ?_⟩
  simp only [st_c, st_n, st_z]
  have hz := szL
  have hkl : (zi s).length = count s := by unfold zi; rw [List.length_map, zy]
  have tbp : tb ≠ p := fun z => nF (z ▸ h2)
  simp? only [h1, htb, R.ks.2, List.length_map, hkl]
  split
  ·rename_i h0
   have h0 : t.length = count s := by omega
   simp? only [h1]
   unfold zu4
   refine ⟨p, F, s, rfl, S, fun H1 F1 q sb1 gr1 S1 hl1 => ?_⟩
   have S1' := S1
   obtain ⟨_, dx1, sz1, sv1, ks1, ef1, tu1, ka1, kr1, i1, i2, i3, i4, R1, dm1⟩ := S1'
   have htb1 := sb1 tb _ htb tbp
   have e0 : Vbtaai.accepts s t = ((List.range (count s)).drop 0).all (Vbtaai.fine s t) := by
    unfold Vbtaai.accepts
    rw [show (t.length == count s) = true by simpa using h0, Bool.true_and]
    rfl
   have kk : ∀ H' b, Same H1 H' -> b = Vbtaai.accepts s t -> Q (V.bl b) H' := fun H' b sm e => e ▸ k H' F1 (sb1.trans (zc.of sm)) gr1 (S1.same sm)
   refine zp23 (n := count s) (fun i σ H' => ∃ nv mv, σ = [some (.ref p), some (.ref tb), some (.ref q), nv, mv] /\ Same H1 H' /\ Vbtaai.accepts s t = ((List.range (count s)).drop i).all (Vbtaai.fine s t))
    (fun R h => by simp? [htb1, List.length_map, h0]; exact h) (by omega) ⟨_, _, rfl, Same.rfl', e0⟩ ?_ ?_
   ·rintro P1 hP1 i σ H' hi ⟨nv, mv, rfl, sm, e⟩
    rw [zg21 _ _ _ hi, zg29 hi] at e
    obtain ⟨vs, q2, g1, g2, g3, g4, g5⟩ := hl1.get (i := i) (by rw [List.length_map, zd1]; exact hi)
    rw [zw6] at g5
    have ek := atN (l := zi s) (i := i) (by omega)
    have et := atN (l := t) (i := i) (by omega)
    have hin : ∀ m ∈ (Vbtaai.table s).getD i [], m < count s := fun m hm => by have := zl9 W i (by rw [zd1]; exact hi) m hm; rw [zd1] at this; exact this
    have hil : ((Vbtaai.table s).getD i []).length <= 16 := by
     rw [zx6 hi]
     exact Nat.le_trans (ze22 s i) W.na
    simp? only [sm p _ i1, sm _ _ R1.ks.2, ek, sm tb _ htb1, et]
    refine lcLo (xs := vN ((Vbtaai.table s).getD i [])) (a := q2) (H1 := H') (fun D j H2 => H2 = upd H' D (.lst (vN ((((Vbtaai.table s).getD i []).take j).map fun m => t.getD m 0))))
     (fun R' h => by simp? [sm q _ g1, g2]; exact h) (fun D hD => rfl) (SqL.of (sm q2 _ g5)) (fun D j H2 hD _ e => by rw [e]; exact SqL.of (by rw [upd_ne (ne_of_none (sm q2 _ g5) hD)]; exact sm q2 _ g5)) ?_ ?_
    ·rintro P2 hP2 D j x H2 hD hx rfl
     obtain ⟨rfl, hj⟩ := zi5 hx
     have hm := zv3 (d := 0) hin hj
     have em := atN (l := t) (i := ((Vbtaai.table s).getD i []).getD j 0) (by omega)
     simp? [wipe, tYes, List.map_cons, List.map_nil, upd_ne (ne_of_none (sm tb _ htb1) hD), sm tb _ htb1, em, upd_same]
     refine ⟨by simp; omega, hP2 _ _ _ ?_⟩
     rw [upd_upd, zn3 _ (by omega), Int.toNat_natCast, zr11 hj]
    ·rintro D H2 hD rfl
     rw [List.length_map, List.take_length]
     simp? []
     unfold zt13
     refine ⟨D, _, (zi s).getD i 0, t.getD i 0, rfl, upd_same, ?_⟩
     simp? []
     have sm2 : Same H1 (upd H' D (.lst (vN (((Vbtaai.table s).getD i []).map fun m => t.getD m 0)))) := sm.new (sm.free hD)
     split
     ·rename_i hb
      refine kk _ _ sm2 ?_
      rw [e, hb]
      rfl
     ·rename_i hb
      rw [Bool.not_eq_false] at hb
      rw [hb, Bool.true_and] at e
      exact hP1 _ _ _ ⟨_, _, rfl, sm2, e⟩
   ·rintro σ H' ⟨nv, mv, rfl, sm, e⟩
    rw [List.drop_eq_nil_of_le (by simp)] at e
    simp? []
    exact kk _ _ sm e.symm
  ·rename_i h0
   have h0 : t.length ≠ count s := by omega
   have := k H F (zc.of Same.rfl') Grow.refl S
   have e : Vbtaai.accepts s t = false := by
    unfold Vbtaai.accepts
    rw [show (t.length == count s) = false by simpa using h0]
    rfl
   rw [e] at this
   exact this
noncomputable def zp25 (C : Addr) : Sp := fun vs H Q _ => ∃ (p : Addr) (F : Addr -> Prop) (s : Story) (n k : Nat), vs = [.ref p, .int n] /\ zj C F H p s /\ Vbtaai.rank s n = some k /\
 ∀ H' F' q, zc p H H' -> Grow F H F' -> zj C F' H' p s -> H' q = some (.lst (vN (Vbtaai.wayFrom s (winning s nobody) (count s) n))) -> Q (.ref q) H'
theorem zf7 : FnScope ["story", "start", "ranks", "way", "n", "a"] ["story", "start"] (defScope (top 67)) := by simp_all? only
theorem zq25 (T : Txt K mg) : FnOk P w K mg base CX0 7 T.zd12.f T.zd12.fd ["story", "start"] (zp25 T.za.C) := by
 have zl1 := @zh3 P w K mg base T
 have zs6 := @zy8 P w K mg base T
 have zx2 := @zx4 P w K mg base T
 refine T.zd12.F.ok zf7 (fun _ _ _ _ h => ?_) (fun _ _ _ _ H vs Q E hr h => ?_)
 ·obtain ⟨p, F, s, n, k, rfl, _⟩ := h
  rfl
 ·obtain ⟨p, F, s, n, k0, rfl, S, hk, k⟩ := h
  have S' := S
  obtain ⟨W, dx, sz, sv, ks, ef, tu, ka, kr, h1, h2, h3, h4, R, dm⟩ := S'
  refine ⟨_, (pss_cons (ps_set (i := 2) zf7.nd rfl (by simp_all?) (zj1 T.za.cl T.ze2 zl1 (hr.mono (by decide)) (pv 0)))
   (pss_cons (ps_set (i := 3) zf7.nd rfl (by simp_all?) (pe_lst pa_nil))
   (pss_cons (ps_set (i := 4) zf7.nd rfl (by simp_all?) (pv 1))
   (pss_cons (ps_while PassesOwn.never (pt_cmpR op_gt (pix (pv 2) (pv 4)) pe_int (nomark _))
   (pss_cons (ps_set (i := 5) zf7.nd rfl (by simp_all?) (zy1 T.za.cl T.ze3 zs6 (hr.mono (by decide)) (pv 0) (pa_cons (pv 4) pa_nil)))
   (pss_cons (ps_expr (zg12 (pv 3) (pv 5)))
   (pss_one (ps_set (i := 4) zf7.nd rfl (by simp_all?) (zy1 T.za.cl T.zw2 zx2 (hr.mono (by decide)) (pv 0) (pa_cons (pv 4) (pa_cons (pv 5) pa_nil))))))))
   (pss_one (ps_ret (pv 3))))))), ?_⟩
  simp only [st_c, st_n, st_z]
  have hz := szL
  have c1 := W.cnt
  have hkc := zg26 hk
  simp? only [h1]
  unfold zy10
  refine ⟨p, F, s, rfl, S, fun H1 F1 rk sb1 gr1 S1 frk rkp hrk => ?_⟩
  have S1' := S1
  obtain ⟨_, dx1, sz1, sv1, ks1, ef1, tu1, ka1, kr1, i1, i2, i3, i4, R1, dm1⟩ := S1'
  simp? [List.length_nil, Nat.zero_le]
  intro wv hwv
  have wvF : ¬ F1 wv := fun z => by obtain ⟨o, ho⟩ := dm1 wv z; rw [hwv] at ho; cases ho
  have wvp : wv ≠ p := fun z => wvF (z ▸ i2)
  have rkw : rk ≠ wv := ne_of_none hrk hwv
  have hwv0 : H wv = none := sb1.free hwv i1
  refine zf24 (fun m σ H' => ∃ (F' : Addr -> Prop) (n' f : Nat) (way : List Nat) (av : Option V), σ = [some (.ref p), some (.int n), some (.ref rk), some (.ref wv), some (.int n'), av] /\ zc p H H' /\ Grow F H F' /\ zj T.za.C F' H' p s /\ ¬ F' wv /\ H' rk = some (.lst (vN (Vbtaai.ranks s))) /\ H' wv = some (.lst (vN way)) /\
    Vbtaai.rank s n' = some m /\ m <= f /\ way.length + m <= count s /\ way ++ Vbtaai.wayFrom s (winning s nobody) f n' = Vbtaai.wayFrom s (winning s nobody) (count s) n)
   k0 ⟨F1, n, count s, [], none, rfl, sb1.new hwv0, gr1, S1.same (Same.rfl'.new hwv), wvF, by rw [upd_ne rkw]; exact hrk, upd_same, hk, hkc, by simp; omega, rfl⟩ ?_
  rintro W1 hW1 m σ H' ⟨F', n', f, way, av, rfl, sb, gr, S2, nF2, hrk2, hwv2, hm, hmf, hlen, e⟩
  have hn' := zq9 hm
  have S2' := S2
  obtain ⟨_, dx2, sz2, sv2, ks2, ef2, tu2, ka2, kr2, j1, j2, j3, j4, R2, dm2⟩ := S2'
  have en := atN (l := Vbtaai.ranks s) (i := n') (by rw [zl3]; exact hn')
  rw [zh5 hn', show told (Vbtaai.rank s n') = m + 1 from zr9.mpr hm] at en
  simp? [hrk2, en]
  split
  ·rename_i h0
   obtain ⟨m', rfl⟩ : ∃ m', m = m' + 1 := ⟨m - 1, by omega⟩
   obtain ⟨f', rfl⟩ : ∃ f', f = f' + 1 := ⟨f - 1, by omega⟩
   obtain ⟨a, r, hld, _, ham, hra⟩ := zy9 hm
   refine ⟨fun σ' H'' => ∃ m'', m'' < m' + 1 /\ W1 m'' σ' H'', fun σ' H'' h => h, ?_⟩
   simp? only [j1]
   unfold zl22
   refine ⟨p, F', s, n', a, m', r, rfl, S2, hm, hld, fun H3 F3 sb3 gr3 S3 => ?_⟩
   have S3' := S3
   obtain ⟨_, dx3, sz3, sv3, ks3, ef3, tu3, ka3, kr3, l1, l2, l3, l4, R3, dm3⟩ := S3'
   have hwv3 := sb3 wv _ hwv2 wvp
   have hrk3 := sb3 rk _ hrk2 rkp
   have nF3 : ¬ F3 wv := fun z => (gr3 wv z).elim nF2 fun z => by rw [hwv2] at z; cases z
   simp? [hwv3, List.length_map]
   refine ⟨by omega, ?_⟩
   have S4 : zj T.za.C F3 (upd H3 wv (.lst (vN way ++ [V.int a]))) p s := S3.frame fun q o hq h => by rw [upd_ne (show q ≠ wv from fun z => nF3 (z ▸ hq))]; exact h
   simp? only [upd_ne wvp.symm, l1]
   unfold zb11
   refine ⟨p, F3, s, n', a, zr3 s n' a, rfl, S4, hn', (zx9 ham).2, ?_⟩
   simp? []
   refine ⟨m', by omega, hW1 _ _ _ ⟨F3, zr3 s n' a, f', way ++ [a], _, rfl, (sb.trans sb3).new hwv0, gr.trans gr3 (sb.out h2), S4, nF3, by rw [upd_ne rkw]; exact hrk3, by rw [upd_same, zn3 _ (by omega), Int.toNat_natCast], hra, by omega, by simp; omega, ?_⟩⟩
   rw [zw28 hm hld] at e
   rw [List.append_assoc]
   exact e
  ·rename_i h0
   have h0 : m = 0 := by omega
   subst h0
   rw [zv28 hm, List.append_nil] at e
   simp? []
   rw [e] at hwv2
   exact k H' F' wv sb gr S2 hwv2
end
section
variable {P : Program} {w : World} {K : W.Frag} {mg : Str -> Option Value} {base : Heap}
open Vbtaai (places decode encode count told)
noncomputable def kvN (c : List (Nat × Nat)) : List (Key × V) := c.map fun x => (Sum.inl (x.1 : Int), V.int (x.2 : Int))
theorem zk26 (k : Nat) : ∀ c : List (Nat × Nat), (valV (kvN c) (Sum.inl (k : Int))).getD (V.int 0) = V.int (getN c k)
 | [] => rfl
 | (k', v') :: r => by
  have ih := zk26 k r
  by_cases h : k' = k
  ·subst h
   show (valV ((Sum.inl (k' : Int), V.int (v' : Int)) :: kvN r) _).getD _ = _
   rw [valV_pos rfl]
   simp [getN]
  ·show (valV ((Sum.inl (k' : Int), V.int (v' : Int)) :: kvN r) _).getD _ = _
   rw [valV_neg (fun e => h (Int.ofNat.inj (Sum.inl.inj e))), ih]
   simp [getN, h]
theorem zg31 {c : List (Nat × Nat)} (hn : (zw c).Nodup) : ∀ {i k v : Nat}, c[i]? = some (k, v) -> valV (kvN c) (Sum.inl (k : Int)) = some (V.int (v : Int)) := by
 induction c with
 | nil => intro i k v h; simp at h
 | cons x r ih =>
  obtain ⟨k', v'⟩ := x
  intro i k v h
  have hn' : k' ∉ zw r /\ (zw r).Nodup := List.nodup_cons.mp hn
  show valV ((Sum.inl (k' : Int), V.int (v' : Int)) :: kvN r) _ = _
  cases i with
  | zero =>
   cases h
   rw [valV_pos rfl]
  | succ i =>
   have h' : r[i]? = some (k, v) := by simpa using h
   have hk : k ∈ zw r := List.mem_map.mpr ⟨_, List.mem_of_getElem? h', rfl⟩
   have hne : k' ≠ k := fun e => hn'.1 (e ▸ hk)
   rw [valV_neg (fun e => hne (Int.ofNat.inj (Sum.inl.inj e))), ih hn'.2 h']
theorem zy29 (k : Nat) (c : List (Nat × Nat)) : ((kvN c).any fun kv => decide (kv.1 = Sum.inl (k : Int))) = decide (k ∈ zw c) := by
 rw [Bool.eq_iff_iff, List.any_eq_true, decide_eq_true_eq]
 unfold kvN zw
 constructor
 ·rintro ⟨x, hx, he⟩
  obtain ⟨y, hy, rfl⟩ := List.mem_map.mp hx
  have : (y.1 : Int) = k := by simpa using he
  exact List.mem_map.mpr ⟨y, hy, by omega⟩
 ·intro h
  obtain ⟨y, hy, e⟩ := List.mem_map.mp h
  exact ⟨_, List.mem_map.mpr ⟨y, hy, rfl⟩, by simp [e]⟩
theorem zl24 (k v : Nat) : ∀ c, k ∉ zw c -> putN c k v = c ++ [(k, v)]
 | [], _ => rfl
 | (k', v') :: r, h => by
  have h' : k ≠ k' /\ k ∉ zw r := by simpa [zw] using h
  rw [putN, if_neg (fun e => h'.1 e.symm), zl24 k v r h'.2]
  rfl
theorem zm24 (k v : Nat) : ∀ c, (zw c).Nodup -> k ∈ zw c -> putN c k v = c.map fun x => if x.1 = k then (x.1, v) else x
 | [], _, h => by simp [zw] at h
 | (k', v') :: r, hn, h => by
  have hn' : k' ∉ zw r /\ (zw r).Nodup := List.nodup_cons.mp hn
  rw [putN, List.map_cons]
  by_cases e : k' = k
  ·rw [if_pos e, if_pos e]
   congr 1
   have : ∀ x ∈ r, (if x.1 = k then (x.1, v) else x) = x := fun x hx => by
    rw [if_neg]
    intro z
    exact hn'.1 (e ▸ z ▸ List.mem_map.mpr ⟨x, hx, rfl⟩)
   rw [List.map_congr_left this, List.map_id']
  ·rw [if_neg e, if_neg e, zm24 k v r hn'.2 (by
    have h : k = k' \/ k ∈ zw r := by simpa [zw] using h
    exact h.elim (fun z => absurd z.symm e) fun z => z)]
theorem zz29 {c : List (Nat × Nat)} (hn : (zw c).Nodup) (k v : Nat) : putK (kvN c) (Sum.inl (k : Int)) (V.int (v : Int)) = kvN (putN c k v) := by
 unfold putK
 rw [zy29]
 by_cases h : k ∈ zw c
 ·rw [if_pos (by simpa using h), zm24 k v c hn h]
  unfold kvN
  rw [List.map_map, List.map_map]
  refine List.map_congr_left fun x _ => ?_
  show (if (Sum.inl (x.1 : Int) : Key) = Sum.inl (k : Int) then _ else _) = _
  by_cases e : x.1 = k
  ·subst e
   simp
  ·have e' : ¬ (Sum.inl (x.1 : Int) : Key) = Sum.inl (k : Int) := fun z => e (Int.ofNat.inj (Sum.inl.inj z))
   rw [if_neg e']
   simp [e]
 ·rw [if_neg (by simpa using h), zl24 k v c h]
  unfold kvN
  rw [List.map_append]
  rfl
theorem zl26 (c : List (Nat × Nat)) : (kvN c).length = c.length := by unfold kvN; rw [List.length_map]
theorem forK {td : TE} {g : TG} {tb : TS} {D : Ends} {σ : L2.St} {H : Hp} {d : Addr} {od : Obj} {kvs : List (Key × V)} (Pv : Nat -> L2.St -> Hp -> Prop) (hta : ∀ R : V -> Hp -> Prop, R (.ref d) H -> td σ H R) (hd : H d = some (.frz od (.dK kvs))) (h0 : Pv 0 σ H)
  (hl : ∀ i σ H, i <= kvs.length -> Pv i σ H -> H d = some (.frz od (.dK kvs)))
  (hs : ∀ i k v σ H, kvs[i]? = some (k, v) -> Pv i σ H -> g (kV k) σ H fun σ2 H2 => tb { D with nx := Pv (i + 1), ct := Pv (i + 1), bk := D.nx } σ2 H2) (he : ∀ σ H, Pv kvs.length σ H -> D.nx σ H) : tFor (iKeys td) g tb D σ H := by
 refine hta _ ⟨d, od, rfl, .inl ⟨kvs, hd, ?_⟩⟩
 refine ⟨fun i m σ H => m = kvs.length - i /\ i <= kvs.length /\ Pv i σ H, ⟨kvs.length, by simp, Nat.zero_le _, h0⟩, ?_⟩
 rintro i m σ H ⟨rfl, hi, p⟩
 have q := hl i σ H hi p
 by_cases hlt : i < kvs.length
 ·refine .inr ⟨⟨q, hlt⟩, Pv (i + 1), fun σ' H' p' => ⟨kvs.length - (i + 1), by omega, rfl, hlt, p'⟩, fun x H' y => ?_⟩
  obtain ⟨e, k, v, hk, ex⟩ := y
  subst e ex
  exact hs i k v σ _ hk p
 ·have e : i = kvs.length := by omega
  subst e
  exact .inl ⟨⟨q, Nat.le_refl _⟩, he σ H p⟩
theorem forKo {td : TE} {g : TG} {tb : TS} {D : Ends} {σ : L2.St} {H : Hp} {d : Addr} {od : Obj} {kvs : List (Key × V)} (Pv : Nat -> L2.St -> Hp -> Prop) (hta : ∀ R : V -> Hp -> Prop, R (.ref d) H -> td σ H R) (hd : H d = some (.frz od (.dK kvs))) (h0 : Pv 0 σ H)
  (hl : ∀ i σ H, i <= kvs.length -> Pv i σ H -> H d = some (.frz od (.dK kvs)))
  (hs : ∀ P' : Nat -> L2.St -> Hp -> Prop, (∀ i σ H, Pv i σ H -> P' i σ H) -> ∀ i k v σ H, kvs[i]? = some (k, v) -> Pv i σ H -> g (kV k) σ H fun σ2 H2 => tb { D with nx := P' (i + 1), ct := P' (i + 1), bk := D.nx } σ2 H2) (he : ∀ σ H, Pv kvs.length σ H -> D.nx σ H) : tFor (iKeys td) g tb D σ H :=
 forK Pv hta hd h0 hl (hs Pv fun _ _ _ h => h) he
noncomputable def za13 : Sp := fun vs H Q _ => ∃ (a rk cd : Addr) (t : List (List Nat)) (rks : List Nat) (c : List (Nat × Nat)) (r : Nat), vs = [.ref a, .ref rk, .ref cd, .int r] /\ LL (fun _ => True) H a (t.map vN) /\ H rk = some (.lst (vN rks)) /\ H cd = some (.dK (kvN c)) /\ (zw c).Nodup /\ (∀ n ∈ zw c, n < t.length) /\
 rks.length = t.length /\ t.length <= 1024 /\ (∀ k, k < t.length -> ∀ m ∈ t.getD k [], m < t.length) /\ ∀ H' q, Same H H' -> H q = none -> H' q = some (.dK (kvN (zh4 t rks r [] c))) -> Q (.ref q) H'
theorem zo7 : FnScope ["ahead", "ranks", "counts", "rank", "found", "n", "m"] ["ahead", "ranks", "counts", "rank"] (defScope (top 68)) := by simp_all? only
theorem zh27 {t : List (List Nat)} {rk : List Nat} {r : Nat} {c : List (Nat × Nat)} {i : Nat} {x : Nat × Nat} (h : c[i]? = some x) : zh4 t rk r [] (c.take (i + 1)) = zu5 (zh4 t rk r [] (c.take i)) ((t.getD x.1 []).filter fun m => rk.getD m 0 == r) x.2 := by
 obtain ⟨hi, e⟩ := List.getElem?_eq_some_iff.mp h
 rw [List.take_succ_eq_append_getElem hi, e]
 unfold zh4
 rw [List.foldl_append]
 rfl
theorem zr25 {c : List (Nat × Nat)} {l : List Nat} {p : Nat -> Bool} {x j : Nat} (h : j < l.length) : zu5 c ((l.take (j + 1)).filter p) x = if p (l.getD j 0) = true then addN (zu5 c ((l.take j).filter p) x) (l.getD j 0) x else zu5 c ((l.take j).filter p) x := by
 rw [zi2 h]
 unfold zu5
 rw [List.foldl_append]
 by_cases e : p (l.getD j 0) = true
 ·rw [if_pos e, if_pos e]; rfl
 ·rw [if_neg e, if_neg e]; rfl
theorem zn19 (T : Txt K mg) : FnOk P w K mg base CX0 1 T.zm8.f T.zm8.fd ["ahead", "ranks", "counts", "rank"] za13 := by
 refine T.zm8.F.ok zo7 (fun _ _ _ _ h => ?_) (fun _ _ _ _ H vs Q E hr h => ?_)
 ·obtain ⟨a, rk, cd, t, rks, c, r, rfl, _⟩ := h
  rfl
 ·obtain ⟨a, rk, cd, t, rks, c, r, rfl, ha, hrk, hcd, hnd, hck, hrl, hN, ht, k⟩ := h
  refine ⟨_, (pss_cons (ps_set (i := 4) zo7.nd rfl (by simp_all?) pe_dnewK)
   (pss_cons (ps_lock (ps_for PassesOwn.never rfl (pi_keys (pv 2)) (pg_name (i := 5) zo7.nd rfl (by simp_all?))
   (pss_one (ps_for PassesOwn.never rfl (pi_list (pix (pv 0) (pv 5))) (pg_name (i := 6) zo7.nd rfl (by simp_all?))
   (pss_one (ps_if (pt_cmpR op_eq (pix (pv 1) (pv 6)) (pv 3) (nomark _)) (pss_one (ps_dput (hu_of hr) (pv 4) (pv 6) (pe_op op_mod (pe_op op_add (pe_dget2 (hu_of hr) (pv 4) (pv 6) pe_int ⟨rfl, rfl, rfl, rfl⟩) (pe_dget (hu_of hr) (pv 2) (pv 5) (fun _ _ => rfl))) (zg T.zb14)) rfl)) pss_nil))))))
   (pss_one (ps_ret (pv 4))))), ?_⟩
  simp only [st_c, st_n, st_z]
  have hz := szL
  simp? [tDNewK]
  intro fo hfo
  have cdfo : cd ≠ fo := ne_of_none hcd hfo
  have rkfo : rk ≠ fo := ne_of_none hrk hfo
  have rkcd : rk ≠ cd := ne_of hrk hcd (by intro z; cases z)
  refine ⟨cd, .dK (kvN c), (by rw [upd_ne cdfo]; exact hcd), trivial, fun od => ?_⟩
  have keyb : ∀ i, (zw (zh4 t rks r [] (c.take i))).Nodup /\ ∀ n ∈ zw (zh4 t rks r [] (c.take i)), n < t.length := fun i =>
   zh14 t rks r (fun n => n < t.length) (c.take i) [] (by simp [zw]) (by simp [zw]) fun n hn m hm _ => ht n (hck n (by
    obtain ⟨x, hx, e⟩ := List.mem_map.mp hn
    exact List.mem_map.mpr ⟨x, List.mem_of_mem_take hx, e⟩)) m hm
  refine forKo (od := od) (kvs := kvN c) (d := cd) (fun i σ H' => ∃ nv mv, σ = [some (.ref a), some (.ref rk), some (.ref cd), some (.int r), some (.ref fo), nv, mv] /\ H' cd = some (.frz od (.dK (kvN c))) /\ zc cd H H' /\ H' fo = some (.dK (kvN (zh4 t rks r [] (c.take i)))))
   (fun R h => by simp? []; exact h) upd_same ⟨_, _, rfl, upd_same, ((zc.of Same.rfl').new hfo).self, by rw [upd_ne cdfo.symm, upd_same]; rfl⟩ (fun i σ H' _ ⟨_, _, _, e, _⟩ => e) ?_ ?_
  ·rintro P1 hP1 i kk v σ H' hkv ⟨nv, mv, rfl, g0, sb, gf⟩
   unfold kvN at hkv
   rw [List.getElem?_map] at hkv
   cases hci : c[i]? with
   | none => rw [hci] at hkv; cases hkv
   | some x =>
    obtain ⟨n, cv⟩ := x
    rw [hci] at hkv
    cases hkv
    have hnk : n ∈ zw c := List.mem_map.mpr ⟨_, List.mem_of_getElem? hci, rfl⟩
    have hn := hck n hnk
    obtain ⟨vs, q, g1, g2, g3, _, g5⟩ := ha.get (i := n) (by simpa using hn)
    rw [zw6] at g5
    have acd : a ≠ cd := fun z => by rw [z, hcd] at g1; cases g1
    have qcd : q ≠ cd := fun z => by rw [z, hcd] at g5; cases g5
    have qfo : q ≠ fo := ne_of_none g5 hfo
    have hstep := zh27 (t := t) (rk := rks) (r := r) hci
    simp? [kV]
    refine za11 (xs := vN (t.getD n [])) (a := q) (fun j σ H' => ∃ mv, σ = [some (.ref a), some (.ref rk), some (.ref cd), some (.int r), some (.ref fo), some (.int n), mv] /\ H' cd = some (.frz od (.dK (kvN c))) /\ zc cd H H' /\
      H' fo = some (.dK (kvN (zu5 (zh4 t rks r [] (c.take i)) (((t.getD n []).take j).filter fun m => rks.getD m 0 == r) cv))))
     (fun R h => by simp? [sb a _ g1 acd, g2]; exact h) ⟨_, rfl, g0, sb, gf⟩ (fun j σ H' _ ⟨_, _, _, e, _⟩ => SqL.of (e q _ g5 qcd)) ?_ ?_
    ·clear g0 sb gf
     rintro P2 hP2 j x σ H' hx ⟨mv, rfl, g0, sb, gf⟩
     obtain ⟨rfl, hj⟩ := zi5 hx
     have hm : (t.getD n []).getD j 0 < t.length := zv3 (ht n hn) hj
     have hadd := zr25 (c := zh4 t rks r [] (c.take i)) (p := fun m => rks.getD m 0 == r) (x := cv) hj
     obtain ⟨kn, kb⟩ := zh13 cv (fun n => n < t.length) (((t.getD n []).take j).filter fun m => rks.getD m 0 == r) _ (keyb i).1 (keyb i).2 fun m hm => ht n hn m (List.mem_of_mem_take (List.mem_filter.mp hm).1)
     have klen := zi22 t.length _ kn kb
     generalize zu5 (zh4 t rks r [] (c.take i)) (((t.getD n []).take j).filter fun m => rks.getD m 0 == r) cv = fc at *
     have klen' : fc.length <= t.length := by have : (zw fc).length = fc.length := List.length_map _; omega
     generalize (t.getD n []).getD j 0 = m at *
     have em := atN (l := rks) (i := m) (by omega)
     simp? [sb rk _ hrk rkcd, em]
     split
     ·rename_i h0
      have h0 : rks.getD m 0 = r := by omega
      rw [if_pos (by rw [beq_iff_eq]; exact h0)] at hadd
      simp? [sDPut, tDGet2, tDGet]
      refine ⟨.inl ⟨_, .inl gf⟩, _, DGet.k (k := Sum.inl (m : Int)) gf, ?_⟩
      rw [zk26]
      refine ⟨_, .inl ⟨_, Sum.inl (n : Int), .inr ⟨od, g0⟩, rfl, (zg31 hnd hci).symm⟩, _, rfl, _, rfl, by decide, ?_⟩
      refine ⟨_, DPut.k (k := Sum.inl (m : Int)) gf (by rw [zl26]; omega), ?_⟩
      have ev : ((getN fc m : Int) + (cv : Int)) % 1000000007 = (((getN fc m + cv) % Vbtaai.PRIME : Nat) : Int) := by
       show _ = (((getN fc m + cv) % 1000000007 : Nat) : Int)
       omega
      rw [ev, zz29 kn]
      refine hP2 _ _ _ ⟨_, rfl, by rw [upd_ne cdfo]; exact g0, sb.new hfo, ?_⟩
      rw [upd_same, hadd]
      rfl
     ·rename_i h0
      rw [if_neg (by rw [beq_iff_eq]; omega)] at hadd
      refine hP2 _ _ _ ⟨_, rfl, g0, sb, ?_⟩
      rw [hadd]
      exact gf
    ·rintro σ H' ⟨mv, rfl, g0, sb, gf⟩
     refine hP1 _ _ _ ⟨_, _, rfl, g0, sb, ?_⟩
     rw [hstep, gf, List.length_map, List.take_length]
  ·rintro σ H' ⟨nv, mv, rfl, g0, sb, gf⟩
   refine ⟨g0, ?_⟩
   rw [zl26, List.take_length] at gf
   simp? []
   refine k _ fo (fun q o hq => ?_) hfo (by rw [upd_ne cdfo.symm]; exact gf)
   by_cases e : q = cd
   ·rw [e, upd_same, <- hcd, <- e]; exact hq
   ·rw [upd_ne e]; exact sb q o hq e
noncomputable def zt17 (C : Addr) : Sp := fun vs H Q _ => ∃ (p : Addr) (F : Addr -> Prop) (s : Story) (n k : Nat), vs = [.ref p, .int n] /\ zj C F H p s /\ Vbtaai.rank s n = some k /\
 ∀ H' F', zc p H H' -> Grow F H F' -> zj C F' H' p s -> Q (.int (Vbtaai.ways s n)) H'
theorem zk5 : FnScope ["story", "start", "ranks", "counts", "rank"] ["story", "start"] (defScope (top 69)) := by simp_all? only
theorem zz28 (c : List (Nat × Nat)) (W : Nat -> Nat) (h : ∀ n ∈ zw c, W n = 1) : wsum W c = (c.map (·.2)).sum := by
 unfold wsum
 congr 1
 refine List.map_congr_left fun x hx => ?_
 rw [h x.1 (List.mem_map.mpr ⟨x, hx, rfl⟩), Nat.mul_one]
theorem zm22 : ∀ l : List Nat, (l.map Int.ofNat).sum = ((l.sum : Nat) : Int)
 | [] => rfl
 | x :: r => by
  rw [List.map_cons, List.sum_cons, List.sum_cons, zm22 r]
  show (x : Int) + _ = _
  omega
theorem zu17 (T : Txt K mg) : FnOk P w K mg base CX0 6 T.zu7.f T.zu7.fd ["story", "start"] (zt17 T.za.C) := by
 have zl1 := @zh3 P w K mg base T
 have zx := @zr2 P w K mg base T
 have zt21 := @zn19 P w K mg base T
 refine T.zu7.F.ok zk5 (fun _ _ _ _ h => ?_) (fun _ _ _ _ H vs Q E hr h => ?_)
 ·obtain ⟨p, F, s, n, k, rfl, _⟩ := h
  rfl
 ·obtain ⟨p, F, s, n, k0, rfl, S, hk, k⟩ := h
  have S' := S
  obtain ⟨W, dx, sz, sv, ks, ef, tu, ka, kr, h1, h2, h3, h4, R, dm⟩ := S'
  refine ⟨_, (pss_cons (ps_set (i := 2) zk5.nd rfl (by simp_all?) (zj1 T.za.cl T.ze2 zl1 (hr.mono (by decide)) (pv 0)))
   (pss_cons (ps_set (i := 3) zk5.nd rfl (by simp_all?) (pe_disp (pps_cons (pv 1) pe_int pps_nil) rfl rfl (by simp) (by decide)))
   (pss_cons (ps_for PassesOwn.never rfl (pi_range3 rfl T.range (pa_cons (pe_op op_sub (pix (pv 2) (pv 1)) pe_int) (pa_cons pe_int (pa_cons (pe_un un_neg pe_int) pa_nil)))) (pg_name (i := 4) zk5.nd rfl (by simp_all?))
   (pss_one (ps_set (i := 3) zk5.nd rfl (by simp_all?) (zm T.zm8 zt21 (hr.mono (by decide)) (pa_cons (zj1 T.za.cl T.zi1 zx (hr.mono (by decide)) (pv 0)) (pa_cons (pv 2) (pa_cons (pv 3) (pa_cons (pv 4) pa_nil))))))))
   (pss_one (ps_ret (pe_op op_mod (pe_callB (za28 rfl) (by rfl) T.sum boot_sum (pa_cons (zh29 (pv 3)) pa_nil)) (zg T.zb14))))))), ?_⟩
  simp only [st_c, st_n, st_z]
  have hz := szL
  have c1 := W.cnt
  have hkc := zg26 hk
  have hn := zq9 hk
  simp? only [h1]
  unfold zy10
  refine ⟨p, F, s, rfl, S, fun H1 F1 rk sb1 gr1 S1 frk rkp hrk => ?_⟩
  have S1' := S1
  obtain ⟨_, dx1, sz1, sv1, ks1, ef1, tu1, ka1, kr1, i1, i2, i3, i4, R1, dm1⟩ := S1'
  simp? [tDisp, tPairs]
  intro cd hcd
  have cdp : cd ≠ p := (ne_of_none i1 hcd).symm
  have rkcd : rk ≠ cd := ne_of_none hrk hcd
  refine ⟨upd_same, [(Sum.inl (n : Int), V.int 1)], rfl, by simp, ?_⟩
  have en := atN (l := Vbtaai.ranks s) (i := n) (by rw [zl3]; exact hn)
  rw [zh5 hn, show told (Vbtaai.rank s n) = k0 + 1 from zr9.mpr hk] at en
  have eone : mergeK [] [(Sum.inl (n : Int), V.int 1)] = kvN [(n, 1)] := rfl
  rw [eone, upd_upd]
  have hcd0 : H cd = none := sb1.free hcd i1
  refine for3o (lo := (k0 : Int)) (hi := 0) (c := -1) (n := k0) (fun i σ H' => ∃ (F' : Addr -> Prop) (cd : Addr) (c : List (Nat × Nat)) (rv : Option V), σ = [some (.ref p), some (.int n), some (.ref rk), some (.ref cd), rv] /\ zc p H H' /\ Grow F H F' /\ zj T.za.C F' H' p s /\ H' rk = some (.lst (vN (Vbtaai.ranks s))) /\
    cd ≠ p /\ H' cd = some (.dK (kvN c)) /\ (zw c).Nodup /\ (∀ m ∈ zw c, Vbtaai.rank s m = some (k0 - i)) /\ wsum (wv s (k0 - i)) c % Vbtaai.PRIME = wv s k0 n % Vbtaai.PRIME)
   (fun R h => by
    simp? [upd_ne rkcd, hrk, en]
    have e : ((k0 + 1 : Nat) : Int) - 1 = (k0 : Int) := by omega
    rw [e]; exact h) ?_ ⟨F1, cd, [(n, 1)], none, rfl, sb1.new hcd0, gr1, S1.same (Same.rfl'.new hcd), by rw [upd_ne rkcd]; exact hrk, cdp, upd_same, by simp [zw], (fun m hm => by
     have : m = n := by simpa [zw] using hm
     rw [this]; exact hk), by simp [wsum]⟩ ?_ ?_
  ·have := RgC.neg (i := (k0 : Int)) (j := 0) (by omega) (by omega) (by omega) (by omega)
   rw [show ((k0 : Int) - 0).toNat = k0 by omega] at this
   exact this
  ·rintro P1 hP1 i σ H' hi ⟨F', cd, c, rv, rfl, sb, gr, S2, hrk2, cdp, hcd2, nd, hks, hsum⟩
   obtain ⟨j, hj⟩ : ∃ j, k0 - i = j + 1 := ⟨k0 - i - 1, by omega⟩
   have hj2 : k0 - (i + 1) = j := by omega
   rw [hj] at hks hsum
   have S2' := S2
   obtain ⟨_, dx2, sz2, sv2, ks2, ef2, tu2, ka2, kr2, j1, j2, j3, j4, R2, dm2⟩ := S2'
   simp? only [j1]
   unfold zu4
   refine ⟨p, F', s, rfl, S2, fun H3 F3 q sb3 gr3 S3 hl3 => ?_⟩
   unfold za13
   obtain ⟨w1, w2, w3⟩ := zv27 W hks
   refine ⟨q, rk, cd, Vbtaai.table s, Vbtaai.ranks s, c, j + 1, ?_, hl3.sub fun _ _ => trivial, sb3 rk _ hrk2 rkp, sb3 cd _ hcd2 cdp, nd, fun m hm => by rw [zd1]; exact zq9 (hks m hm), by rw [zl3, zd1], by rw [zd1]; exact c1, zl9 W, fun H4 r sm4 hr hr4 => ?_⟩
   ·have : (k0 : Int) + (i : Int) * -1 = ((j + 1 : Nat) : Int) := by omega
    rw [this]
   ·have hp3 : ∃ o, H3 p = some o := let ⟨_, _, _, _, _, _, _, _, _, z, _⟩ := S3; ⟨_, z⟩
    obtain ⟨o3, hp3⟩ := hp3
    refine hP1 _ _ _ ?_
    rw [hj2]
    exact ⟨F3, r, _, _, rfl, (sb.trans sb3).trans (zc.of sm4), gr.trans gr3 (sb.out h2), S3.same sm4, sm4 _ _ (sb3 rk _ hrk2 rkp), (ne_of_none hp3 hr).symm, hr4, w2, w3, w1.trans hsum⟩
  ·rintro σ H' ⟨F', cd, c, rv, rfl, sb, gr, S2, hrk2, cdp, hcd2, nd, hks, hsum⟩
   rw [Nat.sub_self] at hks hsum
   simp? [hcd2]
   refine ⟨⟨_, rfl⟩, fun v hv => ?_⟩
   have cdv : cd ≠ v := ne_of_none hcd2 hv
   refine ⟨cd, upd_same, kvN c, (by rw [upd_ne cdv]; exact hcd2), (c.map (·.2)).map Int.ofNat, by unfold kvN; rw [List.map_map, List.map_map, List.map_map]; rfl, by decide, ?_⟩
   have hw1 := zz28 c (wv s 0) fun _ _ => rfl
   rw [hw1, Nat.mod_eq_of_lt (wv_lt s n k0), <- zf29 hk] at hsum
   have fin := k (upd H' v (vvO v cd)) F' (sb.trans (zc.of (Same.rfl'.new hv))) gr (S2.same (Same.rfl'.new hv))
   have ev : ((c.map (·.2)).map Int.ofNat).sum % 1000000007 = (Vbtaai.ways s n : Int) := by
    rw [zm22, <- hsum]
    show _ = (((c.map (·.2)).sum % 1000000007 : Nat) : Int)
    omega
   rw [ev]
   exact fin
end
section
variable {P : Program} {w : World} {K : W.Frag} {mg : Str -> Option Value} {base : Heap}
open Vbtaai (places decode encode count told)
abbrev vB (l : List Bool) : List V := l.map V.bl
theorem atB {f : Nat -> Bool} {N n : Nat} (h : n < N) : atI (vB ((List.range N).map f)) (n : Int) = some (.bl (f n)) := by
 refine atI_nat ?_
 rw [List.getElem?_map, List.getElem?_map, List.getElem?_range h]
 rfl
theorem za30 (l : List Bool) (b : Bool) : vB l ++ [.bl b] = vB (l ++ [b]) := by
 show vB l ++ List.map V.bl [b] = _
 exact List.map_append.symm
noncomputable def zo19 (C : Addr) : Sp := fun vs H Q _ => ∃ (p : Addr) (F : Addr -> Prop) (s : Story) (n v x : Nat), vs = [.ref p, .int n, .int v, .int x] /\ zj C F H p s /\ n < count s /\ v < s.sizes.length /\
 ∀ H' F', zc p H H' -> Grow F H F' -> zj C F' H' p s -> Q (.bl (!Vbtaai.must s n v x)) H'
theorem zs2 : FnScope ["story", "start", "v", "x", "total", "n", "without", "ahead", "distances"] ["story", "start", "v", "x"] (defScope (top 70)) := by simp_all? only
theorem zp19 (T : Txt K mg) : FnOk P w K mg base CX0 5 T.zn8.f T.zn8.fd ["story", "start", "v", "x"] (zo19 T.za.C) := by
 have zx := @zr2 P w K mg base T
 have zx3 := @zf6 P w K mg base T
 refine T.zn8.F.ok zs2 (fun _ _ _ _ h => ?_) (fun _ _ _ _ H vs Q E hr h => ?_)
 ·obtain ⟨p, F, s, n, v, x, rfl, _⟩ := h
  rfl
 ·obtain ⟨p, F, s, n, v, x, rfl, S, hn, hv, k⟩ := h
  have S' := S
  obtain ⟨W, dx, sz, sv, ks, ef, tu, ka, kr, h1, h2, h3, h4, R, dm⟩ := S'
  refine ⟨_, (pss_cons (ps_set (i := 4) zs2.nd rfl (by simp_all?) (pln T.len (zd T.za.cl T.zk (pv 0) rfl)))
   (pss_cons (ps_set (i := 6) zs2.nd rfl (by simp_all?) (pe_lc rfl zs2.nd (pi_range1 rfl T.range (pa_cons (pv 4) pa_nil)) (own := [("n", 5)]) (blkOk_by (by kernel_rfl)) (fun _ _ _ _ _ => pg_name (i := 5) zs2.nd rfl (by simp_all?)) (fun _ _ _ _ _ => by exact pts_nil) (fun _ _ _ _ _ => by exact (pe_cmpR op_ne (pix (pix (zd T.za.cl T.zs1 (pv 0) rfl) (pv 5)) (pv 2)) (pv 3) (nomark _)))))
   (pss_cons (ps_set (i := 7) zs2.nd rfl (by simp_all?) (zj1 T.za.cl T.zi1 zx (hr.mono (by decide)) (pv 0)))
   (pss_cons (ps_set (i := 8) zs2.nd rfl (by simp_all?) (zm T.zw3 zx3 (hr.mono (by decide)) (pa_cons (pe_lc rfl zs2.nd (pi_range1 rfl T.range (pa_cons (pv 4) pa_nil)) (own := [("n", 5)]) (blkOk_by (by kernel_rfl)) (fun _ _ _ _ _ => pg_name (i := 5) zs2.nd rfl (by simp_all?)) (fun _ _ _ _ _ => by exact pts_nil) (fun _ _ _ _ _ => by exact (pe_ifExp (pt_val (pix (pv 6) (pv 5))) (pix (pv 7) (pv 5)) (pe_lst pa_nil)))) (pa_cons (pv 1) pa_nil))))
   (pss_cons (ps_for PassesOwn.never rfl (pi_range1 rfl T.range (pa_cons (pv 4) pa_nil)) (pg_name (i := 5) zs2.nd rfl (by simp_all?))
   (pss_one (ps_if (pw_and (pt_cmpR op_gt (pix (pv 8) (pv 5)) pe_int (nomark _)) (pw_and (pt_val (pix (pv 6) (pv 5))) (pw_and1 (pt_cmpR op_eq (pix (zd T.za.cl T.zk (pv 0) rfl) (pv 5)) (zg T.zi10) (nomark _))))).pt (pss_one (ps_ret pe_bl)) pss_nil)))
   (pss_one (ps_ret pe_bl))))))), ?_⟩
  simp only [st_c, st_n, st_z]
  have hz := szL
  have c1 := W.cnt
  have hkl : (zi s).length = count s := by unfold zi; rw [List.length_map, zy]
  let wo (m : Nat) : Bool := !((decode s.sizes m).getD v 0 == x)
  simp? only [h1, R.ks.2, List.length_map, hkl]
  refine lcRo (n := count s) (fun D i H' => H' = upd H D (.lst (vB ((List.range i).map wo))))
   (fun R' h => by simp? []; exact h) (by omega) (fun D hD => rfl) ?_ ?_
  ·rintro P1 hP1 D i H' hD hi rfl
   obtain ⟨vs, q, g1, g2, g3, g4, g5⟩ := R.sv.get (i := i) (by rw [List.length_map, zy]; exact hi)
   rw [zf1 hi] at g5
   have hl := zw7 (zq3 i W.pos)
   have e1 := atN (l := decode s.sizes i) (i := v) (by omega)
   simp? only [wipe, tYes, List.map_cons, List.map_nil, upd_ne (ne_of_none h1 hD), upd_ne (ne_of_none g1 hD), upd_ne (ne_of_none g5 hD), h1, g1, g2, g5, e1, upd_same]
   refine ⟨by simp; omega, hP1 _ _ _ ?_⟩
   rw [upd_upd, za30, zg8]
   congr 5
   show _ = !((decode s.sizes i).getD v 0 == x)
   rw [Bool.eq_iff_iff, Bool.not_eq_true', decide_eq_false_iff_not, Bool.not_eq_true', beq_eq_false_iff_ne]
   omega
  ·rintro wi H1 hwi rfl
   have wip : p ≠ wi := ne_of_none h1 hwi
   have S1 := S.same (Same.rfl'.new (o := .lst (vB ((List.range (count s)).map wo))) hwi)
   simp? only [upd_ne wip, h1]
   unfold zu4
   refine ⟨p, F, s, rfl, S1, fun H2 F2 q sb2 gr2 S2 hl2 => ?_⟩
   have hwi2 : H2 wi = some (.lst (vB ((List.range (count s)).map wo))) := sb2 wi _ upd_same wip.symm
   have S2' := S2
   obtain ⟨_, dx2, sz2, sv2, ks2, ef2, tu2, ka2, kr2, j1, j2, j3, j4, R2, dm2⟩ := S2'
   have sbH : zc p H H2 := fun a o h hne => sb2 a o (by rw [upd_ne (ne_of_none h hwi)]; exact h) hne
   have grH : Grow F H F2 := fun a h => (gr2 a h).elim .inl fun z => .inr (by
    by_cases e : a = wi
    ·rw [e]; exact hwi
    ·rw [upd_ne e] at z; exact z)
   simp? []
   refine lcRo (n := count s) (fun D i H' => ∃ ps : List Addr, H' D = some (.lst (ps.map V.ref)) /\ ps.length = i /\ Same H2 H' /\ ∀ j a, ps[j]? = some a -> a ≠ D /\ H' a = some (.lst (vN (if wo j = true then (Vbtaai.table s).getD j [] else []))))
    (fun R' h => by simp? []; exact h) (by omega) (fun D hD => ⟨[], upd_same, rfl, Same.rfl'.new hD, by simp⟩) ?_ ?_
   ·rintro P1 hP1 D i H' hD hi ⟨ps, e1, e2, sm, e3⟩
    obtain ⟨vs, q2, g1, g2, g3, g4, g5⟩ := hl2.get (i := i) (by rw [List.length_map, zd1]; exact hi)
    rw [zw6] at g5
    have ew := atB (f := wo) hi
    have snoc : ∀ (a : Addr) (H3 : Hp), Same H' H3 -> a ≠ D -> H3 a = some (.lst (vN (if wo i = true then (Vbtaai.table s).getD i [] else []))) -> ∀ j a', (ps ++ [a])[j]? = some a' -> a' ≠ D /\ upd H3 D (.lst ((ps ++ [a]).map V.ref)) a' = some (.lst (vN (if wo j = true then (Vbtaai.table s).getD j [] else []))) := by
     intro a H3 s3 haD ha3 j a' hj
     by_cases hlt : j < i
     ·rw [List.getElem?_append_left (by omega)] at hj
      obtain ⟨f1, f2⟩ := e3 j a' hj
      exact ⟨f1, by rw [upd_ne f1]; exact s3 _ _ f2⟩
     ·rw [List.getElem?_append_right (by omega)] at hj
      have hj0 : j - ps.length = 0 := by
       have := (List.getElem?_eq_some_iff.mp hj).1
       simp at this
       omega
      rw [hj0] at hj
      cases hj
      have : j = i := by omega
      subst this
      exact ⟨haD, by rw [upd_ne haD]; exact ha3⟩
    simp? [wipe, tYes, List.map_cons, List.map_nil, sm wi _ hwi2, ew]
    split
    ·rename_i hb
     simp? [sm q _ g1, g2]
     have hq2D : q2 ≠ D := ne_of_none g5 hD
     refine ⟨_, e1, by rw [List.length_map]; omega, hP1 _ _ _ ⟨ps ++ [q2], by rw [upd_same, List.map_append]; rfl, by simp [e2], sm.new hD, ?_⟩⟩
     have := snoc q2 H' Same.rfl' hq2D (by rw [if_pos hb]; exact sm q2 _ g5)
     rw [List.map_append] at this
     exact this
    ·rename_i hb
     simp? [List.length_nil, Nat.zero_le]
     intro a ha
     have haD : D ≠ a := ne_of_none e1 ha
     refine ⟨_, by rw [upd_ne haD]; exact e1, by rw [List.length_map]; omega, hP1 _ _ _ ⟨ps ++ [a], by rw [upd_same, List.map_append]; rfl, by simp [e2], (sm.new (sm.free ha)).new hD, ?_⟩⟩
     have := snoc a (upd H' a (.lst [])) (Same.rfl'.new ha) haD.symm (by rw [if_neg hb, upd_same]; rfl)
     rw [List.map_append] at this
     exact this
   ·rintro cu H3 hcu ⟨ps, e1, e2, sm, e3⟩
    have hct : (zq4 (Vbtaai.table s) wo).length = count s := by unfold zq4; simp [zd1]
    have hce : ∀ i, i < count s -> (zq4 (Vbtaai.table s) wo).getD i [] = if wo i = true then (Vbtaai.table s).getD i [] else [] := fun i hi => by unfold zq4; rw [zd1, zc2, if_pos hi]
    simp? []
    unfold zp8
    refine ⟨cu, zq4 (Vbtaai.table s) wo, n, rfl, ⟨trivial, ps, e1, by rw [List.length_map, hct]; exact e2, fun i a ha => ⟨trivial, ?_⟩⟩, by omega, by omega, fun m hm a ha => ?_, fun H4 di sm4 hdi hdi4 => ?_⟩
    ·have hi : i < count s := by have := (List.getElem?_eq_some_iff.mp ha).1; omega
     rw [zw6, hce i hi]
     exact (e3 i a ha).2
    ·rw [hct] at hm ⊢
     rw [hce m hm] at ha
     split at ha
     ·have := zl9 W m (by rw [zd1]; exact hm) a ha
      rw [zd1] at this
      exact this
     ·cases ha
    ·have hdl : (zd3 (zq4 (Vbtaai.table s) wo) n).length = count s := by unfold zd3; simp [hct]
     have sm24 : Same H2 H4 := sm.trans sm4
     have kk : ∀ b, b = !Vbtaai.must s n v x -> Q (V.bl b) H4 := fun b e => e ▸ k H4 F2 (sbH.trans (zc.of sm24)) grH (S2.same sm24)
     refine zp23 (n := count s) (fun i σ H' => ∃ nv, σ = [some (.ref p), some (.int n), some (.int v), some (.int x), some (.int (count s : Nat)), nv, some (.ref wi), some (.ref q), some (.ref di)] /\ H' = H4 /\
       ∀ m, m < i -> ¬ ((zd3 (zq4 (Vbtaai.table s) wo) n).getD m 0 ≠ 0 /\ ((decode s.sizes m).getD v 0 == x) = false /\ zh s m = 1))
      (fun R h => by simp? []; exact h) (by omega) ⟨_, rfl, rfl, fun m hm => absurd hm (Nat.not_lt_zero m)⟩ ?_ ?_
     ·rintro P1 hP1 i σ H' hi ⟨nv, rfl, rfl, hno⟩
      have ed := atN (l := zd3 (zq4 (Vbtaai.table s) wo) n) (i := i) (by omega)
      have ew := atB (f := wo) hi
      have ek := atN (l := zi s) (i := i) (by omega)
      rw [show (zi s).getD i 0 = zh s i from zf1 hi] at ek
      have hstep : ¬ ((zd3 (zq4 (Vbtaai.table s) wo) n).getD i 0 ≠ 0 /\ ((decode s.sizes i).getD v 0 == x) = false /\ zh s i = 1) -> ∀ m, m < i + 1 -> ¬ ((zd3 (zq4 (Vbtaai.table s) wo) n).getD m 0 ≠ 0 /\ ((decode s.sizes m).getD v 0 == x) = false /\ zh s m = 1) := fun h m hm => by
       by_cases e : m = i
       ·rw [e]; exact h
       ·exact hno m (by omega)
      simp? [hdi4, ed]
      split
      ·rename_i h5
       simp? [sm24 wi _ hwi2, ew]
       split
       ·rename_i h6
        have h6 : ((decode s.sizes i).getD v 0 == x) = false := by simpa [wo] using h6
        simp? only [sm24 p _ j1, sm24 _ _ R2.ks.2, ek]
        split
        ·rename_i h7
         refine kk _ ?_
         rw [(za24 W hn).mpr ⟨i, hi, (show (zd3 (zq4 (Vbtaai.table s) wo) n).getD i 0 ≠ 0 by omega), h6, by omega⟩]
         rfl
        ·rename_i h7
         exact hP1 _ _ _ ⟨_, rfl, rfl, hstep fun z => h7 (by rw [z.2.2]; rfl)⟩
       ·rename_i h6
        exact hP1 _ _ _ ⟨_, rfl, rfl, hstep fun z => h6 (by show (!((decode s.sizes i).getD v 0 == x)) = true; rw [z.2.1]; rfl)⟩
      ·rename_i h5
       exact hP1 _ _ _ ⟨_, rfl, rfl, hstep fun z => h5 (by omega)⟩
     ·rintro σ H' ⟨nv, rfl, rfl, hno⟩
      simp? []
      refine kk _ ?_
      cases hm : Vbtaai.must s n v x with
      | true => rfl
      | false =>
       obtain ⟨m, f1, f2⟩ := (za24 W hn).mp hm
       exact absurd f2 (hno m f1)
noncomputable def zn (s : Story) : List Nat := (places s).filter fun n => (Vbtaai.distance s (encode s.sizes s.first) n).isSome
noncomputable def zn24 (C : Addr) : Sp := fun vs H Q _ => ∃ (p : Addr) (F : Addr -> Prop) (s : Story), vs = [.ref p] /\ zj C F H p s /\
 ∀ H' F' q, zc p H H' -> Grow F H F' -> zj C F' H' p s -> H' q = some (.lst (vN [(zn s).length, ((zn s).filter fun n => zh s n == 1).length, ((zn s).filter fun n => zh s n == 2).length,
  ((zn s).filter fun n => zh s n == 0 && (Vbtaai.rank s n).isSome).length, ((zn s).filter fun n => zh s n == 0 && (Vbtaai.rank s n).isNone).length])) -> Q (.ref q) H'
theorem zh2 : FnScope ["story", "distances", "ranks", "n", "met", "good", "bad", "lost"] ["story"] (defScope (top 71)) := by simp_all? only
theorem zl14 {o : Option Nat} : (0 : Int) < (told o : Nat) ↔ o.isSome = true := by
 cases o with
 | none => simp [told]
 | some j => constructor <;> intro _ <;> first | rfl | (show (0 : Int) < ((j + 1 : Nat) : Int); omega)
theorem zo24 (T : Txt K mg) : FnOk P w K mg base CX0 6 T.zd11.f T.zd11.fd ["story"] (zn24 T.za.C) := by
 have zx := @zr2 P w K mg base T
 have zl1 := @zh3 P w K mg base T
 have zx3 := @zf6 P w K mg base T
 refine T.zd11.F.ok zh2 (fun _ _ _ _ h => ?_) (fun _ _ _ _ H vs Q E hr h => ?_)
 ·obtain ⟨p, F, s, rfl, _⟩ := h
  rfl
 ·obtain ⟨p, F, s, rfl, S, k⟩ := h
  have S' := S
  obtain ⟨W, dx, sz, sv, ks, ef, tu, ka, kr, h1, h2, h3, h4, R, dm⟩ := S'
  refine ⟨_, (pss_cons (ps_set (i := 1) zh2.nd rfl (by simp_all?) (zm T.zw3 zx3 (hr.mono (by decide)) (pa_cons (zj1 T.za.cl T.zi1 zx (hr.mono (by decide)) (pv 0)) (pa_cons (zd T.za.cl T.zw4 (pv 0) rfl) pa_nil))))
   (pss_cons (ps_set (i := 2) zh2.nd rfl (by simp_all?) (zj1 T.za.cl T.ze2 zl1 (hr.mono (by decide)) (pv 0)))
   (pss_cons (ps_setLc (i := 4) rfl zh2.nd rfl rfl (sw_true rfl rfl rfl rfl) (pi_range1 rfl T.range (pa_cons (pln T.len (pv 1)) pa_nil)) (own := [("n", 3)]) (blkOk_by (by kernel_rfl)) (fun _ _ _ _ _ => pg_name (i := 3) zh2.nd rfl (by simp_all?)) (fun _ _ _ _ _ => by exact (pts_one (pt_cmpR op_gt (pix (pv 1) (pv 3)) pe_int (nomark _)))) (fun _ _ _ _ _ => by exact (pv 3)))
   (pss_cons (ps_set (i := 5) zh2.nd rfl (by simp_all?) (pln T.len (pe_lc rfl zh2.nd (pi_list (pv 4)) (own := [("n", 3)]) (blkOk_by (by kernel_rfl)) (fun _ _ _ _ _ => pg_name (i := 3) zh2.nd rfl (by simp_all?)) (fun _ _ _ _ _ => by exact (pts_one (pt_cmpR op_eq (pix (zd T.za.cl T.zk (pv 0) rfl) (pv 3)) (zg T.zi10) (nomark _)))) (fun _ _ _ _ _ => by exact (pv 3)))))
   (pss_cons (ps_set (i := 6) zh2.nd rfl (by simp_all?) (pln T.len (pe_lc rfl zh2.nd (pi_list (pv 4)) (own := [("n", 3)]) (blkOk_by (by kernel_rfl)) (fun _ _ _ _ _ => pg_name (i := 3) zh2.nd rfl (by simp_all?)) (fun _ _ _ _ _ => by exact (pts_one (pt_cmpR op_eq (pix (zd T.za.cl T.zk (pv 0) rfl) (pv 3)) (zg T.zw15) (nomark _)))) (fun _ _ _ _ _ => by exact (pv 3)))))
   (pss_cons (ps_set (i := 7) zh2.nd rfl (by simp_all?) (pln T.len (pe_lc rfl zh2.nd (pi_list (pv 4)) (own := [("n", 3)]) (blkOk_by (by kernel_rfl)) (fun _ _ _ _ _ => pg_name (i := 3) zh2.nd rfl (by simp_all?)) (fun _ _ _ _ _ => by exact (pts_one (pw_and (pt_cmpR op_eq (pix (zd T.za.cl T.zk (pv 0) rfl) (pv 3)) (zg T.ze13) (nomark _)) (pw_and1 (pt_cmpR op_eq (pix (pv 2) (pv 3)) pe_int (nomark _)))).pt)) (fun _ _ _ _ _ => by exact (pv 3)))))
   (pss_one (ps_ret (pe_lst (pa_cons (pln T.len (pv 4)) (pa_cons (pv 5) (pa_cons (pv 6) (pa_cons (pe_op op_sub (pe_op op_sub (pe_op op_sub (pln T.len (pv 4)) (pv 5)) (pv 6)) (pv 7)) (pa_cons (pv 7) pa_nil)))))))))))))), ?_⟩
  simp only [st_c, st_n, st_z]
  have hz := szL
  have c1 := W.cnt
  have hkl : (zi s).length = count s := by unfold zi; rw [List.length_map, zy]
  have hfirst : encode s.sizes s.first < count s := zu6 W.fst
  simp? only [h1]
  unfold zu4
  refine ⟨p, F, s, rfl, S, fun H1 F1 q sb1 gr1 S1 hl1 => ?_⟩
  have S1' := S1
  obtain ⟨_, dx1, sz1, sv1, ks1, ef1, tu1, ka1, kr1, i1, i2, i3, i4, R1, dm1⟩ := S1'
  simp? only [i1]
  unfold zp8
  refine ⟨q, Vbtaai.table s, encode s.sizes s.first, rfl, hl1.sub fun _ _ => trivial, by rw [zd1]; exact c1, by rw [zd1]; exact hfirst, zl9 W, fun H2 di sm2 hdi hdi2 => ?_⟩
  have S2 := S1.same sm2
  simp? only [sm2 p _ i1]
  unfold zy10
  have dip : di ≠ p := (ne_of_none i1 hdi).symm
  refine ⟨p, F1, s, rfl, S2, fun H3 F3 rk sb3 gr3 S3 frk rkp hrk => ?_⟩
  have hdi3 := sb3 di _ hdi2 dip
  have S3' := S3
  obtain ⟨_, dx3, sz3, sv3, ks3, ef3, tu3, ka3, kr3, l1, l2, l3, l4, R3, dm3⟩ := S3'
  have hdl : (zd3 (Vbtaai.table s) (encode s.sizes s.first)).length = count s := zp17
  have sbA : zc p H H3 := (sb1.trans (zc.of sm2)).trans sb3
  have grA : Grow F H F3 := gr1.trans (H' := H2) gr3 fun a o h hF => sm2 a o (sb1.out h2 a o h hF)
  simp? []
  refine lcRo (n := count s) (fun D i H' => H' = upd H3 D (.lst (vN ((List.range i).filter fun n => (Vbtaai.distance s (encode s.sizes s.first) n).isSome))))
   (fun R' h => by simp? [hdi3, List.length_map, hdl]; exact h) (by omega) (fun D hD => rfl) ?_ ?_
  ·rintro P1 hP1 D i H' hD hi rfl
   have ed := atN (l := zd3 (Vbtaai.table s) (encode s.sizes s.first)) (i := i) (by omega)
   rw [za21 hi] at ed
   have hle := zy6 (fun n => (Vbtaai.distance s (encode s.sizes s.first) n).isSome) i
   simp? [wipe, tYes, List.map_cons, List.map_nil, upd_ne (ne_of_none hdi3 hD), hdi3, ed]
   split
   ·rename_i h
    rw [zl14] at h
    simp? [upd_same]
    refine ⟨by rw [List.length_map]; omega, hP1 _ _ _ ?_⟩
    rw [upd_upd, zf4, if_pos h, zn3 _ (by omega), Int.toNat_natCast]
   ·rename_i h
    rw [zl14] at h
    refine hP1 _ _ _ ?_
    rw [zf4, if_neg h, List.append_nil]
  ·rintro me H4 hme rfl
   have eL : (List.range (count s)).filter (fun n => (Vbtaai.distance s (encode s.sizes s.first) n).isSome) = zn s := rfl
   rw [eL]
   have hmL : ∀ m ∈ zn s, m < count s := fun m hm => List.mem_range.mp (List.mem_filter.mp hm).1
   have hLl : (zn s).length <= count s := by rw [<- eL]; exact zy6 _ _
   generalize hH4 : upd H3 me (.lst (vN (zn s))) = H4
   have sm4 : Same H3 H4 := by rw [<- hH4]; exact Same.rfl'.new hme
   have me4 : H4 me = some (.lst (vN (zn s))) := by rw [<- hH4]; exact upd_same
   have flen : ∀ (p : Nat -> Bool) (i : Nat), (((zn s).take i).filter p).length <= count s := fun p i => Nat.le_trans (List.length_filter_le _ _) (Nat.le_trans (List.length_take_le' _ _) hLl)
   simp? []
   refine lcLo (xs := vN (zn s)) (a := me) (H1 := H4) (fun D i H' => H' = upd H4 D (.lst (vN (((zn s).take i).filter fun n => zh s n == 1))))
    (fun R' h => by simp? []; exact h) (fun D hD => rfl) (SqL.of me4) (fun D i H' hD _ e => by rw [e]; exact SqL.of (by rw [upd_ne (ne_of_none me4 hD)]; exact me4)) ?_ ?_
   ·rintro P1 hP1 D i x H' hD hx rfl
    obtain ⟨rfl, hi⟩ := zi5 hx
    have hm := zv3 (d := 0) hmL hi
    have ek := atN (l := zi s) (i := (zn s).getD i 0) (by omega)
    rw [show (zi s).getD ((zn s).getD i 0) 0 = zh s ((zn s).getD i 0) from zf1 hm] at ek
    have hfl := flen (fun n => zh s n == 1) i
    simp? only [wipe, tYes, List.map_cons, List.map_nil, upd_ne (ne_of_none (sm4 p _ l1) hD), sm4 p _ l1, upd_ne (ne_of_none (sm4 _ _ R3.ks.2) hD), sm4 _ _ R3.ks.2, ek]
    split
    ·rename_i h
     simp? [upd_same]
     refine ⟨by rw [List.length_map]; omega, hP1 _ _ _ ?_⟩
     rw [upd_upd, zi2 hi, if_pos (by rw [beq_iff_eq]; omega), zn3 _ (by omega), Int.toNat_natCast]
    ·rename_i h
     refine hP1 _ _ _ ?_
     rw [zi2 hi, if_neg (by rw [beq_iff_eq]; omega), List.append_nil]
   rintro gd H5' hgd rfl
   rw [List.length_map, List.take_length]
   generalize hH5 : upd H4 gd _ = H5
   have sm5 : Same H4 H5 := by rw [<- hH5]; exact Same.rfl'.new hgd
   have gd5 : H5 gd = some (.lst (vN ((zn s).filter fun n => zh s n == 1))) := by rw [<- hH5]; exact upd_same
   have me5 := sm5 me _ me4
   have sm35 := sm4.trans sm5
   simp? [gd5, List.length_map]
   refine lcLo (xs := vN (zn s)) (a := me) (H1 := H5) (fun D i H' => H' = upd H5 D (.lst (vN (((zn s).take i).filter fun n => zh s n == 2))))
    (fun R' h => by simp? []; exact h) (fun D hD => rfl) (SqL.of me5) (fun D i H' hD _ e => by rw [e]; exact SqL.of (by rw [upd_ne (ne_of_none me5 hD)]; exact me5)) ?_ ?_
   ·rintro P1 hP1 D i x H' hD hx rfl
    obtain ⟨rfl, hi⟩ := zi5 hx
    have hm := zv3 (d := 0) hmL hi
    have ek := atN (l := zi s) (i := (zn s).getD i 0) (by omega)
    rw [show (zi s).getD ((zn s).getD i 0) 0 = zh s ((zn s).getD i 0) from zf1 hm] at ek
    have hfl := flen (fun n => zh s n == 2) i
    simp? only [wipe, tYes, List.map_cons, List.map_nil, upd_ne (ne_of_none (sm35 p _ l1) hD), sm35 p _ l1, upd_ne (ne_of_none (sm35 _ _ R3.ks.2) hD), sm35 _ _ R3.ks.2, ek]
    split
    ·rename_i h
     simp? [upd_same]
     refine ⟨by rw [List.length_map]; omega, hP1 _ _ _ ?_⟩
     rw [upd_upd, zi2 hi, if_pos (by rw [beq_iff_eq]; omega), zn3 _ (by omega), Int.toNat_natCast]
    ·rename_i h
     refine hP1 _ _ _ ?_
     rw [zi2 hi, if_neg (by rw [beq_iff_eq]; omega), List.append_nil]
   rintro bd H6' hbd rfl
   rw [List.length_map, List.take_length]
   generalize hH6 : upd H5 bd _ = H6
   have sm6 : Same H5 H6 := by rw [<- hH6]; exact Same.rfl'.new hbd
   have bd6 : H6 bd = some (.lst (vN ((zn s).filter fun n => zh s n == 2))) := by rw [<- hH6]; exact upd_same
   have me6 := sm6 me _ me5
   have sm36 := sm35.trans sm6
   simp? [bd6, List.length_map]
   refine lcLo (xs := vN (zn s)) (a := me) (H1 := H6) (fun D i H' => H' = upd H6 D (.lst (vN (((zn s).take i).filter fun n => zh s n == 0 && (Vbtaai.rank s n).isNone))))
    (fun R' h => by simp? []; exact h) (fun D hD => rfl) (SqL.of me6) (fun D i H' hD _ e => by rw [e]; exact SqL.of (by rw [upd_ne (ne_of_none me6 hD)]; exact me6)) ?_ ?_
   ·rintro P1 hP1 D i x H' hD hx rfl
    obtain ⟨rfl, hi⟩ := zi5 hx
    have hm := zv3 (d := 0) hmL hi
    have ek := atN (l := zi s) (i := (zn s).getD i 0) (by omega)
    rw [show (zi s).getD ((zn s).getD i 0) 0 = zh s ((zn s).getD i 0) from zf1 hm] at ek
    have er := atN (l := Vbtaai.ranks s) (i := (zn s).getD i 0) (by rw [zl3]; exact hm)
    rw [zh5 hm] at er
    have hfl := flen (fun n => zh s n == 0 && (Vbtaai.rank s n).isNone) i
    simp? only [wipe, tYes, List.map_cons, List.map_nil, upd_ne (ne_of_none (sm36 p _ l1) hD), sm36 p _ l1, upd_ne (ne_of_none (sm36 _ _ R3.ks.2) hD), sm36 _ _ R3.ks.2, ek]
    split
    ·rename_i h
     simp? [upd_ne (ne_of_none (sm36 rk _ hrk) hD), sm36 rk _ hrk, er]
     split
     ·rename_i h'
      have h'' : (Vbtaai.rank s ((zn s).getD i 0)).isNone = true := by
       rw [Option.isNone_iff_eq_none, <- zf11]
       omega
      simp? [upd_same]
      refine ⟨by rw [List.length_map]; omega, hP1 _ _ _ ?_⟩
      rw [upd_upd, zi2 hi, if_pos (by rw [h'', Bool.and_true, beq_iff_eq]; omega), zn3 _ (by omega), Int.toNat_natCast]
     ·rename_i h'
      have h'' : (Vbtaai.rank s ((zn s).getD i 0)).isNone = false := by
       rw [Option.isNone_eq_false_iff, Option.isSome_iff_ne_none, Ne, <- zf11]
       omega
      refine hP1 _ _ _ ?_
      rw [zi2 hi, if_neg (by rw [h'', Bool.and_false]; exact Bool.false_ne_true), List.append_nil]
    ·rename_i h
     refine hP1 _ _ _ ?_
     rw [zi2 hi, if_neg (by rw [show (zh s ((zn s).getD i 0) == 0) = false by simp only [beq_eq_false_iff_ne]; omega, Bool.false_and]; exact Bool.false_ne_true), List.append_nil]
   rintro lo H7' hlo rfl
   rw [List.length_map, List.take_length]
   generalize hH7 : upd H6 lo _ = H7
   have sm7 : Same H6 H7 := by rw [<- hH7]; exact Same.rfl'.new hlo
   have lo7 : H7 lo = some (.lst (vN ((zn s).filter fun n => zh s n == 0 && (Vbtaai.rank s n).isNone))) := by rw [<- hH7]; exact upd_same
   have me7 := sm7 me _ me6
   have sm37 := sm36.trans sm7
   simp? [lo7, me7, List.length_map, List.length_cons, List.length_nil]
   refine ⟨by omega, fun an han => ?_⟩
   refine k _ F3 an (sbA.trans (zc.of (sm37.new (sm37.free han)))) grA (S3.same (sm37.new (sm37.free han))) ?_
   rw [upd_same]
   have hsp := zj22 (s := s) (fun n => (Vbtaai.rank s n).isSome) (zn s)
   have hne : ∀ n, (!(Vbtaai.rank s n).isSome) = (Vbtaai.rank s n).isNone := fun n => by cases Vbtaai.rank s n <;> rfl
   simp only [hne] at hsp
   congr 2
   have e4 : (((zn s).length : Int) - (((zn s).filter fun n => zh s n == 1).length : Int) - (((zn s).filter fun n => zh s n == 2).length : Int) - (((zn s).filter fun n => zh s n == 0 && (Vbtaai.rank s n).isNone).length : Int)) = (((zn s).filter fun n => zh s n == 0 && (Vbtaai.rank s n).isSome).length : Int) := by omega
   rw [e4]
   rfl
end
section
variable {P : Program} {w : World} {K : W.Frag} {mg : Str -> Option Value} {base : Heap}
open Vbtaai (places decode encode count told)
noncomputable def due : List (Int × Bool) -> Int
 | [] => 0
 | (n, b) :: l => if b = true then n else due l
theorem za2 {n : Int} {b : Bool} {l : List (Int × Bool)} (h : b = true) : due ((n, b) :: l) = n := by rw [due, if_pos h]
theorem zw1 {n : Int} {b : Bool} {l : List (Int × Bool)} (h : b = false) : due ((n, b) :: l) = due l := by rw [due, h]; rfl
noncomputable def zu13 (z : List Int) : Bool := decide (1 <= z.length) && (decide (z.length <= 8) && (z.all (fun n => inr n 2 8) && decide (Vbtaai.product (nats z) <= 1024)))
noncomputable def zv13 : Sp := fun vs H Q _ => ∃ (a : Addr) (z : List Int), vs = [.ref a] /\ H a = some (.lst (vI z)) /\ Q (.bl (zu13 z)) H
theorem zw13 : FnScope ["sizes", "size"] ["sizes"] (defScope (top 49)) := by simp_all? only
theorem zq19 {l : List Int} {i : Nat} {x : V} (h : (vI l)[i]? = some x) : x = V.int (l.getD i 0) /\ i < l.length := by
 rw [List.getElem?_map] at h
 cases e : l[i]? with
 | none => rw [e] at h; cases h
 | some y =>
  rw [e] at h
  have hx : V.int y = x := Option.some.inj h
  refine ⟨?_, (List.getElem?_eq_some_iff.mp e).1⟩
  rw [List.getD_eq_getElem?_getD, e, <- hx]
  rfl
theorem zd2 {n lo hi : Int} : inr n lo hi = true ↔ lo <= n /\ n <= hi := by
 unfold inr
 rw [Bool.and_eq_true, decide_eq_true_eq, decide_eq_true_eq]
theorem zh8 {n lo hi : Int} (h : ¬ (lo <= n /\ n <= hi)) : inr n lo hi = false := by
 rw [<- Bool.not_eq_true, zd2]
 exact h
theorem zh21 (T : Txt K mg) : FnOk P w K mg base CX0 2 T.zj9.f T.zj9.fd ["sizes"] zv13 := by
 have zv8 := @zj11 P w K mg base T
 refine T.zj9.F.ok zw13 (fun _ _ _ _ h => ?_) (fun _ _ _ _ H vs Q E hr h => ?_)
 ·obtain ⟨a, z, rfl, _⟩ := h
  rfl
 ·obtain ⟨a, z, rfl, ha, k⟩ := h
  refine ⟨_, (pss_cons (ps_if (pt_not (pt_chain op_le op_le pe_int (pln T.len (pv 0)) (zg T.zl18))) (pss_one (ps_ret pe_bl)) pss_nil)
   (pss_cons (ps_for PassesOwn.never rfl (pi_list (pv 0)) (pg_name (i := 1) zw13.nd rfl (by simp_all?))
   (pss_one (ps_if (pt_not (pt_chain op_le op_le (zg T.zb25) (pv 1) (zg T.zi20))) (pss_one (ps_ret pe_bl)) pss_nil)))
   (pss_one (ps_ret (pe_cmpR op_le (zm T.zy4 zv8 (hr.mono (by decide)) (pa_cons (pv 0) pa_nil)) (zg T.zd23) (nomark _)))))), ?_⟩
  simp only [st_c, st_n, st_z]
  have kk : ∀ b, b = zu13 z -> Q (V.bl b) H := fun b e => e ▸ k
  unfold zu13 at kk
  simp? [ha, List.length_map]
  split
  ·rename_i h0
   simp? []
   split
   ·rename_i h1
    have e1 : decide (1 <= z.length) = true := by rw [decide_eq_true_eq]; omega
    have e2 : decide (z.length <= 8) = true := by rw [decide_eq_true_eq]; omega
    rw [e1, e2, Bool.true_and, Bool.true_and] at kk
    refine za11 (xs := vI z) (a := a) (fun i σ H' => ∃ nv, σ = [some (.ref a), nv] /\ H' = H /\ ∀ x ∈ z.take i, inr x 2 8 = true)
     (fun R h => by simp? []; exact h) ⟨_, rfl, rfl, by simp⟩ (fun i σ H' _ ⟨_, _, e, _⟩ => by rw [e]; exact SqL.of ha) ?_ ?_
    ·rintro P1 hP1 i x σ H' hx ⟨nv, rfl, rfl, e⟩
     obtain ⟨rfl, hi⟩ := zq19 hx
     have hmem : z.getD i 0 ∈ z := by rw [List.getD_eq_getElem?_getD, List.getElem?_eq_getElem hi]; exact List.getElem_mem hi
     have no : ¬ (2 <= z.getD i 0 /\ z.getD i 0 <= 8) -> false = (z.all (fun n => inr n 2 8) && decide (Vbtaai.product (nats z) <= 1024)) := fun h => by
      have : z.all (fun n => inr n 2 8) = false := by
       rw [<- Bool.not_eq_true, List.all_eq_true]
       exact fun hall => h (zd2.mp (hall _ hmem))
      rw [this]
      rfl
     have yes : 2 <= z.getD i 0 /\ z.getD i 0 <= 8 -> ∀ x ∈ z.take (i + 1), inr x 2 8 = true := fun h x hx => by
      rw [List.take_succ_eq_append_getElem hi] at hx
      rcases List.mem_append.mp hx with hx | hx
      ·exact e x hx
      ·rw [List.mem_singleton.mp hx]
       rw [List.getD_eq_getElem?_getD, List.getElem?_eq_getElem hi] at h
       exact zd2.mpr h
     simp? []
     split
     ·rename_i h2
      simp? []
      split
      ·rename_i h3
       exact hP1 _ _ _ ⟨_, rfl, rfl, yes ⟨by omega, by omega⟩⟩
      ·rename_i h3
       exact kk _ (no (by omega))
     ·rename_i h2
      simp? []
      exact kk _ (no (by omega))
    ·rintro σ H' ⟨nv, rfl, rfl, e⟩
     rw [List.length_map, List.take_length] at e
     have hall : z.all (fun n => inr n 2 8) = true := List.all_eq_true.mpr e
     rw [hall, Bool.true_and] at kk
     have hnn : ∀ x ∈ z, 0 <= x := fun x hx => by have := zd2.mp (e x hx); omega
     simp? []
     unfold zy7
     refine ⟨a, nats z, rfl, by rw [<- zr13 hnn]; exact ha, fun y hy => ?_, ?_⟩
     ·obtain ⟨x, hx, rfl⟩ := List.mem_map.mp hy
      have := zd2.mp (e x hx)
      omega
     ·simp? []
      refine kk _ ?_
      rw [Bool.eq_iff_iff, decide_eq_true_eq, decide_eq_true_eq]
      omega
   ·rename_i h1
    refine kk _ ?_
    rw [show decide (z.length <= 8) = false by rw [decide_eq_false_iff_not]; omega, Bool.false_and, Bool.and_false]
  ·rename_i h0
   simp? []
   refine kk _ ?_
   rw [show decide (1 <= z.length) = false by rw [decide_eq_false_iff_not]; omega]
   rfl
noncomputable def zb8 (z f : List Int) : Bool := decide (1 <= z.length) && (decide (z.length <= 8) && (z.all (fun n => inr n 2 8) && (Vbtaai.firstIn z f && decide (Vbtaai.product (nats z) <= 1024))))
theorem zj28 (z f : List Int) : zb8 z f = (zu13 z && Vbtaai.firstIn z f) := by
 unfold zb8 zu13
 cases decide (1 <= z.length) <;> cases decide (z.length <= 8) <;> cases z.all (fun n => inr n 2 8) <;> cases Vbtaai.firstIn z f <;> cases decide (Vbtaai.product (nats z) <= 1024) <;> rfl
theorem zf17 : ∀ {z f : List Int}, Vbtaai.firstIn z f = true -> f.length = z.length
 | [], [], _ => rfl
 | _ :: ss, _ :: vs, h => by
  have : (inr _ 0 _ && Vbtaai.firstIn ss vs) = true := h
  rw [Bool.and_eq_true] at this
  simp [zf17 this.2]
 | [], _ :: _, h => by cases h
 | _ :: _, [], h => by cases h
theorem zp24 : ∀ (z f : List Int) (i : Nat), f.length = z.length -> i < z.length -> Vbtaai.firstIn (z.drop i) (f.drop i) = (inr (f.getD i 0) 0 (z.getD i 0 - 1) && Vbtaai.firstIn (z.drop (i + 1)) (f.drop (i + 1))) := fun z f i hl hi => by
 rw [zm3 0 hi, zm3 0 (show i < f.length by omega)]
 rfl
noncomputable def zv17 : Sp := fun vs H Q _ => ∃ (a b : Addr) (z f : List Int), vs = [.ref a, .ref b] /\ H a = some (.lst (vI z)) /\ H b = some (.lst (vI f)) /\ Q (.int (due [(-1, !zb8 z f)])) H
theorem zm12 : FnScope ["sizes", "first_values", "v"] ["sizes", "first_values"] (defScope (top 50)) := by simp_all? only
theorem zw17 (T : Txt K mg) : FnOk P w K mg base CX0 3 T.zr7.f T.zr7.fd ["sizes", "first_values"] zv17 := by
 have zh23 := @zh21 P w K mg base T
 refine T.zr7.F.ok zm12 (fun _ _ _ _ h => ?_) (fun _ _ _ _ H vs Q E hr h => ?_)
 ·obtain ⟨a, b, z, f, rfl, _⟩ := h
  rfl
 ·obtain ⟨a, b, z, f, rfl, ha, hb, k⟩ := h
  refine ⟨_, (pss_cons (ps_if (pw_or (pt_not (pt_val (zm T.zj9 zh23 (hr.mono (by decide)) (pa_cons (pv 0) pa_nil)))) (pw_or1 (pt_cmpR op_ne (pln T.len (pv 1)) (pln T.len (pv 0)) (nomark _)))).pt (pss_one (ps_ret (zg T.zy3))) pss_nil)
   (pss_cons (ps_for PassesOwn.never rfl (pi_range1 rfl T.range (pa_cons (pln T.len (pv 0)) pa_nil)) (pg_name (i := 2) zm12.nd rfl (by simp_all?))
   (pss_one (ps_if (pt_not (pt_chain op_le op_lt pe_int (pix (pv 1) (pv 2)) (pix (pv 0) (pv 2)))) (pss_one (ps_ret (zg T.zy3))) pss_nil)))
   (pss_one (ps_ret (zg T.zr))))), ?_⟩
  simp only [st_c, st_n, st_z]
  have no : zb8 z f = false -> Q (V.int (-1)) H := fun h => by rw [h] at k; exact k
  have yes : zb8 z f = true -> Q (V.int 0) H := fun h => by rw [h] at k; exact k
  rw [zj28] at no yes
  simp? []
  unfold zv13
  refine ⟨a, z, rfl, ha, ?_⟩
  simp? []
  split
  ·rename_i h0
   exact no (by rw [h0]; rfl)
  ·rename_i h0
   rw [Bool.not_eq_false] at h0
   rw [h0, Bool.true_and] at no yes
   have hzl : z.length <= 8 := by
    unfold zu13 at h0
    simp only [Bool.and_eq_true, decide_eq_true_eq] at h0
    exact h0.2.1
   simp? [ha, hb, List.length_map]
   split
   ·rename_i h1
    have hl : f.length = z.length := by omega
    refine zp23 (n := z.length) (fun i σ H' => ∃ nv, σ = [some (.ref a), some (.ref b), nv] /\ H' = H /\ Vbtaai.firstIn z f = Vbtaai.firstIn (z.drop i) (f.drop i))
     (fun R h => by simp? [ha, List.length_map]; exact h) (by omega) ⟨_, rfl, rfl, rfl⟩ ?_ ?_
    ·rintro P1 hP1 i σ H' hi ⟨nv, rfl, rfl, e⟩
     rw [zp24 z f i hl hi] at e
     have e1 := atZ (l := f) (i := i) (by omega)
     have e2 := atZ (l := z) (i := i) (by omega)
     simp? [ha, hb, e1, e2]
     split
     ·rename_i h2
      simp? [ha, e2]
      split
      ·rename_i h3
       rw [zd2.mpr ⟨by omega, by omega⟩, Bool.true_and] at e
       exact hP1 _ _ _ ⟨_, rfl, rfl, e⟩
      ·rename_i h3
       exact no (by rw [e, zh8 (by omega)]; rfl)
     ·rename_i h2
      simp? []
      exact no (by rw [e, zh8 (by omega)]; rfl)
    ·rintro σ H' ⟨nv, rfl, rfl, e⟩
     simp? []
     refine yes ?_
     rw [e, List.drop_eq_nil_of_le (Nat.le_refl _), List.drop_eq_nil_of_le (by omega)]
     rfl
   ·rename_i h1
    refine no ?_
    cases e : Vbtaai.firstIn z f with
    | false => rfl
    | true => exact absurd (zf17 e) (by omega)
theorem zx5 {l : List Nat} : l.isEmpty = decide (l.length = 0) := by cases l <;> simp
noncomputable def zb13 (C : Addr) : Sp := fun vs H Q _ => ∃ (p : Addr) (F : Addr -> Prop) (s : Story), vs = [.ref p] /\ zj C F H p s /\ Q (.int (due [(-2, s.sizes.isEmpty)])) H
theorem zr19 : FnScope ["story"] ["story"] (defScope (top 51)) := by simp_all? only
theorem zd4 (T : Txt K mg) : FnOk P w K mg base CX0 1 T.zb3.f T.zb3.fd ["story"] (zb13 T.za.C) := by
 refine T.zb3.F.ok zr19 (fun _ _ _ _ h => ?_) (fun _ _ _ _ H vs Q E hr h => ?_)
 ·obtain ⟨p, F, s, rfl, _⟩ := h
  rfl
 ·obtain ⟨p, F, s, rfl, ⟨W, dx, sz, sv, ks, ef, tu, ka, kr, h1, h2, h3, h4, R, dm⟩, k⟩ := h
  refine ⟨_, (pss_cons (ps_if (pt_cmpR op_eq (pln T.len (zd T.za.cl T.zk1 (pv 0) rfl)) pe_int (nomark _)) (pss_one (ps_ret (zg T.zz6))) pss_nil)
   (pss_one (ps_ret (zg T.zr)))), ?_⟩
  simp only [st_c, st_n, st_z]
  rw [zx5] at k
  simp? only [h1, R.sz.2, List.length_map]
  split
  ·rename_i h0
   rw [za2 (by rw [decide_eq_true_eq]; omega)] at k
   exact k
  ·rename_i h0
   rw [zw1 (by rw [decide_eq_false_iff_not]; omega)] at k
   exact k
noncomputable def zs19 (C : Addr) : Sp := fun vs H Q _ => ∃ (p pa : Addr) (F : Addr -> Prop) (s : Story) (l : List Nat), vs = [.ref p, .ref pa] /\ zj C F H p s /\ H pa = some (.lst (vN l)) /\ Q (.int (due [(-2, s.sizes.isEmpty), (-9, l.isEmpty)])) H
theorem zt19 : FnScope ["story", "past"] ["story", "past"] (defScope (top 54)) := by simp_all? only
theorem zu19 (T : Txt K mg) : FnOk P w K mg base CX0 1 T.zk8.f T.zk8.fd ["story", "past"] (zs19 T.za.C) := by
 refine T.zk8.F.ok zt19 (fun _ _ _ _ h => ?_) (fun _ _ _ _ H vs Q E hr h => ?_)
 ·obtain ⟨p, pa, F, s, l, rfl, _⟩ := h
  rfl
 ·obtain ⟨p, pa, F, s, l, rfl, ⟨W, dx, sz, sv, ks, ef, tu, ka, kr, h1, h2, h3, h4, R, dm⟩, hpa, k⟩ := h
  refine ⟨_, (pss_cons (ps_if (pt_cmpR op_eq (pln T.len (zd T.za.cl T.zk1 (pv 0) rfl)) pe_int (nomark _)) (pss_one (ps_ret (zg T.zz6))) pss_nil)
   (pss_cons (ps_if (pt_cmpR op_eq (pln T.len (pv 1)) pe_int (nomark _)) (pss_one (ps_ret (zg T.zn16))) pss_nil)
   (pss_one (ps_ret (zg T.zr))))), ?_⟩
  simp only [st_c, st_n, st_z]
  rw [zx5, zx5] at k
  simp? only [h1, R.sz.2, List.length_map]
  split
  ·rename_i h0
   rw [za2 (by rw [decide_eq_true_eq]; omega)] at k
   exact k
  ·rename_i h0
   rw [zw1 (by rw [decide_eq_false_iff_not]; omega)] at k
   simp? [hpa, List.length_map]
   split
   ·rename_i h5
    rw [za2 (by rw [decide_eq_true_eq]; omega)] at k
    exact k
   ·rename_i h5
    rw [zw1 (by rw [decide_eq_false_iff_not]; omega)] at k
    exact k
noncomputable def zv19 (C : Addr) : Sp := fun vs H Q _ => ∃ (p c e : Addr) (F : Addr -> Prop) (s : Story) (n m : Nat) (cs es : List Int), vs = [.ref p, .int n, .int m, .ref c, .ref e] /\ zj C F H p s /\ H c = some (.lst (vI cs)) /\ H e = some (.lst (vI es)) /\
 Q (.int (due [(-1, !(Vbtaai.short cs && Vbtaai.short es)), (-2, s.sizes.isEmpty), (-7, decide (m <= n)), (-8, !(condsIn s.sizes cs && effsIn s.sizes es))])) H
theorem zw19 : FnScope ["story", "count", "most", "conditions", "effects"] ["story", "count", "most", "conditions", "effects"] (defScope (top 52)) := by simp_all? only
theorem zp7 (T : Txt K mg) : FnOk P w K mg base CX0 3 T.zi4.f T.zi4.fd ["story", "count", "most", "conditions", "effects"] (zv19 T.za.C) := by
 have zy15 := @zr14 P w K mg base T
 have zn20 := @zq17 P w K mg base T
 refine T.zi4.F.ok zw19 (fun _ _ _ _ h => ?_) (fun _ _ _ _ H vs Q E hr h => ?_)
 ·obtain ⟨p, c, e, F, s, n, m, cs, es, rfl, _⟩ := h
  rfl
 ·obtain ⟨p, c, e, F, s, n, m, cs, es, rfl, ⟨W, dx, sz, sv, ks, ef, tu, ka, kr, h1, h2, h3, h4, R, dm⟩, hc, he, k⟩ := h
  refine ⟨_, (pss_cons (ps_if (pw_or (pt_cmpR op_gt (pln T.len (pv 3)) (zg T.zq10) (nomark _)) (pw_or1 (pt_cmpR op_gt (pln T.len (pv 4)) (zg T.zq10) (nomark _)))).pt (pss_one (ps_ret (zg T.zy3))) pss_nil)
   (pss_cons (ps_if (pt_cmpR op_eq (pln T.len (zd T.za.cl T.zk1 (pv 0) rfl)) pe_int (nomark _)) (pss_one (ps_ret (zg T.zz6))) pss_nil)
   (pss_cons (ps_if (pt_cmpR op_ge (pv 1) (pv 2) (nomark _)) (pss_one (ps_ret (zg T.zu14))) pss_nil)
   (pss_cons (ps_if (pw_or (pt_not (pt_val (zm T.zy5 zy15 (hr.mono (by decide)) (pa_cons (zd T.za.cl T.zk1 (pv 0) rfl) (pa_cons (pv 3) pa_nil))))) (pw_or1 (pt_not (pt_val (zm T.zq7 zn20 (hr.mono (by decide)) (pa_cons (zd T.za.cl T.zk1 (pv 0) rfl) (pa_cons (pv 4) pa_nil))))))).pt (pss_one (ps_ret (zg T.zj17))) pss_nil)
   (pss_one (ps_ret (zg T.zr))))))), ?_⟩
  simp only [st_c, st_n, st_z]
  rw [zx5] at k
  simp? only [hc, he, List.length_map]
  have hno : ¬ (cs.length <= 24 /\ es.length <= 24) -> Q (V.int (-1)) H := fun h => by
   rw [za2] at k
   ·exact k
   ·unfold Vbtaai.short
    by_cases h5 : cs.length <= 24
    ·have h6 : ¬ es.length <= 24 := fun z => h ⟨h5, z⟩
     simp [h6]
    ·simp [h5]
  split
  ·rename_i h0
   exact hno (by omega)
  ·rename_i h0
   simp? [he, List.length_map]
   split
   ·rename_i h5
    exact hno (by omega)
   ·rename_i h5
    rw [zw1 (by unfold Vbtaai.short; rw [decide_eq_true (by omega), decide_eq_true (by omega)]; rfl)] at k
    simp? only [h1, R.sz.2, List.length_map]
    split
    ·rename_i h6
     rw [za2 (by rw [decide_eq_true_eq]; omega)] at k
     exact k
    ·rename_i h6
     rw [zw1 (by rw [decide_eq_false_iff_not]; omega)] at k
     simp? []
     split
     ·rename_i h7
      rw [za2 (by rw [decide_eq_true_eq]; omega)] at k
      exact k
     ·rename_i h7
      rw [zw1 (by rw [decide_eq_false_iff_not]; omega)] at k
      simp? only [h1]
      unfold zo10
      refine ⟨sz, c, s.sizes, cs, rfl, R.sz.2, hc, by omega, ?_⟩
      simp? []
      split
      ·rename_i h8
       rw [h8] at k
       exact k
      ·rename_i h8
       rw [Bool.not_eq_false] at h8
       simp? only [h1]
       unfold zh12
       refine ⟨sz, e, s.sizes, es, rfl, R.sz.2, he, by omega, ?_⟩
       simp? []
       split
       ·rename_i h9
        rw [h8, h9] at k
        exact k
       ·rename_i h9
        rw [Bool.not_eq_false] at h9
        rw [h8, h9] at k
        exact k
noncomputable def zi16 (C : Addr) : Sp := fun vs H Q _ => ∃ (p : Addr) (F : Addr -> Prop) (s : Story) (n : Nat) (a : Int), vs = [.ref p, .int n, .int a] /\ zj C F H p s /\ n < count s /\
 Q (.int (due [(-1, !inr a 0 15), (-2, s.sizes.isEmpty), (-3, decide ((s.actions.length : Int) <= a)), (-5, zh s n != 0), (-6, (lead s n a.toNat).isNone)])) H
theorem zj16 : FnScope ["story", "now", "a"] ["story", "now", "a"] (defScope (top 53)) := by simp_all? only
theorem zv11 (T : Txt K mg) : FnOk P w K mg base CX0 2 T.zl5.f T.zl5.fd ["story", "now", "a"] (zi16 T.za.C) := by
 have zk7 := @zc10 P w K mg base T
 refine T.zl5.F.ok zj16 (fun _ _ _ _ h => ?_) (fun _ _ _ _ H vs Q E hr h => ?_)
 ·obtain ⟨p, F, s, n, a, rfl, _⟩ := h
  rfl
 ·obtain ⟨p, F, s, n, a, rfl, S, hn, k⟩ := h
  have S' := S
  obtain ⟨W, dx, sz, sv, ks, ef, tu, ka, kr, h1, h2, h3, h4, R, dm⟩ := S'
  refine ⟨_, (pss_cons (ps_if (pt_not (pt_chain op_le op_le pe_int (pv 2) (zg T.zo16))) (pss_one (ps_ret (zg T.zy3))) pss_nil)
   (pss_cons (ps_if (pt_cmpR op_eq (pln T.len (zd T.za.cl T.zk1 (pv 0) rfl)) pe_int (nomark _)) (pss_one (ps_ret (zg T.zz6))) pss_nil)
   (pss_cons (ps_if (pt_cmpR op_ge (pv 2) (pln T.len (zd T.za.cl T.zz1 (pv 0) rfl)) (nomark _)) (pss_one (ps_ret (zg T.zj18))) pss_nil)
   (pss_cons (ps_if (pt_cmpR op_ne (pix (zd T.za.cl T.zk (pv 0) rfl) (pv 1)) (zg T.ze13) (nomark _)) (pss_one (ps_ret (zg T.zw25))) pss_nil)
   (pss_cons (ps_if (pt_not (pt_val (zy1 T.za.cl T.zp3 zk7 (hr.mono (by decide)) (pv 0) (pa_cons (pv 1) (pa_cons (pv 2) pa_nil))))) (pss_one (ps_ret (zg T.zk18))) pss_nil)
   (pss_one (ps_ret (zg T.zr)))))))), ?_⟩
  simp only [st_c, st_n, st_z]
  rw [zx5] at k
  obtain ⟨efs, f1, f2, _⟩ := R.ef
  have ek := atN (l := zi s) (i := n) (by unfold zi; rw [List.length_map, zy]; exact hn)
  rw [show (zi s).getD n 0 = zh s n from zf1 hn] at ek
  have rest : 0 <= a /\ a <= 15 -> due [(-2, decide (s.sizes.length = 0)), (-3, decide ((s.actions.length : Int) <= a)), (-5, zh s n != 0), (-6, (lead s n a.toNat).isNone)] = due [(-1, !inr a 0 15), (-2, decide (s.sizes.length = 0)), (-3, decide ((s.actions.length : Int) <= a)), (-5, zh s n != 0), (-6, (lead s n a.toNat).isNone)] := fun h => by
   rw [zw1 (n := -1) (by rw [zd2.mpr h]; rfl)]
  have out : ¬ (0 <= a /\ a <= 15) -> Q (V.int (-1)) H := fun h => by
   rw [za2 (by rw [zh8 h]; rfl)] at k
   exact k
  simp? only []
  split
  ·rename_i h0
   simp? []
   split
   ·rename_i h5
    rw [<- rest ⟨by omega, by omega⟩] at k
    simp? only [h1, R.sz.2, List.length_map]
    split
    ·rename_i h6
     rw [za2 (by rw [decide_eq_true_eq]; omega)] at k
     exact k
    ·rename_i h6
     rw [zw1 (by rw [decide_eq_false_iff_not]; omega)] at k
     simp? only [h1, f1, List.length_map, f2]
     split
     ·rename_i h7
      rw [za2 (by rw [decide_eq_true_eq]; omega)] at k
      exact k
     ·rename_i h7
      rw [zw1 (by rw [decide_eq_false_iff_not]; omega)] at k
      simp? only [h1, R.ks.2, ek]
      split
      ·rename_i h8
       rw [zw1 (by rw [bne_eq_false_iff_eq]; omega)] at k
       simp? only [h1]
       unfold zx10
       refine ⟨p, F, s, n, a.toNat, by rw [Int.toNat_of_nonneg (by omega)], S, hn, by omega, ?_⟩
       simp? []
       split
       ·rename_i h9
        rw [za2 (by rw [Option.isNone_iff_eq_none]; cases e : lead s n a.toNat with | none => rfl | some x => rw [e] at h9; cases h9)] at k
        exact k
       ·rename_i h9
        rw [zw1 (by cases e : lead s n a.toNat with | none => rw [e] at h9; exact absurd rfl h9 | some x => rfl)] at k
        exact k
      ·rename_i h8
       rw [za2 (by rw [bne_iff_ne]; omega)] at k
       exact k
   ·rename_i h5
    exact out (by omega)
  ·rename_i h0
   simp? []
   exact out (by omega)
end
section
variable {P : Program} {w : World} {K : W.Frag} {mg : Str -> Option Value} {base : Heap}
open Vbtaai (places decode encode count told)
noncomputable def zk16 (C : Addr) : Sp := fun vs H Q _ => ∃ (p a : Addr) (F : Addr -> Prop) (s : Story) (l : List Int), vs = [.ref p, .ref a] /\ zj C F H p s /\ H a = some (.lst (vI l)) /\
 Q (.int (due [(-1, !(l.all fun n => inr n 0 1023)), (-2, s.sizes.isEmpty), (-4, l.any fun n => decide ((count s : Int) <= n))])) H
theorem zt8 : FnScope ["story", "named", "n"] ["story", "named"] (defScope (top 55)) := by simp_all? only
theorem zu8 (T : Txt K mg) : FnOk P w K mg base CX0 1 T.zj4.f T.zj4.fd ["story", "named"] (zk16 T.za.C) := by
 refine T.zj4.F.ok zt8 (fun _ _ _ _ h => ?_) (fun _ _ _ _ H vs Q E hr h => ?_)
 ·obtain ⟨p, a, F, s, l, rfl, _⟩ := h
  rfl
 ·obtain ⟨p, a, F, s, l, rfl, ⟨W, dx, sz, sv, ks, ef, tu, ka, kr, h1, h2, h3, h4, R, dm⟩, ha, k⟩ := h
  refine ⟨_, (pss_cons (ps_for PassesOwn.never rfl (pi_list (pv 1)) (pg_name (i := 2) zt8.nd rfl (by simp_all?))
   (pss_one (ps_if (pt_not (pt_chain op_le op_le pe_int (pv 2) (zg T.zm18))) (pss_one (ps_ret (zg T.zy3))) pss_nil)))
   (pss_cons (ps_if (pt_cmpR op_eq (pln T.len (zd T.za.cl T.zk1 (pv 0) rfl)) pe_int (nomark _)) (pss_one (ps_ret (zg T.zz6))) pss_nil)
   (pss_cons (ps_for PassesOwn.never rfl (pi_list (pv 1)) (pg_name (i := 2) zt8.nd rfl (by simp_all?))
   (pss_one (ps_if (pt_cmpR op_ge (pv 2) (pln T.len (zd T.za.cl T.zk (pv 0) rfl)) (nomark _)) (pss_one (ps_ret (zg T.zh20))) pss_nil)))
   (pss_one (ps_ret (zg T.zr)))))), ?_⟩
  simp only [st_c, st_n, st_z]
  have hkl : (zi s).length = count s := by unfold zi; rw [List.length_map, zy]
  rw [zx5] at k
  simp? only []
  refine za11 (xs := vI l) (a := a) (fun i σ H' => ∃ nv, σ = [some (.ref p), some (.ref a), nv] /\ H' = H /\ (l.all fun n => inr n 0 1023) = ((l.drop i).all fun n => inr n 0 1023))
   (fun R h => by simp? []; exact h) ⟨_, rfl, rfl, rfl⟩ (fun i σ H' _ ⟨_, _, e, _⟩ => by rw [e]; exact SqL.of ha) ?_ ?_
  ·rintro P1 hP1 i x σ H' hx ⟨nv, rfl, rfl, e⟩
   obtain ⟨rfl, hi⟩ := zq19 hx
   rw [zm3 0 hi, List.all_cons] at e
   generalize l.getD i 0 = m at e
   have out : ¬ (0 <= m /\ m <= 1023) -> Q (V.int (-1)) H' := fun h => by
    rw [za2 (by rw [e, zh8 h]; rfl)] at k
    exact k
   simp? []
   split
   ·rename_i h0
    simp? []
    split
    ·rename_i h5
     rw [zd2.mpr ⟨by omega, by omega⟩, Bool.true_and] at e
     exact hP1 _ _ _ ⟨_, rfl, rfl, e⟩
    ·rename_i h5
     exact out (by omega)
   ·rename_i h0
    simp? []
    exact out (by omega)
  ·rintro σ H' ⟨nv, rfl, rfl, e⟩
   rw [List.length_map, List.drop_eq_nil_of_le (Nat.le_refl _)] at e
   rw [zw1 (by rw [e]; rfl)] at k
   simp? only [h1, R.sz.2, List.length_map]
   split
   ·rename_i h6
    rw [za2 (by rw [decide_eq_true_eq]; omega)] at k
    exact k
   ·rename_i h6
    rw [zw1 (by rw [decide_eq_false_iff_not]; omega)] at k
    simp? []
    refine za11 (xs := vI l) (a := a) (fun i σ H2 => ∃ nv, σ = [some (.ref p), some (.ref a), nv] /\ H2 = H' /\ (l.any fun n => decide ((count s : Int) <= n)) = ((l.drop i).any fun n => decide ((count s : Int) <= n)))
     (fun R h => by simp? []; exact h) ⟨_, rfl, rfl, rfl⟩ (fun i σ H2 _ ⟨_, _, e, _⟩ => by rw [e]; exact SqL.of ha) ?_ ?_
    ·rintro P1 hP1 i x σ H2 hx ⟨nv, rfl, rfl, e⟩
     obtain ⟨rfl, hi⟩ := zq19 hx
     rw [zm3 0 hi, List.any_cons] at e
     generalize l.getD i 0 = m at e
     simp? only [h1, R.ks.2, List.length_map, hkl]
     split
     ·rename_i h0
      rw [za2 (by rw [e, decide_eq_true h0]; rfl)] at k
      exact k
     ·rename_i h0
      rw [decide_eq_false h0, Bool.false_or] at e
      exact hP1 _ _ _ ⟨_, rfl, rfl, e⟩
    ·rintro σ H2 ⟨nv, rfl, rfl, e⟩
     rw [List.length_map, List.drop_eq_nil_of_le (Nat.le_refl _)] at e
     rw [zw1 e] at k
     simp? []
     exact k
noncomputable def zx17 (C : Addr) : Sp := fun vs H Q _ => ∃ (p a : Addr) (F : Addr -> Prop) (s : Story) (l : List Int), vs = [.ref p, .ref a] /\ zj C F H p s /\ H a = some (.lst (vI l)) /\
 Q (.int (due [(-1, !(decide (l.length <= 1024) && l.all fun n => inr n 0 1025)), (-2, s.sizes.isEmpty)])) H
theorem zn12 : FnScope ["story", "table", "number"] ["story", "table"] (defScope (top 56)) := by simp_all? only
theorem zy17 (T : Txt K mg) : FnOk P w K mg base CX0 2 T.zs7.f T.zs7.fd ["story", "table"] (zx17 T.za.C) := by
 have zx1 := @zd4 P w K mg base T
 refine T.zs7.F.ok zn12 (fun _ _ _ _ h => ?_) (fun _ _ _ _ H vs Q E hr h => ?_)
 ·obtain ⟨p, a, F, s, l, rfl, _⟩ := h
  rfl
 ·obtain ⟨p, a, F, s, l, rfl, S, ha, k⟩ := h
  refine ⟨_, (pss_cons (ps_if (pt_cmpR op_gt (pln T.len (pv 1)) (zg T.zj20) (nomark _)) (pss_one (ps_ret (zg T.zy3))) pss_nil)
   (pss_cons (ps_for PassesOwn.never rfl (pi_list (pv 1)) (pg_name (i := 2) zn12.nd rfl (by simp_all?))
   (pss_one (ps_if (pt_not (pt_chain op_le op_le pe_int (pv 2) (zg T.zw14))) (pss_one (ps_ret (zg T.zy3))) pss_nil)))
   (pss_one (ps_ret (zm T.zb3 zx1 (hr.mono (by decide)) (pa_cons (pv 0) pa_nil)))))), ?_⟩
  simp only [st_c, st_n, st_z]
  simp? [ha, List.length_map]
  split
  ·rename_i h0
   rw [za2 (by rw [show decide (l.length <= 1024) = false by rw [decide_eq_false_iff_not]; omega]; rfl)] at k
   exact k
  ·rename_i h0
   rw [show decide (l.length <= 1024) = true by rw [decide_eq_true_eq]; omega, Bool.true_and] at k
   simp? []
   refine za11 (xs := vI l) (a := a) (fun i σ H' => ∃ nv, σ = [some (.ref p), some (.ref a), nv] /\ H' = H /\ (l.all fun n => inr n 0 1025) = ((l.drop i).all fun n => inr n 0 1025))
    (fun R h => by simp? []; exact h) ⟨_, rfl, rfl, rfl⟩ (fun i σ H' _ ⟨_, _, e, _⟩ => by rw [e]; exact SqL.of ha) ?_ ?_
   ·rintro P1 hP1 i x σ H' hx ⟨nv, rfl, rfl, e⟩
    obtain ⟨rfl, hi⟩ := zq19 hx
    rw [zm3 0 hi, List.all_cons] at e
    generalize l.getD i 0 = m at e
    have out : ¬ (0 <= m /\ m <= 1025) -> Q (V.int (-1)) H' := fun h => by
     rw [za2 (by rw [e, zh8 h]; rfl)] at k
     exact k
    simp? []
    split
    ·rename_i h5
     simp? []
     split
     ·rename_i h6
      rw [zd2.mpr ⟨by omega, by omega⟩, Bool.true_and] at e
      exact hP1 _ _ _ ⟨_, rfl, rfl, e⟩
     ·rename_i h6
      exact out (by omega)
    ·rename_i h5
     simp? []
     exact out (by omega)
   ·rintro σ H' ⟨nv, rfl, rfl, e⟩
    rw [List.length_map, List.drop_eq_nil_of_le (Nat.le_refl _)] at e
    rw [zw1 (by rw [e]; rfl)] at k
    simp? []
    unfold zb13
    exact ⟨p, F, s, rfl, S, k⟩
noncomputable def zc13 (C : Addr) : Sp := fun vs H Q _ => ∃ (p : Addr) (F : Addr -> Prop) (s : Story) (n : Nat), vs = [.ref p, .int n] /\ zj C F H p s /\ n < count s /\
 ∀ H' F', zc p H H' -> Grow F H F' -> zj C F' H' p s -> Q (.int (due [(-2, s.sizes.isEmpty), (-10, (Vbtaai.rank s n).isNone)])) H'
theorem zx19 : FnScope ["story", "now"] ["story", "now"] (defScope (top 57)) := by simp_all? only
theorem zg10 (T : Txt K mg) : FnOk P w K mg base CX0 6 T.zg5.f T.zg5.fd ["story", "now"] (zc13 T.za.C) := by
 have zl1 := @zh3 P w K mg base T
 refine T.zg5.F.ok zx19 (fun _ _ _ _ h => ?_) (fun _ _ _ _ H vs Q E hr h => ?_)
 ·obtain ⟨p, F, s, n, rfl, _⟩ := h
  rfl
 ·obtain ⟨p, F, s, n, rfl, S, hn, k⟩ := h
  have S' := S
  obtain ⟨W, dx, sz, sv, ks, ef, tu, ka, kr, h1, h2, h3, h4, R, dm⟩ := S'
  refine ⟨_, (pss_cons (ps_if (pt_cmpR op_eq (pln T.len (zd T.za.cl T.zk1 (pv 0) rfl)) pe_int (nomark _)) (pss_one (ps_ret (zg T.zz6))) pss_nil)
   (pss_cons (ps_if (pt_cmpR op_eq (pix (zj1 T.za.cl T.ze2 zl1 (hr.mono (by decide)) (pv 0)) (pv 1)) pe_int (nomark _)) (pss_one (ps_ret (zg T.zm31))) pss_nil)
   (pss_one (ps_ret (zg T.zr))))), ?_⟩
  simp only [st_c, st_n, st_z]
  rw [zx5] at k
  simp? only [h1, R.sz.2, List.length_map]
  split
  ·rename_i h0
   have := k H F (zc.of Same.rfl') Grow.refl S
   rw [za2 (by rw [decide_eq_true_eq]; omega)] at this
   exact this
  ·rename_i h0
   simp? only [h1]
   unfold zy10
   refine ⟨p, F, s, rfl, S, fun H1 F1 rk sb1 gr1 S1 frk rkp hrk => ?_⟩
   have en := atN (l := Vbtaai.ranks s) (i := n) (by rw [zl3]; exact hn)
   rw [zh5 hn] at en
   have := k H1 F1 sb1 gr1 S1
   rw [zw1 (by rw [decide_eq_false_iff_not]; omega)] at this
   simp? [hrk, en]
   split
   ·rename_i h5
    rw [za2 (by rw [Option.isNone_iff_eq_none, <- zf11]; omega)] at this
    exact this
   ·rename_i h5
    rw [zw1 (by rw [Option.isNone_eq_false_iff, Option.isSome_iff_ne_none, Ne, <- zf11]; omega)] at this
    exact this
noncomputable def zy19 (C : Addr) : Sp := fun vs H Q _ => ∃ (p : Addr) (F : Addr -> Prop) (s : Story) (n : Nat) (v x : Int), vs = [.ref p, .int n, .int v, .int x] /\ zj C F H p s /\ n < count s /\
 ∀ H' F', zc p H H' -> Grow F H F' -> zj C F' H' p s -> Q (.int (due [(-1, !(inr v 0 7 && inr x 0 7)), (-2, s.sizes.isEmpty), (-8, !(inr v 0 ((s.sizes.length : Int) - 1) && inr x 0 ((s.sizes.getD v.toNat 1 : Int) - 1))), (-10, (Vbtaai.rank s n).isNone)])) H'
theorem zz19 : FnScope ["story", "now", "v", "x"] ["story", "now", "v", "x"] (defScope (top 58)) := by simp_all? only
theorem za20 (T : Txt K mg) : FnOk P w K mg base CX0 7 T.zl8.f T.zl8.fd ["story", "now", "v", "x"] (zy19 T.za.C) := by
 have zt6 := @zg10 P w K mg base T
 refine T.zl8.F.ok zz19 (fun _ _ _ _ h => ?_) (fun _ _ _ _ H vs Q E hr h => ?_)
 ·obtain ⟨p, F, s, n, v, x, rfl, _⟩ := h
  rfl
 ·obtain ⟨p, F, s, n, v, x, rfl, S, hn, k⟩ := h
  have S' := S
  obtain ⟨W, dx, sz, sv, ks, ef, tu, ka, kr, h1, h2, h3, h4, R, dm⟩ := S'
  refine ⟨_, (pss_cons (ps_if (pw_or (pt_not (pt_chain op_le op_le pe_int (pv 2) (zg T.zv14))) (pw_or1 (pt_not (pt_chain op_le op_le pe_int (pv 3) (zg T.zn18))))).pt (pss_one (ps_ret (zg T.zy3))) pss_nil)
   (pss_cons (ps_if (pt_cmpR op_eq (pln T.len (zd T.za.cl T.zk1 (pv 0) rfl)) pe_int (nomark _)) (pss_one (ps_ret (zg T.zz6))) pss_nil)
   (pss_cons (ps_if (pw_or (pt_cmpR op_ge (pv 2) (pln T.len (zd T.za.cl T.zk1 (pv 0) rfl)) (nomark _)) (pw_or1 (pt_cmpR op_ge (pv 3) (pix (zd T.za.cl T.zk1 (pv 0) rfl) (pv 2)) (nomark _)))).pt (pss_one (ps_ret (zg T.zj17))) pss_nil)
   (pss_one (ps_ret (zm T.zg5 zt6 (hr.mono (by decide)) (pa_cons (pv 0) (pa_cons (pv 1) pa_nil)))))))), ?_⟩
  simp only [st_c, st_n, st_z]
  rw [zx5] at k
  have k0 := k H F (zc.of Same.rfl') Grow.refl S
  have out : ¬ ((0 <= v /\ v <= 7) /\ (0 <= x /\ x <= 7)) -> Q (V.int (-1)) H := fun h => by
   rw [za2] at k0
   ·exact k0
   ·by_cases hv : 0 <= v /\ v <= 7
    ·rw [zd2.mpr hv, zh8 (fun hx => h ⟨hv, hx⟩)]; rfl
    ·rw [zh8 hv]; rfl
  simp? only []
  by_cases hin : (0 <= v /\ v <= 7) /\ (0 <= x /\ x <= 7)
  ·obtain ⟨⟨v0, v7⟩, x0, x7⟩ := hin
   have b1 : (!(inr v 0 7 && inr x 0 7)) = false := by rw [zd2.mpr ⟨v0, v7⟩, zd2.mpr ⟨x0, x7⟩]; rfl
   rw [zw1 b1] at k0
   simp? only [v0, v7, x0, x7, h1, R.sz.2, List.length_map]
   split
   ·rename_i h6
    rw [za2 (by rw [decide_eq_true_eq]; omega)] at k0
    exact k0
   ·rename_i h6
    have b2 : decide (s.sizes.length = 0) = false := by rw [decide_eq_false_iff_not]; omega
    rw [zw1 b2] at k0
    simp? only [h1, R.sz.2, List.length_map]
    split
    ·rename_i h7
     rw [za2 (by rw [zh8 (by omega)]; rfl)] at k0
     exact k0
    ·rename_i h7
     have ev := zx8 (l := s.sizes) (i := v) 1 v0 (by omega)
     simp? only [h1, R.sz.2, ev]
     split
     ·rename_i h8
      rw [za2 (by rw [zh8 (n := x) (by omega), Bool.and_false]; rfl)] at k0
      exact k0
     ·rename_i h8
      have b3 : (!(inr v 0 ((s.sizes.length : Int) - 1) && inr x 0 ((s.sizes.getD v.toNat 1 : Int) - 1))) = false := by rw [zd2.mpr ⟨v0, by omega⟩, zd2.mpr ⟨x0, by omega⟩]; rfl
      simp? []
      unfold zc13
      refine ⟨p, F, s, n, rfl, S, hn, fun H' F' sb gr S2 => ?_⟩
      have := k H' F' sb gr S2
      rw [zw1 b1, zw1 b2, zw1 b3] at this
      rw [zx5, zw1 b2]
      exact this
  ·have o := out hin
   repeat' split
   all_goals first
    | exact o
    | (exfalso; omega)
    | (simp? []; repeat' split) <;> first | exact o | (exfalso; omega)
end
noncomputable def gmF (sp : Addr) (now : Nat) (pa : Addr) : List (Str × V) := [("story", .ref sp), ("now", .int now), ("past", .ref pa)]
section
variable {sp pa q : Addr} {now n : Nat}
theorem zn22 : (gmF sp now pa).lookup ("story" : Str) = some (.ref sp) := rfl
theorem zm26 : (gmF sp now pa).lookup ("now" : Str) = some (.int now) := rfl
theorem zq24 : (gmF sp now pa).lookup ("past" : Str) = some (.ref pa) := rfl
theorem zk28 : (gmF sp now pa).lookup ("state_answered" : Str) = none := rfl
theorem zo22 : putF "story" (.ref q) (gmF sp now pa) = gmF q now pa := rfl
theorem zn26 : putF "now" (.int n) (gmF sp now pa) = gmF sp n pa := rfl
theorem zr24 : putF "past" (.ref q) (gmF sp now pa) = gmF sp now q := rfl
theorem zo26 : (gmF sp now pa).length < 1000 := by show 3 < 1000; decide
end
local macro_rules
  | `(tactic| dsimp? [$args,*]) => `(tactic| simp? [zn22, zm26, zq24, zk28, zo22, zn26, zr24, zo26, $args,*])
  | `(tactic| dsimp? only [$args,*]) => `(tactic| simp? only [zn22, zm26, zq24, zk28, zo22, zn26, zr24, zo26, $args,*])
open Vbtaai (places decode encode count)
structure WfG (st : Vbtaai.State) : Prop where
 now : Fits st.story.sizes st.now
 past : ∀ l ∈ st.past, Fits st.story.sizes l
 few : st.past.length <= 200
noncomputable def gf (F : Addr -> Prop) (g pa : Addr) : Addr -> Prop := fun q => F q \/ q = g \/ q = pa
structure zv2 (C CG : Addr) (F : Addr -> Prop) (H : Hp) (g sp pa dx : Addr) (st : Vbtaai.State) : Prop where
 wf : WfG st
 gg : H g = some (.ins CG dx (gmF sp (encode st.story.sizes st.now) pa))
 gp : H pa = some (.lst (vN (st.past.reverse.map (encode st.story.sizes))))
 gs : zj C F H sp st.story
 ng : ¬ F g
 np : ¬ F pa
noncomputable def zj3 (C CG : Addr) (G : Addr -> Prop) (H : Hp) (g : Addr) (st : Vbtaai.State) : Prop := ∃ F sp pa dx, G = gf F g pa /\ zv2 C CG F H g sp pa dx st
section
variable {C CG g sp pa dx : Addr} {F F' G G' : Addr -> Prop} {H H' : Hp} {st : Vbtaai.State}
theorem zj.own {p : Addr} {s : Story} (h : zj C F H p s) : F p := let ⟨_, _, _, _, _, _, _, _, _, _, h2, _⟩ := h; h2
theorem zj.wf {p : Addr} {s : Story} (h : zj C F H p s) : WfS s := h.1
theorem zj.dom {p : Addr} {s : Story} (h : zj C F H p s) : ∀ q, F q -> ∃ o, H q = some o := let ⟨_, _, _, _, _, _, _, _, _, _, _, _, _, _, dm⟩ := h; dm
theorem zv2.gpa (h : zv2 C CG F H g sp pa dx st) : g ≠ pa := ne_of h.gg h.gp (by intro z; cases z)
theorem zv2.gsp (h : zv2 C CG F H g sp pa dx st) : g ≠ sp := fun z => h.ng (z ▸ h.gs.own)
theorem zv2.psp (h : zv2 C CG F H g sp pa dx st) : pa ≠ sp := fun z => h.np (z ▸ h.gs.own)
theorem zv2.here (h : zv2 C CG F H g sp pa dx st) : encode st.story.sizes st.now < count st.story := zu6 h.wf.now
theorem zv2.tell {s' : Story} (h : zv2 C CG F H g sp pa dx st) (fr : Fr F H F' H') (S' : zj C F' H' sp s') (ez : s'.sizes = st.story.sizes) : zv2 C CG F' H' g sp pa dx { st with story := s' } where
 wf := ⟨by show Fits s'.sizes st.now; rw [ez]; exact h.wf.now, by show ∀ l ∈ st.past, Fits s'.sizes l; rw [ez]; exact h.wf.past, h.wf.few⟩
 gg := by show _ = some (HO.ins CG dx (gmF sp (encode s'.sizes st.now) pa)); rw [ez]; exact fr.out g _ h.gg h.ng
 gp := by show _ = some (HO.lst (vN (st.past.reverse.map (encode s'.sizes)))); rw [ez]; exact fr.out pa _ h.gp h.np
 gs := S'
 ng := fun z => (fr.grow g z).elim h.ng fun e => by rw [h.gg] at e; cases e
 np := fun z => (fr.grow pa z).elim h.np fun e => by rw [h.gp] at e; cases e
theorem zv2.ask (h : zv2 C CG F H g sp pa dx st) (sb : zc sp H H') (gr : Grow F H F') (S' : zj C F' H' sp st.story) : zv2 C CG F' H' g sp pa dx st := h.tell (Fr.but sb h.gs.own gr) S' rfl
theorem Fr.gf (fr : Fr F H F' H') : Fr (gf F g pa) H (gf F' g pa) H' :=
 ⟨fun q o hq hG => fr.out q o hq fun z => hG (.inl z), fun q hq => hq.elim (fun z => (fr.grow q z).elim (fun y => .inl (.inl y)) .inr) fun z => .inl (.inr z)⟩
theorem zv2.same (h : zv2 C CG F H g sp pa dx st) (sm : Same H H') : zv2 C CG F H' g sp pa dx st := ⟨h.wf, sm _ _ h.gg, sm _ _ h.gp, h.gs.same sm, h.ng, h.np⟩
theorem zv2.new (h : zv2 C CG F H g sp pa dx st) {q : Addr} (hq : H q = none) : ¬ gf F g pa q := by
 rintro (z | z | z)
 ·obtain ⟨o, ho⟩ := h.gs.dom q z; rw [ho] at hq; cases hq
 ·rw [z, h.gg] at hq; cases hq
 ·rw [z, h.gp] at hq; cases hq
end
noncomputable def Post (C CG : Addr) (G : Addr -> Prop) (H : Hp) (g : Addr) (r : Vbtaai.State × List Int) (Q : VK) : Prop := ∀ H' G' q, Fr G H G' H' -> zj3 C CG G' H' g r.1 -> H' q = some (.lst (vI r.2)) -> (∀ o, H q = some o -> G q) -> Q (.ref q) H'
noncomputable def zb12 (C CG : Addr) (c : Vbtaai.Call) : Sp := fun vs H Q _ => ∃ (g : Addr) (G : Addr -> Prop) (st : Vbtaai.State), vs = [.ref g] /\ zj3 C CG G H g st /\ Post C CG G H g (Vbtaai.step st c) Q
noncomputable def zq23 (C CG : Addr) (c : Int -> Vbtaai.Call) : Sp := fun vs H Q _ => ∃ (g : Addr) (G : Addr -> Prop) (st : Vbtaai.State) (x : Int), vs = [.ref g, .int x] /\ zj3 C CG G H g st /\ Post C CG G H g (Vbtaai.step st (c x)) Q
noncomputable def sp_g2 (C CG : Addr) (c : Int -> Int -> Vbtaai.Call) : Sp := fun vs H Q _ => ∃ (g : Addr) (G : Addr -> Prop) (st : Vbtaai.State) (x y : Int), vs = [.ref g, .int x, .int y] /\ zj3 C CG G H g st /\ Post C CG G H g (Vbtaai.step st (c x y)) Q
noncomputable def zi27 (C CG : Addr) (c : List Int -> Vbtaai.Call) : Sp := fun vs H Q _ => ∃ (g a : Addr) (G : Addr -> Prop) (st : Vbtaai.State) (l : List Int), vs = [.ref g, .ref a] /\ zj3 C CG G H g st /\ H a = some (.lst (vI l)) /\ ¬ G a /\ Post C CG G H g (Vbtaai.step st (c l)) Q
noncomputable def zj27 (C CG : Addr) (c : List Int -> List Int -> Vbtaai.Call) : Sp := fun vs H Q _ => ∃ (g a b : Addr) (G : Addr -> Prop) (st : Vbtaai.State) (l m : List Int), vs = [.ref g, .ref a, .ref b] /\ zj3 C CG G H g st /\ H a = some (.lst (vI l)) /\ H b = some (.lst (vI m)) /\ ¬ G a /\ ¬ G b /\ Post C CG G H g (Vbtaai.step st (c l m)) Q
section
variable {C CG g sp pa dx q : Addr} {F F' : Addr -> Prop} {H H' : Hp} {st : Vbtaai.State} {r : Vbtaai.State × List Int} {Q : VK}
theorem Fr.fresh {G G' : Addr -> Prop} (fr : Fr G H G' H') (hq : H' q = none) : ∀ o, H q = some o -> G q := fun o h => Classical.byContradiction fun hG => by rw [fr.out q o h hG] at hq; cases hq
theorem Post.ans {xs : List V} {st' : Vbtaai.State} {l : List Int} (p : Post C CG (gf F g pa) H g r Q) (fr : Fr F H F' H') (A : zv2 C CG F' H' g sp pa dx st') (hq : H' q = none) (e : r = (st', l)) (ex : xs = vI l) : Q (.ref q) (upd H' q (.lst xs)) := by
 subst e ex
 exact p _ _ q ((fr.gf).trans (Fr.same (Same.rfl'.new hq))) ⟨F', sp, pa, dx, rfl, A.same (Same.rfl'.new hq)⟩ upd_same (fr.gf.fresh hq)
theorem Post.at_ {H1 : Hp} {st' : Vbtaai.State} {l : List Int} (p : Post C CG (gf F g pa) H g r Q) (fr : Fr F H F' H1) (A : zv2 C CG F' H1 g sp pa dx st') (sm : Same H1 H') (hn : H1 q = none) (e : r = (st', l)) (hq : H' q = some (.lst (vI l))) : Q (.ref q) H' := by
 subst e
 exact p _ _ q (fr.gf.trans (Fr.same sm)) ⟨F', sp, pa, dx, rfl, A.same sm⟩ hq (fr.gf.fresh hn)
theorem ze1 {s : Vbtaai.State} {k : Unit -> Vbtaai.State × List Int} : ∀ {l : List (Int × Bool)}, (∀ x ∈ l, x.1 ≠ 0) -> Vbtaai.guarded s l k = if due l ≠ 0 then (s, [due l]) else k ()
 | [], _ => by simp [due, Vbtaai.guarded]
 | (n, b) :: l, h => by
  have ih := ze1 (s := s) (k := k) (l := l) fun x hx => h x (by simp [hx])
  cases b with
  | true =>
   have hn : n ≠ 0 := h (n, true) (by simp)
   rw [za2 rfl, if_pos hn]
   rfl
  | false =>
   rw [zw1 rfl, <- ih]
   rfl
end
section
variable {P : Program} {w : World} {K : W.Frag} {mg : Str -> Option Value} {base : Heap}
open Vbtaai (places decode encode count told)
theorem zp26 (l : List Nat) : vI (Vbtaai.ints l) = vN l := by
 unfold Vbtaai.ints
 rw [vI, List.map_map]
 rfl
noncomputable def zw11 (C CG : Addr) : Sp := fun vs H Q _ => ∃ (g sp pa dx : Addr) (F : Addr -> Prop) (st : Vbtaai.State) (n : Nat), vs = [.ref g, .int n] /\ zv2 C CG F H g sp pa dx st /\ n < count st.story /\
 ∀ H' q, Same H H' -> H q = none -> H' q = some (.lst (vI (0 :: Vbtaai.look st.story (decode st.story.sizes n)))) -> Q (.ref q) H'
theorem zm13 : FnScope ["self", "n"] ["self", "n"] (defScope (inClass (top 81) 22)) := by simp_all? only
theorem zs3 (T : Txt K mg) : FnOk P w K mg base CX0 1 T.zq1.f T.zq1.fd ["self", "n"] (zw11 T.za.C T.zb.C) := by
 refine T.zq1.F.ok zm13 (fun _ _ _ _ h => ?_) (fun _ _ _ _ H vs Q E hr h => ?_)
 ·obtain ⟨g, sp, pa, dx, F, st, n, rfl, _⟩ := h
  rfl
 ·obtain ⟨g, sp, pa, dx, F, st, n, rfl, A, hn, k⟩ := h
  obtain ⟨W, dx1, sz, sv, ks, ef, tu, ka, kr, h1, h2, h3, h4, R, dm⟩ := A.gs
  refine ⟨_, (pss_one (ps_ret (pe_op op_cat (pe_lst (pa_cons pe_int (pa_cons (pv 1) (pa_cons (pix (zd T.za.cl T.zk (zd T.zb.cl T.zf (pv 0) rfl) rfl) (pv 1)) pa_nil)))) (pix (zd T.za.cl T.zs1 (zd T.zb.cl T.zf (pv 0) rfl) rfl) (pv 1))))), ?_⟩
  simp only [st_c, st_n, st_z]
  have hz := szL
  have hl := zw7 (zq3 n W.pos)
  have wl := W.len
  obtain ⟨vs, q, g1, g2, g3, g4, g5⟩ := R.sv.get (i := n) (by rw [List.length_map, zy]; exact hn)
  rw [zf1 hn] at g5
  have ek := atN (l := zi st.story) (i := n) (by unfold zi; rw [List.length_map, zy]; exact hn)
  rw [show (zi st.story).getD n 0 = zh st.story n from zf1 hn] at ek
  dsimp? only [A.gg, h1, R.ks.2, ek, List.length_cons]
  refine ⟨by omega, fun l hl1 => ?_⟩
  dsimp? only [upd_ne (ne_of_none A.gg hl1), upd_ne (ne_of_none h1 hl1), upd_ne (ne_of_none g1 hl1), upd_ne (ne_of_none g5 hl1), A.gg, h1, g1, g2, g5, upd_same, List.length_cons, List.length_map]
  refine ⟨by omega, fun r hr1 => ?_⟩
  have hr0 : H r = none := (Same.rfl'.new hl1 (o := .lst [V.int 0, V.int n, V.int (zh st.story n : Nat)])).free hr1
  refine k _ r ((Same.rfl'.new hl1).new hr0) hr0 ?_
  rw [upd_same]
  unfold Vbtaai.look
  rw [zq11 W.pos hn]
  show _ = some (HO.lst (V.int 0 :: V.int n :: V.int (zh st.story n : Nat) :: vI (Vbtaai.ints (decode st.story.sizes n))))
  rw [zp26]
theorem zo12 : FnScope ["self", "refusal"] ["self"] (defScope (inClass (top 81) 9)) := by simp_all? only
theorem zz17 (T : Txt K mg) : FnOk P w K mg base CX0 2 T.zc6.f T.zc6.fd ["self"] (zb12 T.za.C T.zb.C .now) := by
 have zx1 := @zd4 P w K mg base T
 have zr1 := @zs3 P w K mg base T
 refine T.zc6.F.ok zo12 (fun _ _ _ _ h => ?_) (fun _ _ _ _ H vs Q E hr h => ?_)
 ·obtain ⟨g, G, st, rfl, _⟩ := h
  rfl
 ·obtain ⟨g, G, st, rfl, ⟨F, sp, pa, dx, rfl, A⟩, k⟩ := h
  refine ⟨_, (pss_cons (ps_set (i := 1) zo12.nd rfl (by simp_all?) (zm T.zb3 zx1 (hr.mono (by decide)) (pa_cons (zd T.zb.cl T.zf (pv 0) rfl) pa_nil)))
   (pss_cons (ps_if (pt_cmpR op_ne (pv 1) (zg T.zr) (nomark _)) (pss_one (ps_ret (pe_lst (pa_cons (pv 1) pa_nil)))) pss_nil)
   (pss_one (ps_ret (zy1 T.zb.cl T.zq1 zr1 (hr.mono (by decide)) (pv 0) (pa_cons (zd T.zb.cl T.zt (pv 0) rfl) pa_nil)))))), ?_⟩
  simp only [st_c, st_n, st_z]
  have hz := szL
  have e : Vbtaai.step st .now = _ := ze1 (s := st) (k := fun _ => (st, 0 :: Vbtaai.look st.story st.now)) (l := [(-2, st.story.sizes.isEmpty)]) (by simp)
  dsimp? [A.gg]
  refine ⟨sp, F, st.story, rfl, A.gs, ?_⟩
  generalize due [(-2, st.story.sizes.isEmpty)] = d at *
  simp? []
  split
  ·rename_i h0
   dsimp? [A.gg]
   refine ⟨g, sp, pa, dx, F, st, _, rfl, A, A.here, fun H' q sm hn hq => ?_⟩
   rw [zg3 A.wf.now] at hq
   exact k.at_ Fr.refl A sm hn (e.trans (by rw [if_neg (by simpa using h0)])) hq
  ·rename_i h0
   simp? [List.length_cons, List.length_nil]
   refine ⟨by omega, fun q hq => ?_⟩
   exact k.ans Fr.refl A hq (e.trans (by rw [if_pos h0])) rfl
end
section
variable {P : Program} {w : World} {K : W.Frag} {mg : Str -> Option Value} {base : Heap}
open Vbtaai (places decode encode count told)
theorem zj2 : ∀ {l : List (Int × Bool)}, (∀ x ∈ l, x.1 ≠ 0) -> due l = 0 -> ∀ x ∈ l, x.2 = false
 | [], _, _, x, hx => by cases hx
 | (n, b) :: l, hl, h, x, hx => by
  cases b with
  | true => rw [za2 rfl] at h; exact absurd h (hl (n, true) (by simp))
  | false =>
   rw [zw1 rfl] at h
   rcases List.mem_cons.mp hx with e | e
   ·rw [e]
   ·exact zj2 (fun y hy => hl y (by simp [hy])) h x e
theorem zi21 : ∀ {l m : List (Int × Bool)}, (∀ x ∈ l, x.1 ≠ 0) -> due (l ++ m) = if due l ≠ 0 then due l else due m
 | [], m, _ => by simp [due]
 | (n, b) :: l, m, hl => by
  rw [List.cons_append]
  cases b with
  | true => rw [za2 rfl, za2 rfl, if_pos (hl (n, true) (by simp))]
  | false => rw [zw1 rfl, zw1 rfl, zi21 fun y hy => hl y (by simp [hy])]
theorem zr23 (l : List Nat) (z : Int) : V.int z :: vN l = vI (z :: Vbtaai.ints l) := by
 show _ = V.int z :: vI (Vbtaai.ints l)
 rw [zp26]
theorem zg17 : FnScope ["self", "refusal"] ["self"] (defScope (inClass (top 81) 10)) := by simp_all? only
theorem zs25 (T : Txt K mg) : FnOk P w K mg base CX0 3 T.zm10.f T.zm10.fd ["self"] (zb12 T.za.C T.zb.C .can) := by
 have zx1 := @zd4 P w K mg base T
 have zt4 := @zh7 P w K mg base T
 refine T.zm10.F.ok zg17 (fun _ _ _ _ h => ?_) (fun _ _ _ _ H vs Q E hr h => ?_)
 ·obtain ⟨g, G, st, rfl, _⟩ := h
  rfl
 ·obtain ⟨g, G, st, rfl, ⟨F, sp, pa, dx, rfl, A⟩, k⟩ := h
  refine ⟨_, (pss_cons (ps_set (i := 1) zg17.nd rfl (by simp_all?) (zm T.zb3 zx1 (hr.mono (by decide)) (pa_cons (zd T.zb.cl T.zf (pv 0) rfl) pa_nil)))
   (pss_cons (ps_if (pt_cmpR op_ne (pv 1) (zg T.zr) (nomark _)) (pss_one (ps_ret (pe_lst (pa_cons (pv 1) pa_nil)))) pss_nil)
   (pss_one (ps_ret (pe_op op_cat (pe_lst (pa_cons pe_int pa_nil)) (zy1 T.za.cl T.zf3 zt4 (hr.mono (by decide)) (zd T.zb.cl T.zf (pv 0) rfl) (pa_cons (zd T.zb.cl T.zt (pv 0) rfl) pa_nil))))))), ?_⟩
  simp only [st_c, st_n, st_z]
  have hz := szL
  have e : Vbtaai.step st (.can) = _ := ze1 (s := st) (k := fun _ => (st, 0 :: Vbtaai.ints ((Vbtaai.indexed 0 (Vbtaai.leads st.story (Vbtaai.here st))).map fun x => x.1))) (l := [(-2, st.story.sizes.isEmpty)]) (by simp)
  have dz := zj2 (l := [(-2, st.story.sizes.isEmpty)]) (by simp)
  dsimp? [A.gg]
  refine ⟨sp, F, st.story, rfl, A.gs, ?_⟩
  generalize due [(-2, st.story.sizes.isEmpty)] = d at *
  simp? []
  split
  ·rename_i h0
   rw [zf9, List.map_map] at e
   have em : ((fun x : Nat × Nat => x.1) ∘ fun a => (a, zr3 st.story (Vbtaai.here st) a)) = id := rfl
   rw [em, List.map_id] at e
   have hl := zb7 st.story (Vbtaai.here st)
   have na := A.gs.wf.na
   have S := A.gs
   obtain ⟨_, dx1, _, _, _, _, _, _, _, h1, _⟩ := S
   simp? [List.length_cons, List.length_nil]
   refine ⟨by omega, fun l hl1 => ?_⟩
   dsimp? only [upd_ne (ne_of_none A.gg hl1), A.gg, upd_ne (ne_of_none h1 hl1), h1]
   refine ⟨sp, F, st.story, _, rfl, A.gs.same (Same.rfl'.new hl1), A.here, fun q hq => ?_⟩
   have hq0 : H q = none := (Same.rfl'.new hl1 (o := .lst [V.int 0])).free hq
   have lq : l ≠ q := fun z => by rw [<- z, upd_same] at hq; cases hq
   simp? [upd_ne lq, upd_same, List.length_cons, List.length_nil, List.length_map]
   refine ⟨by unfold Vbtaai.here at *; omega, fun r hr => ?_⟩
   have sm : Same H (upd (upd H l (.lst [V.int 0])) q (.lst (vN (zc1 st.story (encode st.story.sizes st.now))))) := (Same.rfl'.new hl1).new hq0
   exact k.ans (Fr.same sm) (A.same sm) hr (e.trans (by rw [if_neg (by simpa using h0)]; rfl)) (zr23 _ _)
  ·rename_i h0
   simp? [List.length_cons, List.length_nil]
   refine ⟨by omega, fun q hq => ?_⟩
   exact k.ans Fr.refl A hq (e.trans (by rw [if_pos h0])) rfl
theorem zl28 {s : Story} {n : Nat} : (match Vbtaai.rankIn (winning s nobody) n, Vbtaai.hint s (winning s nobody) n with
  | some k, some x => [0, 1, (k : Int), (x.1 : Int)]
  | some k, none => [0, 1, (k : Int)]
  | none, _ => [0, 0]) = (match Vbtaai.rank s n with
  | none => [0, 0]
  | some 0 => [0, 1, 0]
  | some (k + 1) => [0, 1, ((k + 1 : Nat) : Int), (((zt5 s n).getD 0 0 : Nat) : Int)]) := by
 show (match Vbtaai.rank s n, Vbtaai.hint s (winning s nobody) n with
  | some k, some x => [0, 1, (k : Int), (x.1 : Int)]
  | some k, none => [0, 1, (k : Int)]
  | none, _ => [0, 0]) = _
 cases h : Vbtaai.rank s n with
 | none => rfl
 | some k =>
  cases k with
  | zero => rw [zg22 (.inl h)]; rfl
  | succ k =>
   obtain ⟨a, r, e1, e2, _⟩ := zy9 h
   rw [e2, e1]
   rfl
theorem zp12 : FnScope ["self", "refusal", "rank"] ["self"] (defScope (inClass (top 81) 11)) := by simp_all? only
theorem zs24 (T : Txt K mg) : FnOk P w K mg base CX0 8 T.zb9.f T.zb9.fd ["self"] (zb12 T.za.C T.zb.C .hint) := by
 have zx1 := @zd4 P w K mg base T
 have zl1 := @zh3 P w K mg base T
 have zs6 := @zy8 P w K mg base T
 refine T.zb9.F.ok zp12 (fun _ _ _ _ h => ?_) (fun _ _ _ _ H vs Q E hr h => ?_)
 ·obtain ⟨g, G, st, rfl, _⟩ := h
  rfl
 ·obtain ⟨g, G, st, rfl, ⟨F, sp, pa, dx, rfl, A⟩, k⟩ := h
  refine ⟨_, (pss_cons (ps_set (i := 1) zp12.nd rfl (by simp_all?) (zm T.zb3 zx1 (hr.mono (by decide)) (pa_cons (zd T.zb.cl T.zf (pv 0) rfl) pa_nil)))
   (pss_cons (ps_if (pt_cmpR op_ne (pv 1) (zg T.zr) (nomark _)) (pss_one (ps_ret (pe_lst (pa_cons (pv 1) pa_nil)))) pss_nil)
   (pss_cons (ps_set (i := 2) zp12.nd rfl (by simp_all?) (pix (zj1 T.za.cl T.ze2 zl1 (hr.mono (by decide)) (zd T.zb.cl T.zf (pv 0) rfl)) (zd T.zb.cl T.zt (pv 0) rfl)))
   (pss_cons (ps_if (pt_cmpR op_eq (pv 2) pe_int (nomark _)) (pss_one (ps_ret (pe_lst (pa_cons pe_int (pa_cons pe_int pa_nil))))) pss_nil)
   (pss_cons (ps_if (pt_cmpR op_eq (pv 2) pe_int (nomark _)) (pss_one (ps_ret (pe_lst (pa_cons pe_int (pa_cons pe_int (pa_cons pe_int pa_nil)))))) pss_nil)
   (pss_one (ps_ret (pe_lst (pa_cons pe_int (pa_cons pe_int (pa_cons (pe_op op_sub (pv 2) pe_int) (pa_cons (zy1 T.za.cl T.ze3 zs6 (hr.mono (by decide)) (zd T.zb.cl T.zf (pv 0) rfl) (pa_cons (zd T.zb.cl T.zt (pv 0) rfl) pa_nil)) pa_nil)))))))))))), ?_⟩
  simp only [st_c, st_n, st_z]
  have hz := szL
  have e : Vbtaai.step st (.hint) = _ := ze1 (s := st) (k := fun _ => (st, match Vbtaai.rankIn (winning st.story nobody) (Vbtaai.here st), Vbtaai.hint st.story (winning st.story nobody) (Vbtaai.here st) with
    | some k, some x => [0, 1, (k : Int), (x.1 : Int)]
    | some k, none => [0, 1, (k : Int)]
    | none, _ => [0, 0])) (l := [(-2, st.story.sizes.isEmpty)]) (by simp)
  have dz := zj2 (l := [(-2, st.story.sizes.isEmpty)]) (by simp)
  dsimp? [A.gg]
  refine ⟨sp, F, st.story, rfl, A.gs, ?_⟩
  generalize due [(-2, st.story.sizes.isEmpty)] = d at *
  simp? []
  split
  ·rename_i h0
   rw [if_neg (by simpa using h0), zl28] at e
   have S := A.gs
   obtain ⟨_, dx1, _, _, _, _, _, _, _, h1, _⟩ := S
   dsimp? only [A.gg, h1]
   refine ⟨sp, F, st.story, rfl, A.gs, fun H1 F1 rk sb1 gr1 S1 frk rkp hrk => ?_⟩
   have A1 := A.ask sb1 gr1 S1
   have fr1 := Fr.but sb1 A.gs.own gr1
   have en := atN (l := Vbtaai.ranks st.story) (i := encode st.story.sizes st.now) (by rw [zl3]; exact A.here)
   rw [zh5 A.here] at en
   dsimp? [A1.gg, hrk, en]
   change Vbtaai.step st .hint = (st, match Vbtaai.rank st.story (encode st.story.sizes st.now) with
    | none => [0, 0]
    | some 0 => [0, 1, 0]
    | some (k + 1) => [0, 1, ((k + 1 : Nat) : Int), (((zt5 st.story (encode st.story.sizes st.now)).getD 0 0 : Nat) : Int)]) at e
   cases hrank : Vbtaai.rank st.story (encode st.story.sizes st.now) with
   | none =>
    rw [hrank] at e
    simp? [told, Int.natCast_zero, List.length_cons, List.length_nil]
    refine ⟨by omega, fun q hq => ?_⟩
    exact k.ans fr1 A1 hq e rfl
   | some j =>
    cases j with
    | zero =>
     rw [hrank] at e
     have c1 : ¬ (((0 + 1 : Nat) : Int) = 0) := by decide
     have c2 : ((0 + 1 : Nat) : Int) = 1 := rfl
     simp? [told, c1, c2, List.length_cons, List.length_nil]
     refine ⟨by omega, fun q hq => ?_⟩
     exact k.ans fr1 A1 hq e rfl
    | succ j =>
     rw [hrank] at e
     have c1 : ¬ (((j + 1 + 1 : Nat) : Int) = 0) := by omega
     have c2 : ¬ (((j + 1 + 1 : Nat) : Int) = 1) := by omega
     obtain ⟨a, r, hld, _⟩ := zy9 hrank
     rw [hld] at e
     have S2 := S1
     obtain ⟨_, dx2, _, _, _, _, _, _, _, h2, _⟩ := S2
     dsimp? only [told, c1, c2, A1.gg, h2]
     refine ⟨sp, F1, st.story, _, a, j, r, rfl, S1, hrank, hld, fun H2 F2 sb2 gr2 S2 => ?_⟩
     simp? [List.length_cons, List.length_nil]
     refine ⟨by omega, fun q hq => ?_⟩
     refine k.ans (fr1.trans (Fr.but sb2 S1.own gr2)) (A1.ask sb2 gr2 S2) hq e ?_
     have c3 : ((j + 1 + 1 : Nat) : Int) - 1 = ((j + 1 : Nat) : Int) := by omega
     rw [c3]
     rfl
  ·rename_i h0
   simp? [List.length_cons, List.length_nil]
   refine ⟨by omega, fun q hq => ?_⟩
   exact k.ans Fr.refl A hq (e.trans (by rw [if_pos h0])) rfl
theorem zj21 {s : Story} {w : List Nat} : ∀ (f n : Nat), (Vbtaai.wayFrom s w f n).length <= f
 | 0, _ => Nat.le_refl _
 | f + 1, n => by
  rw [Vbtaai.wayFrom]
  split
  ·rw [List.length_cons]; have := zj21 (s := s) (w := w) f; exact Nat.succ_le_succ (this _)
  ·simp
theorem zh17 : FnScope ["self", "refusal"] ["self"] (defScope (inClass (top 81) 12)) := by simp_all? only
theorem zt25 (T : Txt K mg) : FnOk P w K mg base CX0 9 T.zn10.f T.zn10.fd ["self"] (zb12 T.za.C T.zb.C .way) := by
 have zt6 := @zg10 P w K mg base T
 have zn27 := @zq25 P w K mg base T
 refine T.zn10.F.ok zh17 (fun _ _ _ _ h => ?_) (fun _ _ _ _ H vs Q E hr h => ?_)
 ·obtain ⟨g, G, st, rfl, _⟩ := h
  rfl
 ·obtain ⟨g, G, st, rfl, ⟨F, sp, pa, dx, rfl, A⟩, k⟩ := h
  refine ⟨_, (pss_cons (ps_set (i := 1) zh17.nd rfl (by simp_all?) (zm T.zg5 zt6 (hr.mono (by decide)) (pa_cons (zd T.zb.cl T.zf (pv 0) rfl) (pa_cons (zd T.zb.cl T.zt (pv 0) rfl) pa_nil))))
   (pss_cons (ps_if (pt_cmpR op_ne (pv 1) (zg T.zr) (nomark _)) (pss_one (ps_ret (pe_lst (pa_cons (pv 1) pa_nil)))) pss_nil)
   (pss_one (ps_ret (pe_op op_cat (pe_lst (pa_cons pe_int pa_nil)) (zm T.zd12 zn27 (hr.mono (by decide)) (pa_cons (zd T.zb.cl T.zf (pv 0) rfl) (pa_cons (zd T.zb.cl T.zt (pv 0) rfl) pa_nil)))))))), ?_⟩
  simp only [st_c, st_n, st_z]
  have hz := szL
  have e : Vbtaai.step st (.way) = _ := ze1 (s := st) (k := fun _ => (st, 0 :: Vbtaai.ints (Vbtaai.wayFrom st.story (winning st.story nobody) (count st.story) (Vbtaai.here st)))) (l := [(-2, st.story.sizes.isEmpty), (-10, (Vbtaai.rank st.story (Vbtaai.here st)).isNone)]) (by simp)
  have dz := zj2 (l := [(-2, st.story.sizes.isEmpty), (-10, (Vbtaai.rank st.story (Vbtaai.here st)).isNone)]) (by simp)
  have S := A.gs
  obtain ⟨_, dx1, _, _, _, _, _, _, _, h1, _⟩ := S
  dsimp? [A.gg]
  refine ⟨sp, F, st.story, _, rfl, A.gs, A.here, fun H1 F1 sb1 gr1 S1 => ?_⟩
  have A1 := A.ask sb1 gr1 S1
  have fr1 := Fr.but sb1 A.gs.own gr1
  change due [(-2, st.story.sizes.isEmpty), (-10, (Vbtaai.rank st.story (encode st.story.sizes st.now)).isNone)] = 0 -> _ at dz
  change Vbtaai.step st (.way) = if due [(-2, st.story.sizes.isEmpty), (-10, (Vbtaai.rank st.story (encode st.story.sizes st.now)).isNone)] ≠ 0 then (st, [due [(-2, st.story.sizes.isEmpty), (-10, (Vbtaai.rank st.story (encode st.story.sizes st.now)).isNone)]]) else _ at e
  generalize due [(-2, st.story.sizes.isEmpty), (-10, (Vbtaai.rank st.story (encode st.story.sizes st.now)).isNone)] = d at *
  simp? []
  split
  ·rename_i h0
   have hr0 := dz h0 (-10, (Vbtaai.rank st.story (encode st.story.sizes st.now)).isNone) (by simp [Vbtaai.here])
   obtain ⟨j, hj⟩ : ∃ j, Vbtaai.rank st.story (encode st.story.sizes st.now) = some j := by
    cases hh : Vbtaai.rank st.story (encode st.story.sizes st.now) with
    | none => rw [hh] at hr0; cases hr0
    | some j => exact ⟨j, rfl⟩
   have e2 := e.trans (by rw [if_neg (by simpa using h0)])
   simp? [List.length_cons, List.length_nil]
   refine ⟨by omega, fun l hl1 => ?_⟩
   have A2 := A1.same (Same.rfl'.new (o := .lst [V.int 0]) hl1)
   dsimp? [A2.gg]
   refine ⟨sp, F1, st.story, _, j, rfl, A2.gs, hj, fun H3 F3 q sb3 gr3 S3 hq3 => ?_⟩
   have A3 := A2.ask sb3 gr3 S3
   have fr3 := (fr1.trans (Fr.same (Same.rfl'.new (o := .lst [V.int 0]) hl1))).trans (Fr.but sb3 A2.gs.own gr3)
   have lsp : l ≠ sp := fun z => by
    have := A1.gs.own
    obtain ⟨o, ho⟩ := A1.gs.dom _ this
    rw [<- z, hl1] at ho
    cases ho
   have hl3 := sb3 l _ upd_same lsp
   have wl := zj21 (s := st.story) (w := winning st.story nobody) (count st.story) (encode st.story.sizes st.now)
   have cn := A.gs.wf.cnt
   simp? [hl3, hq3, List.length_cons, List.length_nil, List.length_map]
   refine ⟨by omega, fun r hr => ?_⟩
   exact k.ans fr3 A3 hr e2 (zr23 _ _)
  ·rename_i h0
   simp? [List.length_cons, List.length_nil]
   refine ⟨by omega, fun q hq => ?_⟩
   exact k.ans fr1 A1 hq (e.trans (by rw [if_pos h0])) rfl
theorem zh15 : FnScope ["self", "refusal"] ["self"] (defScope (inClass (top 81) 20)) := by simp_all? only
theorem zt24 (T : Txt K mg) : FnOk P w K mg base CX0 8 T.ze9.f T.ze9.fd ["self"] (zb12 T.za.C T.zb.C .ways) := by
 have zt6 := @zg10 P w K mg base T
 have zo20 := @zu17 P w K mg base T
 refine T.ze9.F.ok zh15 (fun _ _ _ _ h => ?_) (fun _ _ _ _ H vs Q E hr h => ?_)
 ·obtain ⟨g, G, st, rfl, _⟩ := h
  rfl
 ·obtain ⟨g, G, st, rfl, ⟨F, sp, pa, dx, rfl, A⟩, k⟩ := h
  refine ⟨_, (pss_cons (ps_set (i := 1) zh15.nd rfl (by simp_all?) (zm T.zg5 zt6 (hr.mono (by decide)) (pa_cons (zd T.zb.cl T.zf (pv 0) rfl) (pa_cons (zd T.zb.cl T.zt (pv 0) rfl) pa_nil))))
   (pss_cons (ps_if (pt_cmpR op_ne (pv 1) (zg T.zr) (nomark _)) (pss_one (ps_ret (pe_lst (pa_cons (pv 1) pa_nil)))) pss_nil)
   (pss_one (ps_ret (pe_lst (pa_cons pe_int (pa_cons (zm T.zu7 zo20 (hr.mono (by decide)) (pa_cons (zd T.zb.cl T.zf (pv 0) rfl) (pa_cons (zd T.zb.cl T.zt (pv 0) rfl) pa_nil))) pa_nil))))))), ?_⟩
  simp only [st_c, st_n, st_z]
  have hz := szL
  have e : Vbtaai.step st (.ways) = _ := ze1 (s := st) (k := fun _ => (st, [0, (Vbtaai.ways st.story (Vbtaai.here st) : Int)])) (l := [(-2, st.story.sizes.isEmpty), (-10, (Vbtaai.rank st.story (Vbtaai.here st)).isNone)]) (by simp)
  have dz := zj2 (l := [(-2, st.story.sizes.isEmpty), (-10, (Vbtaai.rank st.story (Vbtaai.here st)).isNone)]) (by simp)
  have S := A.gs
  obtain ⟨_, dx1, _, _, _, _, _, _, _, h1, _⟩ := S
  dsimp? [A.gg]
  refine ⟨sp, F, st.story, _, rfl, A.gs, A.here, fun H1 F1 sb1 gr1 S1 => ?_⟩
  have A1 := A.ask sb1 gr1 S1
  have fr1 := Fr.but sb1 A.gs.own gr1
  change due [(-2, st.story.sizes.isEmpty), (-10, (Vbtaai.rank st.story (encode st.story.sizes st.now)).isNone)] = 0 -> _ at dz
  change Vbtaai.step st (.ways) = if due [(-2, st.story.sizes.isEmpty), (-10, (Vbtaai.rank st.story (encode st.story.sizes st.now)).isNone)] ≠ 0 then (st, [due [(-2, st.story.sizes.isEmpty), (-10, (Vbtaai.rank st.story (encode st.story.sizes st.now)).isNone)]]) else _ at e
  generalize due [(-2, st.story.sizes.isEmpty), (-10, (Vbtaai.rank st.story (encode st.story.sizes st.now)).isNone)] = d at *
  simp? []
  split
  ·rename_i h0
   have hr0 := dz h0 (-10, (Vbtaai.rank st.story (encode st.story.sizes st.now)).isNone) (by simp [Vbtaai.here])
   obtain ⟨j, hj⟩ : ∃ j, Vbtaai.rank st.story (encode st.story.sizes st.now) = some j := by
    cases hh : Vbtaai.rank st.story (encode st.story.sizes st.now) with
    | none => rw [hh] at hr0; cases hr0
    | some j => exact ⟨j, rfl⟩
   have e2 := e.trans (by rw [if_neg (by simpa using h0)])
   dsimp? [A1.gg]
   refine ⟨sp, F1, st.story, _, j, rfl, A1.gs, hj, fun H3 F3 sb3 gr3 S3 => ?_⟩
   have A3 := A1.ask sb3 gr3 S3
   simp? [List.length_cons, List.length_nil]
   refine ⟨by omega, fun r hr => ?_⟩
   exact k.ans (fr1.trans (Fr.but sb3 A1.gs.own gr3)) A3 hr e2 rfl
  ·rename_i h0
   simp? [List.length_cons, List.length_nil]
   refine ⟨by omega, fun q hq => ?_⟩
   exact k.ans fr1 A1 hq (e.trans (by rw [if_pos h0])) rfl
theorem zx13 : FnScope ["self", "refusal"] ["self"] (defScope (inClass (top 81) 15)) := by simp_all? only
theorem zk21 (T : Txt K mg) : FnOk P w K mg base CX0 8 T.ze7.f T.ze7.fd ["self"] (zb12 T.za.C T.zb.C .survey) := by
 have zx1 := @zd4 P w K mg base T
 have zy25 := @zo24 P w K mg base T
 refine T.ze7.F.ok zx13 (fun _ _ _ _ h => ?_) (fun _ _ _ _ H vs Q E hr h => ?_)
 ·obtain ⟨g, G, st, rfl, _⟩ := h
  rfl
 ·obtain ⟨g, G, st, rfl, ⟨F, sp, pa, dx, rfl, A⟩, k⟩ := h
  refine ⟨_, (pss_cons (ps_set (i := 1) zx13.nd rfl (by simp_all?) (zm T.zb3 zx1 (hr.mono (by decide)) (pa_cons (zd T.zb.cl T.zf (pv 0) rfl) pa_nil)))
   (pss_cons (ps_if (pt_cmpR op_ne (pv 1) (zg T.zr) (nomark _)) (pss_one (ps_ret (pe_lst (pa_cons (pv 1) pa_nil)))) pss_nil)
   (pss_one (ps_ret (pe_op op_cat (pe_lst (pa_cons pe_int pa_nil)) (zm T.zd11 zy25 (hr.mono (by decide)) (pa_cons (zd T.zb.cl T.zf (pv 0) rfl) pa_nil))))))), ?_⟩
  simp only [st_c, st_n, st_z]
  have hz := szL
  have e : Vbtaai.step st (.survey) = _ := ze1 (s := st) (k := fun _ => (st, 0 :: Vbtaai.ints [(zn st.story).length, ((zn st.story).filter fun n => zh st.story n == 1).length, ((zn st.story).filter fun n => zh st.story n == 2).length,
  ((zn st.story).filter fun n => zh st.story n == 0 && (Vbtaai.rank st.story n).isSome).length, ((zn st.story).filter fun n => zh st.story n == 0 && (Vbtaai.rank st.story n).isNone).length])) (l := [(-2, st.story.sizes.isEmpty)]) (by simp)
  have dz := zj2 (l := [(-2, st.story.sizes.isEmpty)]) (by simp)
  dsimp? [A.gg]
  refine ⟨sp, F, st.story, rfl, A.gs, ?_⟩
  generalize due [(-2, st.story.sizes.isEmpty)] = d at *
  simp? []
  split
  ·rename_i h0
   simp? [List.length_cons, List.length_nil]
   refine ⟨by omega, fun l hl1 => ?_⟩
   have A2 := A.same (Same.rfl'.new (o := .lst [V.int 0]) hl1)
   dsimp? [A2.gg]
   refine ⟨sp, F, st.story, rfl, A2.gs, fun H3 F3 q sb3 gr3 S3 hq3 => ?_⟩
   have A3 := A2.ask sb3 gr3 S3
   have fr3 := (Fr.same (F := F) (Same.rfl'.new (o := .lst [V.int 0]) hl1)).trans (Fr.but sb3 A2.gs.own gr3)
   have lsp : l ≠ sp := fun z => by
    obtain ⟨o, ho⟩ := A.gs.dom _ A.gs.own
    rw [<- z, hl1] at ho
    cases ho
   have hl3 := sb3 l _ upd_same lsp
   simp? [hl3, hq3, List.length_cons, List.length_nil, List.length_map]
   refine ⟨by omega, fun r hr => ?_⟩
   exact k.ans fr3 A3 hr (e.trans (by rw [if_neg (by simpa using h0)])) (zr23 _ _)
  ·rename_i h0
   simp? [List.length_cons, List.length_nil]
   refine ⟨by omega, fun q hq => ?_⟩
   exact k.ans Fr.refl A hq (e.trans (by rw [if_pos h0])) rfl
theorem zm11 : FnScope ["self", "refusal"] ["self"] (defScope (inClass (top 81) 16)) := by simp_all? only
theorem zi15 (T : Txt K mg) : FnOk P w K mg base CX0 8 T.zz4.f T.zz4.fd ["self"] (zb12 T.za.C T.zb.C .ranks) := by
 have zx1 := @zd4 P w K mg base T
 have zl1 := @zh3 P w K mg base T
 refine T.zz4.F.ok zm11 (fun _ _ _ _ h => ?_) (fun _ _ _ _ H vs Q E hr h => ?_)
 ·obtain ⟨g, G, st, rfl, _⟩ := h
  rfl
 ·obtain ⟨g, G, st, rfl, ⟨F, sp, pa, dx, rfl, A⟩, k⟩ := h
  refine ⟨_, (pss_cons (ps_set (i := 1) zm11.nd rfl (by simp_all?) (zm T.zb3 zx1 (hr.mono (by decide)) (pa_cons (zd T.zb.cl T.zf (pv 0) rfl) pa_nil)))
   (pss_cons (ps_if (pt_cmpR op_ne (pv 1) (zg T.zr) (nomark _)) (pss_one (ps_ret (pe_lst (pa_cons (pv 1) pa_nil)))) pss_nil)
   (pss_one (ps_ret (pe_op op_cat (pe_lst (pa_cons pe_int pa_nil)) (zj1 T.za.cl T.ze2 zl1 (hr.mono (by decide)) (zd T.zb.cl T.zf (pv 0) rfl))))))), ?_⟩
  simp only [st_c, st_n, st_z]
  have hz := szL
  have e : Vbtaai.step st (.ranks) = _ := ze1 (s := st) (k := fun _ => (st, 0 :: Vbtaai.ints (Vbtaai.ranks st.story))) (l := [(-2, st.story.sizes.isEmpty)]) (by simp)
  have dz := zj2 (l := [(-2, st.story.sizes.isEmpty)]) (by simp)
  dsimp? [A.gg]
  refine ⟨sp, F, st.story, rfl, A.gs, ?_⟩
  generalize due [(-2, st.story.sizes.isEmpty)] = d at *
  simp? []
  split
  ·rename_i h0
   simp? [List.length_cons, List.length_nil]
   refine ⟨by omega, fun l hl1 => ?_⟩
   have A2 := A.same (Same.rfl'.new (o := .lst [V.int 0]) hl1)
   have S := A2.gs
   obtain ⟨_, dx1, _, _, _, _, _, _, _, h1, _⟩ := S
   have cn := A.gs.wf.cnt
   dsimp? only [A2.gg, h1]
   refine ⟨sp, F, st.story, rfl, A2.gs, fun H3 F3 q sb3 gr3 S3 frk rkp hq3 => ?_⟩
   have A3 := A2.ask sb3 gr3 S3
   have fr3 := (Fr.same (F := F) (Same.rfl'.new (o := .lst [V.int 0]) hl1)).trans (Fr.but sb3 A2.gs.own gr3)
   have lsp : l ≠ sp := fun z => by
    obtain ⟨o, ho⟩ := A.gs.dom _ A.gs.own
    rw [<- z, hl1] at ho
    cases ho
   have hl3 := sb3 l _ upd_same lsp
   simp? [hl3, hq3, List.length_cons, List.length_nil, List.length_map, zl3]
   refine ⟨by omega, fun r hr => ?_⟩
   exact k.ans fr3 A3 hr (e.trans (by rw [if_neg (by simpa using h0)])) (zr23 _ _)
  ·rename_i h0
   simp? [List.length_cons, List.length_nil]
   refine ⟨by omega, fun q hq => ?_⟩
   exact k.ans Fr.refl A hq (e.trans (by rw [if_pos h0])) rfl
end
section
variable {P : Program} {w : World} {K : W.Frag} {mg : Str -> Option Value} {base : Heap}
open Vbtaai (places decode encode count told)
theorem zj15 : FnScope ["self", "n", "refusal"] ["self", "n"] (defScope (inClass (top 81) 13)) := by simp_all? only
theorem zu24 (T : Txt K mg) : FnOk P w K mg base CX0 8 T.zc9.f T.zc9.fd ["self", "n"] (zq23 T.za.C T.zb.C .rank) := by
 have zr5 := @zu8 P w K mg base T
 have zl1 := @zh3 P w K mg base T
 refine T.zc9.F.ok zj15 (fun _ _ _ _ h => ?_) (fun _ _ _ _ H vs Q E hr h => ?_)
 ·obtain ⟨g, G, st, n, rfl, _⟩ := h
  rfl
 ·obtain ⟨g, G, st, n, rfl, ⟨F, sp, pa, dx, rfl, A⟩, k⟩ := h
  refine ⟨_, (pss_cons (ps_set (i := 2) zj15.nd rfl (by simp_all?) (zm T.zj4 zr5 (hr.mono (by decide)) (pa_cons (zd T.zb.cl T.zf (pv 0) rfl) (pa_cons (pe_lst (pa_cons (pv 1) pa_nil)) pa_nil))))
   (pss_cons (ps_if (pt_cmpR op_ne (pv 2) (zg T.zr) (nomark _)) (pss_one (ps_ret (pe_lst (pa_cons (pv 2) pa_nil)))) pss_nil)
   (pss_one (ps_ret (pe_lst (pa_cons pe_int (pa_cons (pix (zj1 T.za.cl T.ze2 zl1 (hr.mono (by decide)) (zd T.zb.cl T.zf (pv 0) rfl)) (pv 1)) pa_nil))))))), ?_⟩
  simp only [st_c, st_n, st_z]
  have hz := szL
  have e : Vbtaai.step st (.rank n) = _ := ze1 (s := st) (k := fun _ => (st, [0, (told (Vbtaai.rank st.story n.toNat) : Int)])) (l := [(-1, !inr n 0 1023), (-2, st.story.sizes.isEmpty), (-4, decide ((count st.story : Int) <= n))]) (by simp)
  have dz := zj2 (l := [(-1, !inr n 0 1023), (-2, st.story.sizes.isEmpty), (-4, decide ((count st.story : Int) <= n))]) (by simp)
  dsimp? [A.gg, List.length_cons, List.length_nil]
  refine ⟨by omega, fun l0 hl0 => ?_⟩
  have sm0 : Same H (upd H l0 (.lst [V.int n])) := Same.rfl'.new hl0
  have A0 := A.same sm0
  refine ⟨sp, l0, F, st.story, [n], rfl, A0.gs, upd_same, ?_⟩
  have eL : due [(-1, !([n].all fun n => inr n 0 1023)), (-2, st.story.sizes.isEmpty), (-4, [n].any fun n => decide ((count st.story : Int) <= n))] = due [(-1, !inr n 0 1023), (-2, st.story.sizes.isEmpty), (-4, decide ((count st.story : Int) <= n))] := by simp only [List.all_cons, List.all_nil, List.any_cons, List.any_nil, Bool.and_true, Bool.or_false]
  rw [eL]
  generalize due [(-1, !inr n 0 1023), (-2, st.story.sizes.isEmpty), (-4, decide ((count st.story : Int) <= n))] = d at *
  simp? []
  split
  ·rename_i h0
   have e2 := e.trans (by rw [if_neg (by simpa using h0)])
   have d1 := dz h0 (-1, !inr n 0 1023) (by simp)
   have d2 := dz h0 (-4, decide ((count st.story : Int) <= n)) (by simp)
   simp only [Bool.not_eq_false', decide_eq_false_iff_not, zd2] at d1 d2
   clear eL dz e
   obtain ⟨m, rfl⟩ : ∃ m : Nat, n = (m : Int) := ⟨n.toNat, by omega⟩
   rw [Int.toNat_natCast] at e2
   have hm : m < count st.story := by omega
   have S := A0.gs
   obtain ⟨_, dx1, _, _, _, _, _, _, _, h1, _⟩ := S
   dsimp? only [A0.gg, h1]
   refine ⟨sp, F, st.story, rfl, A0.gs, fun H1 F1 rk sb1 gr1 S1 frk rkp hrk => ?_⟩
   have A1 := A0.ask sb1 gr1 S1
   have en := atN (l := Vbtaai.ranks st.story) (i := m) (by rw [zl3]; exact hm)
   rw [zh5 hm] at en
   simp? [hrk, en, List.length_cons, List.length_nil]
   refine ⟨by omega, fun r hr => ?_⟩
   exact k.ans ((Fr.same sm0).trans (Fr.but sb1 A0.gs.own gr1)) A1 hr e2 rfl
  ·rename_i h0
   simp? [List.length_cons, List.length_nil]
   refine ⟨by omega, fun q hq => ?_⟩
   exact k.ans (Fr.same sm0) A0 hq (e.trans (by rw [if_pos h0])) rfl
theorem zn11 : FnScope ["self", "n", "refusal"] ["self", "n"] (defScope (inClass (top 81) 21)) := by simp_all? only
theorem zk15 (T : Txt K mg) : FnOk P w K mg base CX0 3 T.za5.f T.za5.fd ["self", "n"] (zq23 T.za.C T.zb.C .state) := by
 have zr5 := @zu8 P w K mg base T
 have zr1 := @zs3 P w K mg base T
 refine T.za5.F.ok zn11 (fun _ _ _ _ h => ?_) (fun _ _ _ _ H vs Q E hr h => ?_)
 ·obtain ⟨g, G, st, n, rfl, _⟩ := h
  rfl
 ·obtain ⟨g, G, st, n, rfl, ⟨F, sp, pa, dx, rfl, A⟩, k⟩ := h
  refine ⟨_, (pss_cons (ps_set (i := 2) zn11.nd rfl (by simp_all?) (zm T.zj4 zr5 (hr.mono (by decide)) (pa_cons (zd T.zb.cl T.zf (pv 0) rfl) (pa_cons (pe_lst (pa_cons (pv 1) pa_nil)) pa_nil))))
   (pss_cons (ps_if (pt_cmpR op_ne (pv 2) (zg T.zr) (nomark _)) (pss_one (ps_ret (pe_lst (pa_cons (pv 2) pa_nil)))) pss_nil)
   (pss_one (ps_ret (zy1 T.zb.cl T.zq1 zr1 (hr.mono (by decide)) (pv 0) (pa_cons (pv 1) pa_nil)))))), ?_⟩
  simp only [st_c, st_n, st_z]
  have hz := szL
  have e : Vbtaai.step st (.state n) = _ := ze1 (s := st) (k := fun _ => (st, 0 :: Vbtaai.look st.story (decode st.story.sizes n.toNat))) (l := [(-1, !inr n 0 1023), (-2, st.story.sizes.isEmpty), (-4, decide ((count st.story : Int) <= n))]) (by simp)
  have dz := zj2 (l := [(-1, !inr n 0 1023), (-2, st.story.sizes.isEmpty), (-4, decide ((count st.story : Int) <= n))]) (by simp)
  dsimp? [A.gg, List.length_cons, List.length_nil]
  refine ⟨by omega, fun l0 hl0 => ?_⟩
  have sm0 : Same H (upd H l0 (.lst [V.int n])) := Same.rfl'.new hl0
  have A0 := A.same sm0
  refine ⟨sp, l0, F, st.story, [n], rfl, A0.gs, upd_same, ?_⟩
  have eL : due [(-1, !([n].all fun n => inr n 0 1023)), (-2, st.story.sizes.isEmpty), (-4, [n].any fun n => decide ((count st.story : Int) <= n))] = due [(-1, !inr n 0 1023), (-2, st.story.sizes.isEmpty), (-4, decide ((count st.story : Int) <= n))] := by simp only [List.all_cons, List.all_nil, List.any_cons, List.any_nil, Bool.and_true, Bool.or_false]
  rw [eL]
  generalize due [(-1, !inr n 0 1023), (-2, st.story.sizes.isEmpty), (-4, decide ((count st.story : Int) <= n))] = d at *
  simp? []
  split
  ·rename_i h0
   have e2 := e.trans (by rw [if_neg (by simpa using h0)])
   have d1 := dz h0 (-1, !inr n 0 1023) (by simp)
   have d2 := dz h0 (-4, decide ((count st.story : Int) <= n)) (by simp)
   simp only [Bool.not_eq_false', decide_eq_false_iff_not, zd2] at d1 d2
   clear eL dz e
   obtain ⟨m, rfl⟩ : ∃ m : Nat, n = (m : Int) := ⟨n.toNat, by omega⟩
   rw [Int.toNat_natCast] at e2
   have hm : m < count st.story := by omega
   dsimp? [A0.gg]
   refine ⟨g, sp, pa, dx, F, st, m, rfl, A0, hm, fun H' q sm hn hq => ?_⟩
   exact k.at_ (Fr.same sm0) A0 sm hn e2 hq
  ·rename_i h0
   simp? [List.length_cons, List.length_nil]
   refine ⟨by omega, fun q hq => ?_⟩
   exact k.ans (Fr.same sm0) A0 hq (e.trans (by rw [if_pos h0])) rfl
theorem zq12 : FnScope ["self", "n", "m", "refusal"] ["self", "n", "m"] (defScope (inClass (top 81) 18)) := by simp_all? only
theorem za18 (T : Txt K mg) : FnOk P w K mg base CX0 8 T.zd6.f T.zd6.fd ["self", "n", "m"] (sp_g2 T.za.C T.zb.C .distance) := by
 have zr5 := @zu8 P w K mg base T
 have zx := @zr2 P w K mg base T
 have zx3 := @zf6 P w K mg base T
 refine T.zd6.F.ok zq12 (fun _ _ _ _ h => ?_) (fun _ _ _ _ H vs Q E hr h => ?_)
 ·obtain ⟨g, G, st, n, m, rfl, _⟩ := h
  rfl
 ·obtain ⟨g, G, st, n, m, rfl, ⟨F, sp, pa, dx, rfl, A⟩, k⟩ := h
  refine ⟨_, (pss_cons (ps_set (i := 3) zq12.nd rfl (by simp_all?) (zm T.zj4 zr5 (hr.mono (by decide)) (pa_cons (zd T.zb.cl T.zf (pv 0) rfl) (pa_cons (pe_lst (pa_cons (pv 1) (pa_cons (pv 2) pa_nil))) pa_nil))))
   (pss_cons (ps_if (pt_cmpR op_ne (pv 3) (zg T.zr) (nomark _)) (pss_one (ps_ret (pe_lst (pa_cons (pv 3) pa_nil)))) pss_nil)
   (pss_one (ps_ret (pe_lst (pa_cons pe_int (pa_cons (pix (zm T.zw3 zx3 (hr.mono (by decide)) (pa_cons (zj1 T.za.cl T.zi1 zx (hr.mono (by decide)) (zd T.zb.cl T.zf (pv 0) rfl)) (pa_cons (pv 1) pa_nil))) (pv 2)) pa_nil))))))), ?_⟩
  simp only [st_c, st_n, st_z]
  have hz := szL
  have e : Vbtaai.step st (.distance n m) = _ := ze1 (s := st) (k := fun _ => (st, [0, (told (Vbtaai.distance st.story n.toNat m.toNat) : Int)])) (l := [(-1, !(inr n 0 1023 && inr m 0 1023)), (-2, st.story.sizes.isEmpty), (-4, decide ((count st.story : Int) <= n) || decide ((count st.story : Int) <= m))]) (by simp)
  have dz := zj2 (l := [(-1, !(inr n 0 1023 && inr m 0 1023)), (-2, st.story.sizes.isEmpty), (-4, decide ((count st.story : Int) <= n) || decide ((count st.story : Int) <= m))]) (by simp)
  dsimp? [A.gg, List.length_cons, List.length_nil]
  refine ⟨by omega, fun l0 hl0 => ?_⟩
  have sm0 : Same H (upd H l0 (.lst [V.int n, V.int m])) := Same.rfl'.new hl0
  have A0 := A.same sm0
  refine ⟨sp, l0, F, st.story, [n, m], rfl, A0.gs, upd_same, ?_⟩
  have eL : due [(-1, !([n, m].all fun n => inr n 0 1023)), (-2, st.story.sizes.isEmpty), (-4, [n, m].any fun n => decide ((count st.story : Int) <= n))] = due [(-1, !(inr n 0 1023 && inr m 0 1023)), (-2, st.story.sizes.isEmpty), (-4, decide ((count st.story : Int) <= n) || decide ((count st.story : Int) <= m))] := by simp only [List.all_cons, List.all_nil, List.any_cons, List.any_nil, Bool.and_true, Bool.or_false]
  rw [eL]
  generalize due [(-1, !(inr n 0 1023 && inr m 0 1023)), (-2, st.story.sizes.isEmpty), (-4, decide ((count st.story : Int) <= n) || decide ((count st.story : Int) <= m))] = d at *
  simp? []
  split
  ·rename_i h0
   have e2 := e.trans (by rw [if_neg (by simpa using h0)])
   have d1 := dz h0 (-1, !(inr n 0 1023 && inr m 0 1023)) (by simp)
   have d2 := dz h0 (-4, decide ((count st.story : Int) <= n) || decide ((count st.story : Int) <= m)) (by simp)
   simp only [Bool.not_eq_false', Bool.or_eq_false_iff, Bool.and_eq_true, decide_eq_false_iff_not, zd2] at d1 d2
   clear eL dz e
   obtain ⟨a, rfl⟩ : ∃ a : Nat, n = (a : Int) := ⟨n.toNat, by omega⟩
   obtain ⟨b, rfl⟩ : ∃ b : Nat, m = (b : Int) := ⟨m.toNat, by omega⟩
   rw [Int.toNat_natCast, Int.toNat_natCast] at e2
   have ha : a < count st.story := by omega
   have hb : b < count st.story := by omega
   have W := A0.gs.wf
   have S := A0.gs
   obtain ⟨_, dx1, _, _, _, _, _, _, _, h1, _⟩ := S
   dsimp? only [A0.gg, h1]
   refine ⟨sp, F, st.story, rfl, A0.gs, fun H1 F1 q sb1 gr1 S1 hl1 => ?_⟩
   have A1 := A0.ask sb1 gr1 S1
   simp? []
   refine ⟨q, Vbtaai.table st.story, a, rfl, hl1.sub fun _ _ => trivial, by rw [zd1]; exact W.cnt, by rw [zd1]; exact ha, zl9 W, fun H2 di sm2 hdi hdi2 => ?_⟩
   have ed := atN (l := zd3 (Vbtaai.table st.story) a) (i := b) (by rw [zp17]; exact hb)
   rw [za21 hb] at ed
   simp? [hdi2, ed, List.length_cons, List.length_nil]
   refine ⟨by omega, fun r hr => ?_⟩
   exact k.ans (((Fr.same sm0).trans (Fr.but sb1 A0.gs.own gr1)).trans (Fr.same sm2)) (A1.same sm2) hr e2 rfl
  ·rename_i h0
   simp? [List.length_cons, List.length_nil]
   refine ⟨by omega, fun q hq => ?_⟩
   exact k.ans (Fr.same sm0) A0 hq (e.trans (by rw [if_pos h0])) rfl
theorem zp6 : FnScope ["self", "a", "refusal", "n", "ranks", "back"] ["self", "a"] (defScope (inClass (top 81) 14)) := by simp_all? only
theorem zl21 (T : Txt K mg) : FnOk P w K mg base CX0 8 T.zd7.f T.zd7.fd ["self", "a"] (zq23 T.za.C T.zb.C .choice) := by
 have zo9 := @zv11 P w K mg base T
 have zx2 := @zx4 P w K mg base T
 have zl1 := @zh3 P w K mg base T
 have zx := @zr2 P w K mg base T
 have zx3 := @zf6 P w K mg base T
 refine T.zd7.F.ok zp6 (fun _ _ _ _ h => ?_) (fun _ _ _ _ H vs Q E hr h => ?_)
 ·obtain ⟨g, G, st, a, rfl, _⟩ := h
  rfl
 ·obtain ⟨g, G, st, a, rfl, ⟨F, sp, pa, dx, rfl, A⟩, k⟩ := h
  refine ⟨_, (pss_cons (ps_set (i := 2) zp6.nd rfl (by simp_all?) (zm T.zl5 zo9 (hr.mono (by decide)) (pa_cons (zd T.zb.cl T.zf (pv 0) rfl) (pa_cons (zd T.zb.cl T.zt (pv 0) rfl) (pa_cons (pv 1) pa_nil)))))
   (pss_cons (ps_if (pt_cmpR op_ne (pv 2) (zg T.zr) (nomark _)) (pss_one (ps_ret (pe_lst (pa_cons (pv 2) pa_nil)))) pss_nil)
   (pss_cons (ps_set (i := 3) zp6.nd rfl (by simp_all?) (zy1 T.za.cl T.zw2 zx2 (hr.mono (by decide)) (zd T.zb.cl T.zf (pv 0) rfl) (pa_cons (zd T.zb.cl T.zt (pv 0) rfl) (pa_cons (pv 1) pa_nil))))
   (pss_cons (ps_set (i := 4) zp6.nd rfl (by simp_all?) (zj1 T.za.cl T.ze2 zl1 (hr.mono (by decide)) (zd T.zb.cl T.zf (pv 0) rfl)))
   (pss_cons (ps_set (i := 5) zp6.nd rfl (by simp_all?) (pix (zm T.zw3 zx3 (hr.mono (by decide)) (pa_cons (zj1 T.za.cl T.zi1 zx (hr.mono (by decide)) (zd T.zb.cl T.zf (pv 0) rfl)) (pa_cons (pv 3) pa_nil))) (zd T.zb.cl T.zt (pv 0) rfl)))
   (pss_one (ps_ret (pe_lst (pa_cons pe_int (pa_cons (pv 3) (pa_cons (pix (pv 4) (zd T.zb.cl T.zt (pv 0) rfl)) (pa_cons (pix (pv 4) (pv 3)) (pa_cons (pix (zd T.za.cl T.zk (zd T.zb.cl T.zf (pv 0) rfl) rfl) (pv 3)) (pa_cons (pe_ifExp (pt_cmpR op_gt (pv 5) pe_int (nomark _)) pe_int pe_int) pa_nil)))))))))))))), ?_⟩
  simp only [st_c, st_n, st_z]
  have hz := szL
  have e : Vbtaai.step st (.choice a) = _ := ze1 (s := st) (k := fun _ => match (Vbtaai.leads st.story (Vbtaai.here st)).getD a.toNat none with
   | some m => (st, [0, (m : Int), (told (Vbtaai.rank st.story (Vbtaai.here st)) : Int), (told (Vbtaai.rank st.story m) : Int), (Vbtaai.ending st.story (decode st.story.sizes m) : Int), if (Vbtaai.distance st.story m (Vbtaai.here st)).isSome = true then 1 else 0])
   | none => (st, [-6])) (l := [(-1, !inr a 0 15), (-2, st.story.sizes.isEmpty), (-3, decide ((st.story.actions.length : Int) <= a)), (-5, Vbtaai.ending st.story st.now != 0)]) (by simp)
  have dz := zj2 (l := [(-1, !inr a 0 15), (-2, st.story.sizes.isEmpty), (-3, decide ((st.story.actions.length : Int) <= a)), (-5, Vbtaai.ending st.story st.now != 0)]) (by simp)
  have hk : zh st.story (encode st.story.sizes st.now) = Vbtaai.ending st.story st.now := by unfold zh; rw [zg3 A.wf.now]
  have e5 : due [(-1, !inr a 0 15), (-2, st.story.sizes.isEmpty), (-3, decide ((st.story.actions.length : Int) <= a)), (-5, zh st.story (encode st.story.sizes st.now) != 0), (-6, (lead st.story (encode st.story.sizes st.now) a.toNat).isNone)] = if due [(-1, !inr a 0 15), (-2, st.story.sizes.isEmpty), (-3, decide ((st.story.actions.length : Int) <= a)), (-5, Vbtaai.ending st.story st.now != 0)] ≠ 0 then due [(-1, !inr a 0 15), (-2, st.story.sizes.isEmpty), (-3, decide ((st.story.actions.length : Int) <= a)), (-5, Vbtaai.ending st.story st.now != 0)] else if (lead st.story (encode st.story.sizes st.now) a.toNat).isNone = true then -6 else 0 := by
   rw [hk]
   exact zi21 (l := [(-1, !inr a 0 15), (-2, st.story.sizes.isEmpty), (-3, decide ((st.story.actions.length : Int) <= a)), (-5, Vbtaai.ending st.story st.now != 0)]) (m := [(-6, (lead st.story (encode st.story.sizes st.now) a.toNat).isNone)]) (by simp)
  dsimp? [A.gg]
  refine ⟨sp, F, st.story, _, a, rfl, A.gs, A.here, ?_⟩
  rw [e5]
  generalize due [(-1, !inr a 0 15), (-2, st.story.sizes.isEmpty), (-3, decide ((st.story.actions.length : Int) <= a)), (-5, Vbtaai.ending st.story st.now != 0)] = d at *
  clear e5
  cases hlead : lead st.story (encode st.story.sizes st.now) a.toNat with
  | none =>
   simp only [Option.isNone_none, if_true]
   have hne : (if d ≠ 0 then d else -6) ≠ 0 := by split <;> omega
   have key : Vbtaai.step st (.choice a) = (st, [if d ≠ 0 then d else -6]) := by
    rw [e]
    by_cases hd : d ≠ 0
    ·rw [if_pos hd, if_pos hd]
    ·rw [if_neg hd, if_neg hd]
     change (match lead st.story (encode st.story.sizes st.now) a.toNat with | some m => _ | none => (st, [-6])) = _
     rw [hlead]
   generalize (if d ≠ 0 then d else -6) = z at *
   simp? [hne, List.length_cons, List.length_nil]
   refine ⟨by omega, fun q hq => ?_⟩
   exact k.ans Fr.refl A hq key rfl
  | some m =>
   simp only [Option.isNone_some, Bool.false_eq_true, if_false]
   by_cases hd : d ≠ 0
   ·rw [if_pos hd] at e ⊢
    simp? [hd, List.length_cons, List.length_nil]
    refine ⟨by omega, fun q hq => ?_⟩
    exact k.ans Fr.refl A hq e rfl
   ·rw [if_neg hd] at e ⊢
    have d1 := dz (by simpa using hd) (-1, !inr a 0 15) (by simp)
    simp only [Bool.not_eq_false', zd2] at d1
    clear dz
    obtain ⟨b, rfl⟩ : ∃ b : Nat, a = (b : Int) := ⟨a.toNat, by omega⟩
    rw [Int.toNat_natCast] at hlead
    change Vbtaai.step st (.choice (b : Int)) = (match lead st.story (encode st.story.sizes st.now) ((b : Int)).toNat with
     | some m => (st, [0, (m : Int), (told (Vbtaai.rank st.story (encode st.story.sizes st.now)) : Int), (told (Vbtaai.rank st.story m) : Int), (zh st.story m : Int), if (Vbtaai.distance st.story m (encode st.story.sizes st.now)).isSome = true then 1 else 0])
     | none => (st, [-6])) at e
    rw [Int.toNat_natCast, hlead] at e
    dsimp only at e
    have W := A.gs.wf
    have hm : m < count st.story := zf26 W hlead
    have S := A.gs
    obtain ⟨_, dx1, _, _, _, _, _, _, _, h1, _⟩ := S
    dsimp? only [A.gg, h1]
    refine ⟨sp, F, st.story, _, b, m, rfl, A.gs, A.here, hlead, ?_⟩
    dsimp? only [A.gg, h1]
    refine ⟨sp, F, st.story, rfl, A.gs, fun H1 F1 rk sb1 gr1 S1 frk rkp hrk => ?_⟩
    have A1 := A.ask sb1 gr1 S1
    have fr1 := Fr.but sb1 A.gs.own gr1
    have S := A1.gs
    obtain ⟨_, dx2, _, _, _, _, _, _, _, h2, _⟩ := S
    dsimp? only [A1.gg, h2]
    refine ⟨sp, F1, st.story, rfl, A1.gs, fun H2 F2 q sb2 gr2 S2 hl2 => ?_⟩
    have A2 := A1.ask sb2 gr2 S2
    have fr2 := fr1.trans (Fr.but sb2 A1.gs.own gr2)
    have hrk2 := sb2 rk _ hrk rkp
    simp? []
    refine ⟨q, Vbtaai.table st.story, m, rfl, hl2.sub fun _ _ => trivial, by rw [zd1]; exact W.cnt, by rw [zd1]; exact hm, zl9 W, fun H3 di sm3 hdi hdi3 => ?_⟩
    have A3 := A2.same sm3
    have hrk3 := sm3 rk _ hrk2
    have ed := atN (l := zd3 (Vbtaai.table st.story) m) (i := encode st.story.sizes st.now) (by rw [zp17]; exact A.here)
    rw [za21 A.here] at ed
    have e1 := atN (l := Vbtaai.ranks st.story) (i := encode st.story.sizes st.now) (by rw [zl3]; exact A.here)
    rw [zh5 A.here] at e1
    have e2 := atN (l := Vbtaai.ranks st.story) (i := m) (by rw [zl3]; exact hm)
    rw [zh5 hm] at e2
    have S := A3.gs
    obtain ⟨_, dx3, _, _, ks, _, _, _, _, h3, _, _, _, R, _⟩ := S
    have ek := atN (l := zi st.story) (i := m) (by unfold zi; rw [List.length_map, zy]; exact hm)
    rw [show (zi st.story).getD m 0 = zh st.story m from zf1 hm] at ek
    dsimp? only [A3.gg, hdi3, ed, hrk3, e1, e2, h3, R.ks.2, ek]
    have fr3 := fr2.trans (Fr.same sm3)
    split
    ·rename_i hp
     rw [zl14] at hp
     rw [if_pos hp] at e
     simp? [List.length_cons, List.length_nil]
     refine ⟨by omega, fun r hr => ?_⟩
     exact k.ans fr3 A3 hr e rfl
    ·rename_i hp
     rw [zl14] at hp
     rw [if_neg hp] at e
     simp? [List.length_cons, List.length_nil]
     refine ⟨by omega, fun r hr => ?_⟩
     exact k.ans fr3 A3 hr e rfl
theorem zp14 : FnScope ["self", "table", "refusal"] ["self", "table"] (defScope (inClass (top 81) 17)) := by simp_all? only
theorem zy22 (T : Txt K mg) : FnOk P w K mg base CX0 8 T.ze8.f T.ze8.fd ["self", "table"] (zi27 T.za.C T.zb.C .check) := by
 have zp20 := @zy17 P w K mg base T
 have zs28 := @zg27 P w K mg base T
 refine T.ze8.F.ok zp14 (fun _ _ _ _ h => ?_) (fun _ _ _ _ H vs Q E hr h => ?_)
 ·obtain ⟨g, a, G, st, t, rfl, _⟩ := h
  rfl
 ·obtain ⟨g, a, G, st, t, rfl, ⟨F, sp, pa, dx, rfl, A⟩, ha, nG, k⟩ := h
  refine ⟨_, (pss_cons (ps_set (i := 2) zp14.nd rfl (by simp_all?) (zm T.zs7 zp20 (hr.mono (by decide)) (pa_cons (zd T.zb.cl T.zf (pv 0) rfl) (pa_cons (pv 1) pa_nil))))
   (pss_cons (ps_if (pt_cmpR op_ne (pv 2) (zg T.zr) (nomark _)) (pss_one (ps_ret (pe_lst (pa_cons (pv 2) pa_nil)))) pss_nil)
   (pss_one (ps_ret (pe_lst (pa_cons pe_int (pa_cons (pe_ifExp (pt_val (zm T.zf13 zs28 (hr.mono (by decide)) (pa_cons (zd T.zb.cl T.zf (pv 0) rfl) (pa_cons (pv 1) pa_nil)))) pe_int pe_int) pa_nil))))))), ?_⟩
  simp only [st_c, st_n, st_z]
  have hz := szL
  have e : Vbtaai.step st (.check t) = _ := ze1 (s := st) (k := fun _ => (st, [0, if Vbtaai.accepts st.story (nats t) = true then 1 else 0])) (l := [(-1, !(decide (t.length <= 1024) && t.all fun n => inr n 0 1025)), (-2, st.story.sizes.isEmpty)]) (by simp)
  have dz := zj2 (l := [(-1, !(decide (t.length <= 1024) && t.all fun n => inr n 0 1025)), (-2, st.story.sizes.isEmpty)]) (by simp)
  dsimp? [A.gg]
  refine ⟨sp, a, F, st.story, t, rfl, A.gs, ha, ?_⟩
  generalize due [(-1, !(decide (t.length <= 1024) && t.all fun n => inr n 0 1025)), (-2, st.story.sizes.isEmpty)] = d at *
  simp? []
  split
  ·rename_i h0
   have e2 := e.trans (by rw [if_neg (by simpa using h0)])
   have d1 := dz h0 (-1, !(decide (t.length <= 1024) && t.all fun n => inr n 0 1025)) (by simp)
   simp only [Bool.not_eq_false', Bool.and_eq_true, decide_eq_true_eq, List.all_eq_true, zd2] at d1
   have ht : vI t = vN (nats t) := zr13 fun x hx => (d1.2 x hx).1
   have nF : ¬ F a := fun z => nG (.inl z)
   dsimp? [A.gg]
   refine ⟨sp, a, F, st.story, nats t, rfl, A.gs, by rw [ha, ht], by unfold nats; rw [List.length_map]; exact d1.1, nF, fun H1 F1 sb1 gr1 S1 => ?_⟩
   have A1 := A.ask sb1 gr1 S1
   have fr1 := Fr.but sb1 A.gs.own gr1
   simp? []
   split
   ·rename_i hb
    rw [if_pos hb] at e2
    simp? [List.length_cons, List.length_nil]
    refine ⟨by omega, fun r hr => ?_⟩
    exact k.ans fr1 A1 hr e2 rfl
   ·rename_i hb
    rw [if_neg hb] at e2
    simp? [List.length_cons, List.length_nil]
    refine ⟨by omega, fun r hr => ?_⟩
    exact k.ans fr1 A1 hr e2 rfl
  ·rename_i h0
   simp? [List.length_cons, List.length_nil]
   refine ⟨by omega, fun q hq => ?_⟩
   exact k.ans Fr.refl A hq (e.trans (by rw [if_pos h0])) rfl
theorem zl15 : FnScope ["self", "v", "x", "refusal"] ["self", "v", "x"] (defScope (inClass (top 81) 19)) := by simp_all? only
theorem zv24 (T : Txt K mg) : FnOk P w K mg base CX0 9 T.zd9.f T.zd9.fd ["self", "v", "x"] (sp_g2 T.za.C T.zb.C .must) := by
 have zu21 := @za20 P w K mg base T
 have zv21 := @zp19 P w K mg base T
 refine T.zd9.F.ok zl15 (fun _ _ _ _ h => ?_) (fun _ _ _ _ H vs Q E hr h => ?_)
 ·obtain ⟨g, G, st, v, x, rfl, _⟩ := h
  rfl
 ·obtain ⟨g, G, st, v, x, rfl, ⟨F, sp, pa, dx, rfl, A⟩, k⟩ := h
  refine ⟨_, (pss_cons (ps_set (i := 3) zl15.nd rfl (by simp_all?) (zm T.zl8 zu21 (hr.mono (by decide)) (pa_cons (zd T.zb.cl T.zf (pv 0) rfl) (pa_cons (zd T.zb.cl T.zt (pv 0) rfl) (pa_cons (pv 1) (pa_cons (pv 2) pa_nil))))))
   (pss_cons (ps_if (pt_cmpR op_ne (pv 3) (zg T.zr) (nomark _)) (pss_one (ps_ret (pe_lst (pa_cons (pv 3) pa_nil)))) pss_nil)
   (pss_one (ps_ret (pe_lst (pa_cons pe_int (pa_cons (pe_ifExp (pt_val (zm T.zn8 zv21 (hr.mono (by decide)) (pa_cons (zd T.zb.cl T.zf (pv 0) rfl) (pa_cons (zd T.zb.cl T.zt (pv 0) rfl) (pa_cons (pv 1) (pa_cons (pv 2) pa_nil)))))) pe_int pe_int) pa_nil))))))), ?_⟩
  simp only [st_c, st_n, st_z]
  have hz := szL
  have e : Vbtaai.step st (.must v x) = _ := ze1 (s := st) (k := fun _ => (st, [0, if Vbtaai.must st.story (encode st.story.sizes st.now) v.toNat x.toNat = true then 1 else 0])) (l := [(-1, !(inr v 0 7 && inr x 0 7)), (-2, st.story.sizes.isEmpty), (-8, !(inr v 0 ((st.story.sizes.length : Int) - 1) && inr x 0 ((st.story.sizes.getD v.toNat 1 : Int) - 1))), (-10, (Vbtaai.rank st.story (encode st.story.sizes st.now)).isNone)]) (by simp)
  have dz := zj2 (l := [(-1, !(inr v 0 7 && inr x 0 7)), (-2, st.story.sizes.isEmpty), (-8, !(inr v 0 ((st.story.sizes.length : Int) - 1) && inr x 0 ((st.story.sizes.getD v.toNat 1 : Int) - 1))), (-10, (Vbtaai.rank st.story (encode st.story.sizes st.now)).isNone)]) (by simp)
  dsimp? [A.gg]
  refine ⟨sp, F, st.story, _, v, x, rfl, A.gs, A.here, fun H1 F1 sb1 gr1 S1 => ?_⟩
  have A1 := A.ask sb1 gr1 S1
  have fr1 := Fr.but sb1 A.gs.own gr1
  generalize due [(-1, !(inr v 0 7 && inr x 0 7)), (-2, st.story.sizes.isEmpty), (-8, !(inr v 0 ((st.story.sizes.length : Int) - 1) && inr x 0 ((st.story.sizes.getD v.toNat 1 : Int) - 1))), (-10, (Vbtaai.rank st.story (encode st.story.sizes st.now)).isNone)] = d at *
  simp? []
  split
  ·rename_i h0
   have e2 := e.trans (by rw [if_neg (by simpa using h0)])
   have d1 := dz h0 (-1, !(inr v 0 7 && inr x 0 7)) (by simp)
   have d2 := dz h0 (-8, !(inr v 0 ((st.story.sizes.length : Int) - 1) && inr x 0 ((st.story.sizes.getD v.toNat 1 : Int) - 1))) (by simp)
   simp only [Bool.not_eq_false', Bool.and_eq_true, zd2] at d1 d2
   clear dz e
   obtain ⟨b, rfl⟩ : ∃ b : Nat, v = (b : Int) := ⟨v.toNat, by omega⟩
   obtain ⟨c, rfl⟩ : ∃ c : Nat, x = (c : Int) := ⟨x.toNat, by omega⟩
   rw [Int.toNat_natCast, Int.toNat_natCast] at e2
   dsimp? [A1.gg]
   refine ⟨sp, F1, st.story, _, b, c, rfl, A1.gs, A.here, by omega, fun H2 F2 sb2 gr2 S2 => ?_⟩
   have A2 := A1.ask sb2 gr2 S2
   have fr2 := fr1.trans (Fr.but sb2 A1.gs.own gr2)
   simp? []
   cases hb : Vbtaai.must st.story (encode st.story.sizes st.now) b c with
   | true =>
    rw [hb] at e2
    simp? [List.length_cons, List.length_nil]
    refine ⟨by omega, fun r hr => ?_⟩
    exact k.ans fr2 A2 hr e2 rfl
   | false =>
    rw [hb] at e2
    simp? [List.length_cons, List.length_nil]
    refine ⟨by omega, fun r hr => ?_⟩
    exact k.ans fr2 A2 hr e2 rfl
  ·rename_i h0
   simp? [List.length_cons, List.length_nil]
   refine ⟨by omega, fun q hq => ?_⟩
   exact k.ans fr1 A1 hq (e.trans (by rw [if_pos h0])) rfl
end
section
variable {P : Program} {w : World} {K : W.Frag} {mg : Str -> Option Value} {base : Heap}
open Vbtaai (places decode encode count told)
section
variable {C CG g sp pa pa' dx q : Addr} {F F' G : Addr -> Prop} {H H' : Hp} {st : Vbtaai.State} {r : Vbtaai.State × List Int} {Q : VK}
theorem Post.atG {H1 : Hp} {st' : Vbtaai.State} {l : List Int} (p : Post C CG G H g r Q) (fr : Fr G H (gf F' g pa') H1) (A : zv2 C CG F' H1 g sp pa' dx st') (sm : Same H1 H') (hn : H1 q = none) (e : r = (st', l)) (hq : H' q = some (.lst (vI l))) : Q (.ref q) H' := by
 subst e
 exact p _ _ q (fr.trans (Fr.same sm)) ⟨F', sp, pa', dx, rfl, A.same sm⟩ hq (fr.fresh hn)
theorem Post.ansG {xs : List V} {st' : Vbtaai.State} {l : List Int} (p : Post C CG G H g r Q) (fr : Fr G H (gf F' g pa') H') (A : zv2 C CG F' H' g sp pa' dx st') (hq : H' q = none) (e : r = (st', l)) (ex : xs = vI l) : Q (.ref q) (upd H' q (.lst xs)) := by
 subst e ex
 exact p _ _ q (fr.trans (Fr.same (Same.rfl'.new hq))) ⟨F', sp, pa', dx, rfl, A.same (Same.rfl'.new hq)⟩ upd_same (fr.fresh hq)
end
theorem zj7 : FnScope ["self", "conditions", "effects", "count", "refusal"] ["self", "conditions", "effects"] (defScope (inClass (top 81) 2)) := by simp_all? only
theorem zt14 (T : Txt K mg) : FnOk P w K mg base CX0 6 T.zs4.f T.zs4.fd ["self", "conditions", "effects"] (zj27 T.za.C T.zb.C .action) := by
 have zo4 := @zp7 P w K mg base T
 have zz15 := @zs14 P w K mg base T
 refine T.zs4.F.ok zj7 (fun _ _ _ _ h => ?_) (fun _ _ _ _ H vs Q E hr h => ?_)
 ·obtain ⟨g, a, b, G, st, cs, es, rfl, _⟩ := h
  rfl
 ·obtain ⟨g, a, b, G, st, cs, es, rfl, ⟨F, sp, pa, dx, rfl, A⟩, ha, hb, nGa, nGb, k⟩ := h
  refine ⟨_, (pss_cons (ps_set (i := 3) zj7.nd rfl (by simp_all?) (pln T.len (zd T.za.cl T.zz1 (zd T.zb.cl T.zf (pv 0) rfl) rfl)))
   (pss_cons (ps_set (i := 4) zj7.nd rfl (by simp_all?) (zm T.zi4 zo4 (hr.mono (by decide)) (pa_cons (zd T.zb.cl T.zf (pv 0) rfl) (pa_cons (pv 3) (pa_cons (zg T.zq21) (pa_cons (pv 1) (pa_cons (pv 2) pa_nil)))))))
   (pss_cons (ps_if (pt_cmpR op_ne (pv 4) (zg T.zr) (nomark _)) (pss_one (ps_ret (pe_lst (pa_cons (pv 4) pa_nil)))) pss_nil)
   (pss_one (ps_ret (pe_lst (pa_cons pe_int (pa_cons (zy1 T.za.cl T.zr4 zz15 (hr.mono (by decide)) (zd T.zb.cl T.zf (pv 0) rfl) (pa_cons (pv 1) (pa_cons (pv 2) pa_nil))) pa_nil)))))))), ?_⟩
  simp only [st_c, st_n, st_z]
  have hz := szL
  have e : Vbtaai.step st (.action cs es) = _ := ze1 (s := st) (k := fun _ => ({ st with story := zd10 st.story ⟨condsOf cs, effsOf es⟩ }, [0, (st.story.actions.length : Int)])) (l := [(-1, !(Vbtaai.short cs && Vbtaai.short es)), (-2, st.story.sizes.isEmpty), (-7, decide (16 <= st.story.actions.length)), (-8, !(condsIn st.story.sizes cs && effsIn st.story.sizes es))]) (by simp)
  have dz := zj2 (l := [(-1, !(Vbtaai.short cs && Vbtaai.short es)), (-2, st.story.sizes.isEmpty), (-7, decide (16 <= st.story.actions.length)), (-8, !(condsIn st.story.sizes cs && effsIn st.story.sizes es))]) (by simp)
  have S := A.gs
  obtain ⟨W, dx1, sz, sv, ks, ef, tu, ka, kr, h1, h2, h3, h4, R, dm⟩ := S
  obtain ⟨efs, f1, f2, f3⟩ := R.ef
  dsimp? only [A.gg, h1, f1, List.length_map, f2]
  refine ⟨sp, a, b, F, st.story, st.story.actions.length, 16, cs, es, rfl, A.gs, ha, hb, ?_⟩
  generalize due [(-1, !(Vbtaai.short cs && Vbtaai.short es)), (-2, st.story.sizes.isEmpty), (-7, decide (16 <= st.story.actions.length)), (-8, !(condsIn st.story.sizes cs && effsIn st.story.sizes es))] = d at *
  simp? []
  split
  ·rename_i h0
   have e2 := e.trans (by rw [if_neg (by simpa using h0)])
   have d1 := dz h0 (-1, !(Vbtaai.short cs && Vbtaai.short es)) (by simp)
   have d2 := dz h0 (-7, decide (16 <= st.story.actions.length)) (by simp)
   have d3 := dz h0 (-8, !(condsIn st.story.sizes cs && effsIn st.story.sizes es)) (by simp)
   simp only [Bool.not_eq_false', Bool.and_eq_true, decide_eq_false_iff_not, Vbtaai.short, decide_eq_true_eq] at d1 d2 d3
   dsimp? only [A.gg, h1]
   refine ⟨sp, a, b, F, st.story, cs, es, rfl, A.gs, ha, hb, d1.1, d1.2, d3.1, d3.2, by omega, fun H' F' fr S' => ?_⟩
   simp? [List.length_cons, List.length_nil]
   refine ⟨by omega, fun q hq => ?_⟩
   exact k.ans fr (A.tell fr S' rfl) hq e2 rfl
  ·rename_i h0
   simp? [List.length_cons, List.length_nil]
   refine ⟨by omega, fun q hq => ?_⟩
   exact k.ans Fr.refl A hq (e.trans (by rw [if_pos h0])) rfl
theorem zx11 : FnScope ["self", "conditions", "effects", "refusal"] ["self", "conditions", "effects"] (defScope (inClass (top 81) 3)) := by simp_all? only
theorem zl16 (T : Txt K mg) : FnOk P w K mg base CX0 6 T.zp5.f T.zp5.fd ["self", "conditions", "effects"] (zj27 T.za.C T.zb.C .turn) := by
 have zo4 := @zp7 P w K mg base T
 have zr18 := @zf16 P w K mg base T
 refine T.zp5.F.ok zx11 (fun _ _ _ _ h => ?_) (fun _ _ _ _ H vs Q E hr h => ?_)
 ·obtain ⟨g, a, b, G, st, cs, es, rfl, _⟩ := h
  rfl
 ·obtain ⟨g, a, b, G, st, cs, es, rfl, ⟨F, sp, pa, dx, rfl, A⟩, ha, hb, nGa, nGb, k⟩ := h
  refine ⟨_, (pss_cons (ps_set (i := 3) zx11.nd rfl (by simp_all?) (zm T.zi4 zo4 (hr.mono (by decide)) (pa_cons (zd T.zb.cl T.zf (pv 0) rfl) (pa_cons (zd T.za.cl T.zt2 (zd T.zb.cl T.zf (pv 0) rfl) rfl) (pa_cons (zg T.zc25) (pa_cons (pv 1) (pa_cons (pv 2) pa_nil)))))))
   (pss_cons (ps_if (pt_cmpR op_ne (pv 3) (zg T.zr) (nomark _)) (pss_one (ps_ret (pe_lst (pa_cons (pv 3) pa_nil)))) pss_nil)
   (pss_one (ps_ret (pe_lst (pa_cons pe_int (pa_cons (zy1 T.za.cl T.zm5 zr18 (hr.mono (by decide)) (zd T.zb.cl T.zf (pv 0) rfl) (pa_cons (pv 1) (pa_cons (pv 2) pa_nil))) pa_nil))))))), ?_⟩
  simp only [st_c, st_n, st_z]
  have hz := szL
  have e : Vbtaai.step st (.turn cs es) = _ := ze1 (s := st) (k := fun _ => ({ st with story := zm9 st.story ⟨condsOf cs, effsOf es⟩ }, [0, (st.story.turns.length : Int)])) (l := [(-1, !(Vbtaai.short cs && Vbtaai.short es)), (-2, st.story.sizes.isEmpty), (-7, decide (8 <= st.story.turns.length)), (-8, !(condsIn st.story.sizes cs && effsIn st.story.sizes es))]) (by simp)
  have dz := zj2 (l := [(-1, !(Vbtaai.short cs && Vbtaai.short es)), (-2, st.story.sizes.isEmpty), (-7, decide (8 <= st.story.turns.length)), (-8, !(condsIn st.story.sizes cs && effsIn st.story.sizes es))]) (by simp)
  have S := A.gs
  obtain ⟨W, dx1, sz, sv, ks, ef, tu, ka, kr, h1, h2, h3, h4, R, dm⟩ := S
  obtain ⟨efs, f1, f2, f3⟩ := R.ef
  dsimp? only [A.gg, h1, f1, List.length_map, f2]
  refine ⟨sp, a, b, F, st.story, st.story.turns.length, 8, cs, es, rfl, A.gs, ha, hb, ?_⟩
  generalize due [(-1, !(Vbtaai.short cs && Vbtaai.short es)), (-2, st.story.sizes.isEmpty), (-7, decide (8 <= st.story.turns.length)), (-8, !(condsIn st.story.sizes cs && effsIn st.story.sizes es))] = d at *
  simp? []
  split
  ·rename_i h0
   have e2 := e.trans (by rw [if_neg (by simpa using h0)])
   have d1 := dz h0 (-1, !(Vbtaai.short cs && Vbtaai.short es)) (by simp)
   have d2 := dz h0 (-7, decide (8 <= st.story.turns.length)) (by simp)
   have d3 := dz h0 (-8, !(condsIn st.story.sizes cs && effsIn st.story.sizes es)) (by simp)
   simp only [Bool.not_eq_false', Bool.and_eq_true, decide_eq_false_iff_not, Vbtaai.short, decide_eq_true_eq] at d1 d2 d3
   dsimp? only [A.gg, h1]
   refine ⟨sp, a, b, F, st.story, cs, es, rfl, A.gs, ha, hb, d1.1, d1.2, d3.1, d3.2, by omega, fun H' F' fr S' => ?_⟩
   simp? [List.length_cons, List.length_nil]
   refine ⟨by omega, fun q hq => ?_⟩
   exact k.ans fr (A.tell fr S' rfl) hq e2 rfl
  ·rename_i h0
   simp? [List.length_cons, List.length_nil]
   refine ⟨by omega, fun q hq => ?_⟩
   exact k.ans Fr.refl A hq (e.trans (by rw [if_pos h0])) rfl
theorem zy11 : FnScope ["self", "conditions", "refusal"] ["self", "conditions"] (defScope (inClass (top 81) 4)) := by simp_all? only
theorem zm16 (T : Txt K mg) : FnOk P w K mg base CX0 6 T.zq5.f T.zq5.fd ["self", "conditions"] (zi27 T.za.C T.zb.C .good) := by
 have zo4 := @zp7 P w K mg base T
 have zs18 := @zg16 P w K mg base T
 refine T.zq5.F.ok zy11 (fun _ _ _ _ h => ?_) (fun _ _ _ _ H vs Q E hr h => ?_)
 ·obtain ⟨g, a, G, st, cs, rfl, _⟩ := h
  rfl
 ·obtain ⟨g, a, G, st, cs, rfl, ⟨F, sp, pa, dx, rfl, A⟩, ha, nG, k⟩ := h
  refine ⟨_, (pss_cons (ps_set (i := 2) zy11.nd rfl (by simp_all?) (zm T.zi4 zo4 (hr.mono (by decide)) (pa_cons (zd T.zb.cl T.zf (pv 0) rfl) (pa_cons (zd T.za.cl T.zu2 (zd T.zb.cl T.zf (pv 0) rfl) rfl) (pa_cons (zg T.zo18) (pa_cons (pv 1) (pa_cons (pe_lst pa_nil) pa_nil)))))))
   (pss_cons (ps_if (pt_cmpR op_ne (pv 2) (zg T.zr) (nomark _)) (pss_one (ps_ret (pe_lst (pa_cons (pv 2) pa_nil)))) pss_nil)
   (pss_one (ps_ret (pe_lst (pa_cons pe_int (pa_cons (zy1 T.za.cl T.zn5 zs18 (hr.mono (by decide)) (zd T.zb.cl T.zf (pv 0) rfl) (pa_cons (pv 1) pa_nil)) pa_nil))))))), ?_⟩
  simp only [st_c, st_n, st_z]
  have hz := szL
  have e : Vbtaai.step st (.good cs) = _ := ze1 (s := st) (k := fun _ => ({ st with story := za8 st.story (condsOf cs) }, [0, (st.story.goods.length : Int)])) (l := [(-1, !Vbtaai.short cs), (-2, st.story.sizes.isEmpty), (-7, decide (4 <= st.story.goods.length)), (-8, !condsIn st.story.sizes cs)]) (by simp)
  have dz := zj2 (l := [(-1, !Vbtaai.short cs), (-2, st.story.sizes.isEmpty), (-7, decide (4 <= st.story.goods.length)), (-8, !condsIn st.story.sizes cs)]) (by simp)
  have S := A.gs
  obtain ⟨W, dx1, sz, sv, ks, ef, tu, ka, kr, h1, h2, h3, h4, R, dm⟩ := S
  dsimp? only [A.gg, h1]
  intro l0 hl0
  have sm0 : Same H (upd H l0 (.lst [])) := Same.rfl'.new hl0
  have A0 := A.same sm0
  have ha0 := sm0 a _ ha
  refine ⟨sp, a, l0, F, st.story, st.story.goods.length, 4, cs, [], rfl, A0.gs, ha0, upd_same, ?_⟩
  have eL : due [(-1, !(Vbtaai.short cs && Vbtaai.short [])), (-2, st.story.sizes.isEmpty), (-7, decide (4 <= st.story.goods.length)), (-8, !(condsIn st.story.sizes cs && effsIn st.story.sizes []))] = due [(-1, !Vbtaai.short cs), (-2, st.story.sizes.isEmpty), (-7, decide (4 <= st.story.goods.length)), (-8, !condsIn st.story.sizes cs)] := by
   rw [show Vbtaai.short [] = true from rfl, show effsIn st.story.sizes [] = true from rfl, Bool.and_true, Bool.and_true]
  rw [eL]
  generalize due [(-1, !Vbtaai.short cs), (-2, st.story.sizes.isEmpty), (-7, decide (4 <= st.story.goods.length)), (-8, !condsIn st.story.sizes cs)] = d at *
  simp? []
  split
  ·rename_i h0
   have e2 := e.trans (by rw [if_neg (by simpa using h0)])
   have d1 := dz h0 (-1, !Vbtaai.short cs) (by simp)
   have d2 := dz h0 (-7, decide (4 <= st.story.goods.length)) (by simp)
   have d3 := dz h0 (-8, !condsIn st.story.sizes cs) (by simp)
   simp only [Bool.not_eq_false', decide_eq_false_iff_not, Vbtaai.short, decide_eq_true_eq] at d1 d2 d3
   have S := A0.gs
   obtain ⟨_, dx2, _, _, _, _, _, _, _, h5, _⟩ := S
   dsimp? only [A0.gg, h5]
   refine ⟨sp, a, F, st.story, cs, rfl, A0.gs, ha0, d1, d3, (show st.story.goods.length < 4 by omega), fun H' F' fr S' => ?_⟩
   simp? [List.length_cons, List.length_nil]
   refine ⟨by omega, fun q hq => ?_⟩
   exact k.ans ((Fr.same sm0).trans fr) (A0.tell fr S' rfl) hq e2 rfl
  ·rename_i h0
   simp? [List.length_cons, List.length_nil]
   refine ⟨by omega, fun q hq => ?_⟩
   exact k.ans (Fr.same sm0) A0 hq (e.trans (by rw [if_pos h0])) rfl
theorem zr12 : FnScope ["self", "conditions", "refusal"] ["self", "conditions"] (defScope (inClass (top 81) 5)) := by simp_all? only
theorem zb18 (T : Txt K mg) : FnOk P w K mg base CX0 6 T.zb6.f T.zb6.fd ["self", "conditions"] (zi27 T.za.C T.zb.C .bad) := by
 have zo4 := @zp7 P w K mg base T
 have zq20 := @zs17 P w K mg base T
 refine T.zb6.F.ok zr12 (fun _ _ _ _ h => ?_) (fun _ _ _ _ H vs Q E hr h => ?_)
 ·obtain ⟨g, a, G, st, cs, rfl, _⟩ := h
  rfl
 ·obtain ⟨g, a, G, st, cs, rfl, ⟨F, sp, pa, dx, rfl, A⟩, ha, nG, k⟩ := h
  refine ⟨_, (pss_cons (ps_set (i := 2) zr12.nd rfl (by simp_all?) (zm T.zi4 zo4 (hr.mono (by decide)) (pa_cons (zd T.zb.cl T.zf (pv 0) rfl) (pa_cons (zd T.za.cl T.zc3 (zd T.zb.cl T.zf (pv 0) rfl) rfl) (pa_cons (zg T.zk20) (pa_cons (pv 1) (pa_cons (pe_lst pa_nil) pa_nil)))))))
   (pss_cons (ps_if (pt_cmpR op_ne (pv 2) (zg T.zr) (nomark _)) (pss_one (ps_ret (pe_lst (pa_cons (pv 2) pa_nil)))) pss_nil)
   (pss_one (ps_ret (pe_lst (pa_cons pe_int (pa_cons (zy1 T.za.cl T.zz5 zq20 (hr.mono (by decide)) (zd T.zb.cl T.zf (pv 0) rfl) (pa_cons (pv 1) pa_nil)) pa_nil))))))), ?_⟩
  simp only [st_c, st_n, st_z]
  have hz := szL
  have e : Vbtaai.step st (.bad cs) = _ := ze1 (s := st) (k := fun _ => ({ st with story := zs9 st.story (condsOf cs) }, [0, (st.story.bads.length : Int)])) (l := [(-1, !Vbtaai.short cs), (-2, st.story.sizes.isEmpty), (-7, decide (4 <= st.story.bads.length)), (-8, !condsIn st.story.sizes cs)]) (by simp)
  have dz := zj2 (l := [(-1, !Vbtaai.short cs), (-2, st.story.sizes.isEmpty), (-7, decide (4 <= st.story.bads.length)), (-8, !condsIn st.story.sizes cs)]) (by simp)
  have S := A.gs
  obtain ⟨W, dx1, sz, sv, ks, ef, tu, ka, kr, h1, h2, h3, h4, R, dm⟩ := S
  dsimp? only [A.gg, h1]
  intro l0 hl0
  have sm0 : Same H (upd H l0 (.lst [])) := Same.rfl'.new hl0
  have A0 := A.same sm0
  have ha0 := sm0 a _ ha
  refine ⟨sp, a, l0, F, st.story, st.story.bads.length, 4, cs, [], rfl, A0.gs, ha0, upd_same, ?_⟩
  have eL : due [(-1, !(Vbtaai.short cs && Vbtaai.short [])), (-2, st.story.sizes.isEmpty), (-7, decide (4 <= st.story.bads.length)), (-8, !(condsIn st.story.sizes cs && effsIn st.story.sizes []))] = due [(-1, !Vbtaai.short cs), (-2, st.story.sizes.isEmpty), (-7, decide (4 <= st.story.bads.length)), (-8, !condsIn st.story.sizes cs)] := by
   rw [show Vbtaai.short [] = true from rfl, show effsIn st.story.sizes [] = true from rfl, Bool.and_true, Bool.and_true]
  rw [eL]
  generalize due [(-1, !Vbtaai.short cs), (-2, st.story.sizes.isEmpty), (-7, decide (4 <= st.story.bads.length)), (-8, !condsIn st.story.sizes cs)] = d at *
  simp? []
  split
  ·rename_i h0
   have e2 := e.trans (by rw [if_neg (by simpa using h0)])
   have d1 := dz h0 (-1, !Vbtaai.short cs) (by simp)
   have d2 := dz h0 (-7, decide (4 <= st.story.bads.length)) (by simp)
   have d3 := dz h0 (-8, !condsIn st.story.sizes cs) (by simp)
   simp only [Bool.not_eq_false', decide_eq_false_iff_not, Vbtaai.short, decide_eq_true_eq] at d1 d2 d3
   have S := A0.gs
   obtain ⟨_, dx2, _, _, _, _, _, _, _, h5, _⟩ := S
   dsimp? only [A0.gg, h5]
   refine ⟨sp, a, F, st.story, cs, rfl, A0.gs, ha0, d1, d3, (show st.story.bads.length < 4 by omega), fun H' F' fr S' => ?_⟩
   simp? [List.length_cons, List.length_nil]
   refine ⟨by omega, fun q hq => ?_⟩
   exact k.ans ((Fr.same sm0).trans fr) (A0.tell fr S' rfl) hq e2 rfl
  ·rename_i h0
   simp? [List.length_cons, List.length_nil]
   refine ⟨by omega, fun q hq => ?_⟩
   exact k.ans (Fr.same sm0) A0 hq (e.trans (by rw [if_pos h0])) rfl
theorem zd13 : FnScope ["self", "refusal"] ["self"] (defScope (inClass (top 81) 7)) := by simp_all? only
theorem zb20 (T : Txt K mg) : FnOk P w K mg base CX0 3 T.zr6.f T.zr6.fd ["self"] (zb12 T.za.C T.zb.C .restart) := by
 have zx1 := @zd4 P w K mg base T
 have zr1 := @zs3 P w K mg base T
 refine T.zr6.F.ok zd13 (fun _ _ _ _ h => ?_) (fun _ _ _ _ H vs Q E hr h => ?_)
 ·obtain ⟨g, G, st, rfl, _⟩ := h
  rfl
 ·obtain ⟨g, G, st, rfl, ⟨F, sp, pa, dx, rfl, A⟩, k⟩ := h
  refine ⟨_, (pss_cons (ps_set (i := 1) zd13.nd rfl (by simp_all?) (zm T.zb3 zx1 (hr.mono (by decide)) (pa_cons (zd T.zb.cl T.zf (pv 0) rfl) pa_nil)))
   (pss_cons (ps_if (pt_cmpR op_ne (pv 1) (zg T.zr) (nomark _)) (pss_one (ps_ret (pe_lst (pa_cons (pv 1) pa_nil)))) pss_nil)
   (pss_cons (zg2 T.zb.cl T.zt (pv 0) (zd T.za.cl T.zw4 (zd T.zb.cl T.zf (pv 0) rfl) rfl) rfl)
   (pss_cons (zg2 T.zb.cl T.zu3 (pv 0) (pe_lst pa_nil) rfl)
   (pss_one (ps_ret (zy1 T.zb.cl T.zq1 zr1 (hr.mono (by decide)) (pv 0) (pa_cons (zd T.zb.cl T.zt (pv 0) rfl) pa_nil)))))))), ?_⟩
  simp only [st_c, st_n, st_z]
  have hz := szL
  have e : Vbtaai.step st (.restart) = _ := ze1 (s := st) (k := fun _ => ({ st with now := st.story.first, past := [] }, 0 :: Vbtaai.look st.story st.story.first)) (l := [(-2, st.story.sizes.isEmpty)]) (by simp)
  have dz := zj2 (l := [(-2, st.story.sizes.isEmpty)]) (by simp)
  dsimp? [A.gg]
  refine ⟨sp, F, st.story, rfl, A.gs, ?_⟩
  generalize due [(-2, st.story.sizes.isEmpty)] = d at *
  simp? []
  split
  ·rename_i h0
   have e2 := e.trans (by rw [if_neg (by simpa using h0)])
   have S := A.gs
   obtain ⟨W, dx1, _, _, _, _, _, _, _, h1, _⟩ := S
   have gsp := A.gsp
   dsimp? only [A.gg, h1]
   intro pa' hpa
   have gpa : g ≠ pa' := fun z => by rw [<- z, upd_same] at hpa; cases hpa
   have hpa0 : H pa' = none := by rw [upd_ne gpa.symm] at hpa; exact hpa
   dsimp? only [upd_ne gpa, upd_same]
   generalize hH1 : upd (upd (upd H g _) pa' _) g _ = H1
   have keep : ∀ q o, H q = some o -> q ≠ g -> H1 q = some o := fun q o h hq => by
    rw [<- hH1, upd_ne hq, upd_ne (ne_of_none h hpa0), upd_ne hq]; exact h
   have A1 : zv2 T.za.C T.zb.C F H1 g sp pa' dx { st with now := st.story.first, past := [] } := by
    refine ⟨⟨W.fst, by simp, by simp⟩, by rw [<- hH1]; exact upd_same, by rw [<- hH1, upd_ne gpa.symm, upd_same]; rfl, A.gs.frame fun q o hq h => keep q o h fun z => A.ng (z ▸ hq), A.ng, fun z => ?_⟩
    obtain ⟨o, ho⟩ := A.gs.dom pa' z
    rw [hpa0] at ho
    cases ho
   have fr : Fr (gf F g pa) H (gf F g pa') H1 := ⟨fun q o h hG => keep q o h fun z => hG (.inr (.inl z)), fun q hq => by
    rcases hq with z | z | z
    ·exact .inl (.inl z)
    ·exact .inl (.inr (.inl z))
    ·rw [z]; exact .inr hpa0⟩
   have gg1 := A1.gg
   dsimp only at gg1
   dsimp? only [gg1]
   refine ⟨g, sp, pa', dx, F, _, _, rfl, A1, zu6 W.fst, fun H' q sm hn hq => ?_⟩
   dsimp only at hq
   rw [zg3 W.fst] at hq
   exact k.atG fr A1 sm hn e2 hq
  ·rename_i h0
   simp? [List.length_cons, List.length_nil]
   refine ⟨by omega, fun q hq => ?_⟩
   exact k.ans Fr.refl A hq (e.trans (by rw [if_pos h0])) rfl
theorem zm15 : FnScope ["self", "refusal"] ["self"] (defScope (inClass (top 81) 8)) := by simp_all? only
theorem zw24 (T : Txt K mg) : FnOk P w K mg base CX0 3 T.za9.f T.za9.fd ["self"] (zb12 T.za.C T.zb.C .undo) := by
 have zw21 := @zu19 P w K mg base T
 have zr1 := @zs3 P w K mg base T
 refine T.za9.F.ok zm15 (fun _ _ _ _ h => ?_) (fun _ _ _ _ H vs Q E hr h => ?_)
 ·obtain ⟨g, G, st, rfl, _⟩ := h
  rfl
 ·obtain ⟨g, G, st, rfl, ⟨F, sp, pa, dx, rfl, A⟩, k⟩ := h
  refine ⟨_, (pss_cons (ps_set (i := 1) zm15.nd rfl (by simp_all?) (zm T.zk8 zw21 (hr.mono (by decide)) (pa_cons (zd T.zb.cl T.zf (pv 0) rfl) (pa_cons (zd T.zb.cl T.zu3 (pv 0) rfl) pa_nil))))
   (pss_cons (ps_if (pt_cmpR op_ne (pv 1) (zg T.zr) (nomark _)) (pss_one (ps_ret (pe_lst (pa_cons (pv 1) pa_nil)))) pss_nil)
   (pss_cons (zg2 T.zb.cl T.zt (pv 0) (zm30 (zd T.zb.cl T.zu3 (pv 0) rfl)) rfl)
   (pss_one (ps_ret (zy1 T.zb.cl T.zq1 zr1 (hr.mono (by decide)) (pv 0) (pa_cons (zd T.zb.cl T.zt (pv 0) rfl) pa_nil))))))), ?_⟩
  simp only [st_c, st_n, st_z]
  have hz := szL
  have e : Vbtaai.step st (.undo) = _ := ze1 (s := st) (k := fun _ => match st.past with
   | l :: r => ({ st with now := l, past := r }, 0 :: Vbtaai.look st.story l)
   | [] => (st, [-9])) (l := [(-2, st.story.sizes.isEmpty), (-9, st.past.isEmpty)]) (by simp)
  have dz := zj2 (l := [(-2, st.story.sizes.isEmpty), (-9, st.past.isEmpty)]) (by simp)
  dsimp? [A.gg]
  have eE : (st.past.reverse.map (encode st.story.sizes)).isEmpty = st.past.isEmpty := by cases st.past <;> simp
  refine ⟨sp, pa, F, st.story, _, rfl, A.gs, A.gp, ?_⟩
  rw [eE]
  generalize due [(-2, st.story.sizes.isEmpty), (-9, st.past.isEmpty)] = d at *
  simp? []
  split
  ·rename_i h0
   have e2 := e.trans (by rw [if_neg (by simpa using h0)])
   have d1 := dz h0 (-9, st.past.isEmpty) (by simp)
   obtain ⟨l, r, hp⟩ : ∃ l r, st.past = l :: r := by
    cases hh : st.past with
    | nil => rw [hh] at d1; cases d1
    | cons l r => exact ⟨l, r, rfl⟩
   rw [hp] at e2
   dsimp only at e2
   have gp := A.gp
   have fl : Fits st.story.sizes l := A.wf.past l (by rw [hp]; simp)
   have er : st.past.reverse.map (encode st.story.sizes) = r.reverse.map (encode st.story.sizes) ++ [encode st.story.sizes l] := by rw [hp]; simp
   rw [er] at gp
   have gpa := A.gpa
   have last : (vN (r.reverse.map (encode st.story.sizes) ++ [encode st.story.sizes l]))[(r.reverse.map (encode st.story.sizes) ++ [encode st.story.sizes l]).length - 1]? = some (V.int (encode st.story.sizes l : Nat)) := by
    rw [List.getElem?_map]
    simp
    rfl
   have dl : (vN (r.reverse.map (encode st.story.sizes) ++ [encode st.story.sizes l])).dropLast = vN (r.reverse.map (encode st.story.sizes)) := by
    rw [vN, List.map_append]
    exact List.dropLast_concat
   dsimp? [A.gg, gp, List.length_map, last, dl, upd_ne gpa]
   generalize hH1 : upd (upd H pa _) g _ = H1
   have keep : ∀ q o, H q = some o -> q ≠ g -> q ≠ pa -> H1 q = some o := fun q o h hq hq2 => by
    rw [<- hH1, upd_ne hq, upd_ne hq2]; exact h
   have A1 : zv2 T.za.C T.zb.C F H1 g sp pa dx { st with now := l, past := r } := by
    refine ⟨⟨fl, fun x hx => A.wf.past x (by rw [hp]; simp [hx]), by have := A.wf.few; rw [hp] at this; simp at this; show r.length <= 200; omega⟩, by rw [<- hH1]; exact upd_same, by rw [<- hH1, upd_ne gpa.symm, upd_same], A.gs.frame fun q o hq h => keep q o h (fun z => A.ng (z ▸ hq)) fun z => A.np (z ▸ hq), A.ng, A.np⟩
   have fr : Fr (gf F g pa) H (gf F g pa) H1 := ⟨fun q o h hG => keep q o h (fun z => hG (.inr (.inl z))) fun z => hG (.inr (.inr z)), Grow.refl⟩
   have gg1 := A1.gg
   dsimp only at gg1
   dsimp? [gg1]
   refine ⟨g, sp, pa, dx, F, _, _, rfl, A1, zu6 fl, fun H' q sm hn hq => ?_⟩
   dsimp only at hq
   rw [zg3 fl] at hq
   exact k.atG fr A1 sm hn e2 hq
  ·rename_i h0
   simp? [List.length_cons, List.length_nil]
   refine ⟨by omega, fun q hq => ?_⟩
   exact k.ans Fr.refl A hq (e.trans (by rw [if_pos h0])) rfl
end
section
variable {P : Program} {w : World} {K : W.Frag} {mg : Str -> Option Value} {base : Heap}
open Vbtaai (places decode encode count told)
noncomputable def tPop0 (to : TE) : TE := fun σ H Q => to σ H fun x H1 => ∃ l y r, x = .ref l /\ H1 l = some (.lst (y :: r)) /\ Q y (upd H1 l (.lst r))
theorem seq0 (n : Nat) : seqIndex? 0 (n + 1) = some 0 := by
 unfold seqIndex?
 have h : (0 : Int) < ((n + 1 : Nat) : Int) := by omega
 simp [h]
theorem zb30 {X : Cx} {o : Expr} {to : TE} {apos cpos pos : Pos} {j} (ho : PE X o to) (hbase : attributeBase o "pop" X.env (eval o X.env) = eval o X.env := by rfl)
  (hfew : ((backTo cpos (starEach [Expr.Constant (.int 0) j pos] X.env)).all (fun x => !x.1) && (backToKw cpos (keywordEach [] X.env)).all (fun x => x.1.isSome)
   && decide ([Expr.Constant (.int 0) j pos].length + ([] : List Keyword).length + (if ([] : List Keyword).isEmpty then 0 else 1) < 30)) = true := by rfl)
  (hline : (apos.endLine == cpos.line) = true := by rfl) (hs : starEach [Expr.Constant (.int 0) j pos] X.env = (false, eval (Expr.Constant (.int 0) j pos) X.env) :: starEach [] X.env := by rfl) (hplain : (backTo cpos (starEach [] X.env)).any (·.1) = false := by rfl) :
  PE X (.Call (.Attribute o "pop" apos) [Expr.Constant (.int 0) j pos] [] cpos) (tPop0 to) := by
 refine zq13 (pe_bm PySem.F.plainAttrs_list PySem.F.slot_list_pop PySem.F.type_list_pop mt_popAt (zl6 ho) (pa_cons pe_int pa_nil hs) hbase hfew hline hs hplain) fun σ H Q q => ?_
 refine ⟨_, q, fun x H1 ⟨l, y, r, ex, hx, q1⟩ => ?_⟩
 subst ex
 refine ⟨tyL hx, ?_⟩
 exact ⟨l, y :: r, 0, 0, y, rfl, rfl, hx, by decide, by decide, seq0 _, rfl, q1⟩
theorem zp22 {st : Vbtaai.State} (hw : Fits st.story.sizes st.now) (b : Nat) : lead st.story (encode st.story.sizes st.now) b = (match st.story.actions[b]? with | some r => (match Vbtaai.does st.story st.now r with | some l => some (encode st.story.sizes l) | none => none) | none => none) := by
 unfold lead Vbtaai.leads
 rw [List.getD_eq_getElem?_getD, List.getElem?_map, zg3 hw]
 cases st.story.actions[b]? with
 | none => rfl
 | some r => cases h : Vbtaai.does st.story st.now r <;> rfl
theorem zm28 (enc : List Nat -> Nat) (now : List Nat) (past : List (List Nat)) (h : past.length <= 200) : ((now :: past).take 200).reverse.map enc = if past.length + 1 <= 200 then past.reverse.map enc ++ [enc now] else (past.reverse.map enc ++ [enc now]).eraseIdx 0 := by
 split
 ·rw [List.take_of_length_le (by simpa using ‹past.length + 1 <= 200›)]
  simp
 ·have hl : past.length = 200 := by omega
  rw [List.reverse_take, List.length_cons, hl]
  have : (now :: past).reverse = past.reverse ++ [now] := by simp
  rw [this]
  cases hr : past.reverse with
  | nil => rw [List.reverse_eq_nil_iff] at hr; rw [hr] at hl; cases hl
  | cons x r => simp
theorem zi17 : FnScope ["self", "a", "refusal"] ["self", "a"] (defScope (inClass (top 81) 6)) := by simp_all? only
theorem zu25 (T : Txt K mg) : FnOk P w K mg base CX0 3 T.zl10.f T.zl10.fd ["self", "a"] (zq23 T.za.C T.zb.C .act) := by
 have zo9 := @zv11 P w K mg base T
 have zx2 := @zx4 P w K mg base T
 have zr1 := @zs3 P w K mg base T
 refine T.zl10.F.ok zi17 (fun _ _ _ _ h => ?_) (fun _ _ _ _ H vs Q E hr h => ?_)
 ·obtain ⟨g, G, st, a, rfl, _⟩ := h
  rfl
 ·obtain ⟨g, G, st, a, rfl, ⟨F, sp, pa, dx, rfl, A⟩, k⟩ := h
  refine ⟨_, (pss_cons (ps_set (i := 2) zi17.nd rfl (by simp_all?) (zm T.zl5 zo9 (hr.mono (by decide)) (pa_cons (zd T.zb.cl T.zf (pv 0) rfl) (pa_cons (zd T.zb.cl T.zt (pv 0) rfl) (pa_cons (pv 1) pa_nil)))))
   (pss_cons (ps_if (pt_cmpR op_ne (pv 2) (zg T.zr) (nomark _)) (pss_one (ps_ret (pe_lst (pa_cons (pv 2) pa_nil)))) pss_nil)
   (pss_cons (ps_expr (zg12 (zd T.zb.cl T.zu3 (pv 0) rfl) (zd T.zb.cl T.zt (pv 0) rfl)))
   (pss_cons (ps_if (pt_cmpR op_gt (pln T.len (zd T.zb.cl T.zu3 (pv 0) rfl)) (zg T.ze23) (nomark _)) (pss_one (ps_expr (zb30 (zd T.zb.cl T.zu3 (pv 0) rfl)))) pss_nil)
   (pss_cons (zg2 T.zb.cl T.zt (pv 0) (zy1 T.za.cl T.zw2 zx2 (hr.mono (by decide)) (zd T.zb.cl T.zf (pv 0) rfl) (pa_cons (zd T.zb.cl T.zt (pv 0) rfl) (pa_cons (pv 1) pa_nil))) rfl)
   (pss_one (ps_ret (zy1 T.zb.cl T.zq1 zr1 (hr.mono (by decide)) (pv 0) (pa_cons (zd T.zb.cl T.zt (pv 0) rfl) pa_nil))))))))), ?_⟩
  simp only [st_c, st_n, st_z]
  have hz := szL
  have e : Vbtaai.step st (.act a) = _ := ze1 (s := st) (k := fun _ => match st.story.actions[a.toNat]? with
   | some r => (match Vbtaai.does st.story st.now r with
    | some l => ({ st with now := l, past := (st.now :: st.past).take Vbtaai.PAST }, 0 :: Vbtaai.look st.story l)
    | none => (st, [-6]))
   | none => (st, [-3])) (l := [(-1, !inr a 0 15), (-2, st.story.sizes.isEmpty), (-3, decide ((st.story.actions.length : Int) <= a)), (-5, Vbtaai.ending st.story st.now != 0)]) (by simp)
  have dz := zj2 (l := [(-1, !inr a 0 15), (-2, st.story.sizes.isEmpty), (-3, decide ((st.story.actions.length : Int) <= a)), (-5, Vbtaai.ending st.story st.now != 0)]) (by simp)
  have hk : zh st.story (encode st.story.sizes st.now) = Vbtaai.ending st.story st.now := by unfold zh; rw [zg3 A.wf.now]
  have e5 : due [(-1, !inr a 0 15), (-2, st.story.sizes.isEmpty), (-3, decide ((st.story.actions.length : Int) <= a)), (-5, zh st.story (encode st.story.sizes st.now) != 0), (-6, (lead st.story (encode st.story.sizes st.now) a.toNat).isNone)] = if due [(-1, !inr a 0 15), (-2, st.story.sizes.isEmpty), (-3, decide ((st.story.actions.length : Int) <= a)), (-5, Vbtaai.ending st.story st.now != 0)] ≠ 0 then due [(-1, !inr a 0 15), (-2, st.story.sizes.isEmpty), (-3, decide ((st.story.actions.length : Int) <= a)), (-5, Vbtaai.ending st.story st.now != 0)] else if (lead st.story (encode st.story.sizes st.now) a.toNat).isNone = true then -6 else 0 := by
   rw [hk]
   exact zi21 (l := [(-1, !inr a 0 15), (-2, st.story.sizes.isEmpty), (-3, decide ((st.story.actions.length : Int) <= a)), (-5, Vbtaai.ending st.story st.now != 0)]) (m := [(-6, (lead st.story (encode st.story.sizes st.now) a.toNat).isNone)]) (by simp)
  dsimp? [A.gg]
  refine ⟨sp, F, st.story, _, a, rfl, A.gs, A.here, ?_⟩
  rw [e5]
  generalize due [(-1, !inr a 0 15), (-2, st.story.sizes.isEmpty), (-3, decide ((st.story.actions.length : Int) <= a)), (-5, Vbtaai.ending st.story st.now != 0)] = d at *
  clear e5
  cases hlead : lead st.story (encode st.story.sizes st.now) a.toNat with
  | none =>
   simp only [Option.isNone_none, if_true]
   have hne : (if d ≠ 0 then d else -6) ≠ 0 := by split <;> omega
   have key : Vbtaai.step st (.act a) = (st, [if d ≠ 0 then d else -6]) := by
    rw [e]
    by_cases hd : d ≠ 0
    ·rw [if_pos hd, if_pos hd]
    ·rw [if_neg hd, if_neg hd]
     have d0 : d = 0 := by simpa using hd
     have d1 := dz d0 (-1, !inr a 0 15) (by simp)
     have d3 := dz d0 (-3, decide ((st.story.actions.length : Int) <= a)) (by simp)
     simp only [Bool.not_eq_false', zd2, decide_eq_false_iff_not] at d1 d3
     rw [zp22 A.wf.now] at hlead
     have hget : st.story.actions[a.toNat]? = some st.story.actions[a.toNat] := List.getElem?_eq_getElem (by omega)
     rw [hget] at hlead ⊢
     dsimp only at hlead ⊢
     cases hdo : Vbtaai.does st.story st.now st.story.actions[a.toNat] with
     | none => rfl
     | some l => rw [hdo] at hlead; cases hlead
   generalize (if d ≠ 0 then d else -6) = z at *
   simp? [hne, List.length_cons, List.length_nil]
   refine ⟨by omega, fun q hq => ?_⟩
   exact k.ans Fr.refl A hq key rfl
  | some m =>
   simp only [Option.isNone_some, Bool.false_eq_true, if_false]
   by_cases hd : d ≠ 0
   ·rw [if_pos hd] at e ⊢
    simp? [hd, List.length_cons, List.length_nil]
    refine ⟨by omega, fun q hq => ?_⟩
    exact k.ans Fr.refl A hq e rfl
   ·rw [if_neg hd] at e ⊢
    have d1 := dz (by simpa using hd) (-1, !inr a 0 15) (by simp)
    simp only [Bool.not_eq_false', zd2] at d1
    clear dz
    obtain ⟨b, rfl⟩ : ∃ b : Nat, a = (b : Int) := ⟨a.toNat, by omega⟩
    rw [Int.toNat_natCast] at hlead
    have hlead0 := hlead
    rw [zp22 A.wf.now] at hlead
    rw [Int.toNat_natCast] at e
    cases hget : st.story.actions[b]? with
    | none => rw [hget] at hlead; cases hlead
    | some r =>
     rw [hget] at hlead e
     dsimp only at hlead e
     cases hdo : Vbtaai.does st.story st.now r with
     | none => rw [hdo] at hlead; cases hlead
     | some l =>
      rw [hdo] at hlead e
      dsimp only at hlead e
      cases hlead
      have W := A.gs.wf
      have fl : Fits st.story.sizes l := zz21 W.pos A.wf.now hdo
      have few := A.wf.few
      have gpa := A.gpa
      have spp := A.psp
      have gsp := A.gsp
      have pt := zm28 (encode st.story.sizes) st.now st.past few
      dsimp? [A.gg, A.gp, List.length_map, List.length_reverse]
      refine ⟨by omega, ?_⟩
      have main : ∀ Lp : List Nat, Lp = ((st.now :: st.past).take 200).reverse.map (encode st.story.sizes) -> ∀ H1 : Hp, H1 = upd H pa (.lst (vN Lp)) ->
        H1 g = some (.ins T.zb.C dx (gmF sp (encode st.story.sizes st.now) pa)) /\ zj T.za.C F H1 sp st.story /\ Fr (gf F g pa) H (gf F g pa) (upd H1 g (.ins T.zb.C dx (gmF sp (encode st.story.sizes l) pa))) /\
        zv2 T.za.C T.zb.C F (upd H1 g (.ins T.zb.C dx (gmF sp (encode st.story.sizes l) pa))) g sp pa dx { st with now := l, past := (st.now :: st.past).take 200 } := by
       intro Lp hLp H1 hH1
       subst hH1
       have keep : ∀ q o, H q = some o -> q ≠ g -> q ≠ pa -> upd (upd H pa (.lst (vN Lp))) g (.ins T.zb.C dx (gmF sp (encode st.story.sizes l) pa)) q = some o := fun q o h hq hq2 => by
        rw [upd_ne hq, upd_ne hq2]; exact h
       refine ⟨by rw [upd_ne gpa]; exact A.gg, A.gs.frame fun q o hq h => by rw [upd_ne (show q ≠ pa from fun z => A.np (z ▸ hq))]; exact h, ⟨fun q o h hG => keep q o h (fun z => hG (.inr (.inl z))) fun z => hG (.inr (.inr z)), Grow.refl⟩, ?_⟩
       refine ⟨⟨fl, fun x hx => ?_, by show ((st.now :: st.past).take 200).length <= 200; rw [List.length_take]; omega⟩, upd_same, by rw [upd_ne gpa.symm, upd_same, hLp], A.gs.frame fun q o hq h => keep q o h (fun z => A.ng (z ▸ hq)) fun z => A.np (z ▸ hq), A.ng, A.np⟩
       rcases List.mem_cons.mp (List.mem_of_mem_take hx) with z | z
       ·rw [z]; exact A.wf.now
       ·exact A.wf.past x z
      have fin : ∀ H1 : Hp, H1 = upd H pa (.lst (vN (((st.now :: st.past).take 200).reverse.map (encode st.story.sizes)))) -> ∀ (A1 : zv2 T.za.C T.zb.C F (upd H1 g (.ins T.zb.C dx (gmF sp (encode st.story.sizes l) pa))) g sp pa dx { st with now := l, past := (st.now :: st.past).take 200 }),
        zw11 T.za.C T.zb.C [V.ref g, V.int (encode st.story.sizes l : Nat)] (upd H1 g (.ins T.zb.C dx (gmF sp (encode st.story.sizes l) pa))) Q E0 := by
       intro H1 hH1 A1
       refine ⟨g, sp, pa, dx, F, _, _, rfl, A1, zu6 fl, fun H' q sm hn hq => ?_⟩
       dsimp only at hq
       rw [zg3 fl] at hq
       obtain ⟨_, _, fr, _⟩ := main _ rfl H1 hH1
       exact k.atG fr A1 sm hn e hq
      have S := A.gs
      obtain ⟨_, dx1, _, _, _, _, _, _, _, h1, _⟩ := S
      by_cases h200 : st.past.length + 1 <= 200
      ·rw [if_pos h200] at pt
       obtain ⟨g1, S1, fr, A1⟩ := main _ pt.symm _ rfl
       have es : vN (st.past.reverse.map (encode st.story.sizes)) ++ [V.int (encode st.story.sizes st.now : Nat)] = vN (st.past.reverse.map (encode st.story.sizes) ++ [encode st.story.sizes st.now]) := by rw [zn3 _ (by omega), Int.toNat_natCast]
       rw [es]
       have c200 : ¬ ((200 : Int) < ((st.past.length + 1 : Nat) : Int)) := by omega
       dsimp? [upd_ne gpa, A.gg, upd_same, List.length_map, List.length_append, List.length_cons, List.length_nil, List.length_reverse, Nat.zero_add, c200]
       rw [upd_ne spp.symm, h1]
       simp? only []
       refine ⟨sp, F, st.story, _, b, _, rfl, S1, A.here, hlead0, ?_⟩
       dsimp? [g1, upd_same]
       rw [pt] at fin
       exact fin _ rfl A1
      ·rw [if_neg h200] at pt
       obtain ⟨g1, S1, fr, A1⟩ := main _ pt.symm _ rfl
       have es : vN (st.past.reverse.map (encode st.story.sizes)) ++ [V.int (encode st.story.sizes st.now : Nat)] = vN (st.past.reverse.map (encode st.story.sizes) ++ [encode st.story.sizes st.now]) := by rw [zn3 _ (by omega), Int.toNat_natCast]
       rw [es]
       have c200 : (200 : Int) < ((st.past.length + 1 : Nat) : Int) := by omega
       have ee : (vN (st.past.reverse.map (encode st.story.sizes) ++ [encode st.story.sizes st.now])).eraseIdx 0 = vN ((st.past.reverse.map (encode st.story.sizes) ++ [encode st.story.sizes st.now]).eraseIdx 0) := by
        simp only [List.eraseIdx_zero]
        exact List.map_tail.symm
       dsimp? [upd_ne gpa, A.gg, upd_same, List.length_map, List.length_append, List.length_cons, List.length_nil, List.length_reverse, Nat.zero_add, c200]
       have hne : ∃ y r, vN (st.past.reverse.map (encode st.story.sizes) ++ [encode st.story.sizes st.now]) = y :: r /\ r = vN ((st.past.reverse.map (encode st.story.sizes) ++ [encode st.story.sizes st.now]).eraseIdx 0) := by
        rw [<- ee]
        cases hh : vN (st.past.reverse.map (encode st.story.sizes) ++ [encode st.story.sizes st.now]) with
        | nil => have := congrArg List.length hh; simp at this
        | cons y r => exact ⟨y, r, rfl, rfl⟩
       obtain ⟨y, r', hy, hr'⟩ := hne
       dsimp? [tPop0, upd_ne gpa, A.gg]
       refine ⟨y, r', by first | rw [upd_same, hy] | rw [hy], ?_⟩
       ·rw [upd_upd, hr']
        dsimp? [upd_ne gpa, A.gg]
        rw [upd_ne spp.symm, h1]
        simp? only []
        refine ⟨sp, F, st.story, _, b, _, rfl, S1, A.here, hlead0, ?_⟩
        dsimp? [g1, upd_same]
        rw [pt] at fin
        exact fin _ rfl A1
end
section
variable {P : Program} {w : World} {K : W.Frag} {mg : Str -> Option Value} {base : Heap}
open Vbtaai (places decode encode count told)
section
variable {X : Cx} {q : Str} {st : Stmt} {ps : List Str} {k : Nat} {sp : Sp} {e : Expr} {es : List Expr} {t : TA} {p pos : Pos} {cn : Str} {C : Addr}
theorem zx24 (hm : X.mg cn = some (.ref C)) (h1 : W.makesIn X.K C = true) (h2 : W.keepIn X.K (.ref C) = true) (M : MM X.K C "__init__" q st ps) (G : FnOk X.prog X.w X.K X.mg X.base CX0 k M.f M.fd ps sp) (hr : Room (k + 1) X.A) (ha : PA X (e :: es) t) (hg : Gl X cn := by rfl) (hdb : (cn == ("__debug__" : Str)) = false := by decide)
  (he : starEach (e :: es) X.env = (false, eval e X.env) :: starEach es X.env := by rfl) (hpl : (backTo pos (starEach es X.env)).any (·.1) = false := by rfl) : PE X (.Call (.Name cn p) (e :: es) [] pos) (tMake C sp [] E0 t) :=
 pe_make ⟨h1, M.m.at_, M.m.fn, h2⟩ G hr hg hm M.b .nil pass0 ha hdb he hpl
theorem zc30 (hm : X.mg cn = some (.ref C)) (h1 : W.makesIn X.K C = true) (h2 : W.keepIn X.K (.ref C) = true) (M : MM X.K C "__init__" q st ps) (G : FnOk X.prog X.w X.K X.mg X.base CX0 k M.f M.fd ps sp) (hr : Room (k + 1) X.A) (hg : Gl X cn := by rfl) (hdb : (cn == ("__debug__" : Str)) = false := by decide) :
  PE X (.Call (.Name cn p) [] [] pos) (tMake C sp [] E0 tNil) :=
 pe_make0 ⟨h1, M.m.at_, M.m.fn, h2⟩ G hr hg hm M.b .nil pass0 hdb
end
theorem zc20 : ∀ {z f : List Int}, Vbtaai.firstIn z f = true -> Fits (nats z) (nats f)
 | [], [], _ => trivial
 | s :: ss, v :: vs, h => by
  have h' : (inr v 0 (s - 1) && Vbtaai.firstIn ss vs) = true := h
  rw [Bool.and_eq_true, zd2] at h'
  exact ⟨by omega, zc20 h'.2⟩
 | [], _ :: _, h => by cases h
 | _ :: _, [], h => by cases h
theorem zn15 : ∀ {z f : List Int}, Vbtaai.firstIn z f = true -> ∀ x ∈ f, 0 <= x
 | [], [], _, x, hx => by cases hx
 | s :: ss, v :: vs, h, x, hx => by
  have h' : (inr v 0 (s - 1) && Vbtaai.firstIn ss vs) = true := h
  rw [Bool.and_eq_true, zd2] at h'
  rcases List.mem_cons.mp hx with e | e
  ·rw [e]; exact h'.1.1
  ·exact zn15 h'.2 x e
 | [], _ :: _, h, _, _ => by cases h
 | _ :: _, [], h, _, _ => by cases h
theorem za29 {z f : List Int} (h : zb8 z f = true) : WfS ⟨nats z, nats f, [], [], [], []⟩ /\ (∀ x ∈ z, 0 <= x) /\ ∀ x ∈ f, 0 <= x := by
 unfold zb8 at h
 simp only [Bool.and_eq_true, decide_eq_true_eq, List.all_eq_true, zd2] at h
 obtain ⟨h1, h2, h3, h4, h5⟩ := h
 refine ⟨⟨fun y hy => ?_, by unfold nats; rw [List.length_map]; exact h2, h5, zc20 h4, by simp, by simp, by simp, by simp⟩, fun x hx => by have := h3 x hx; omega, zn15 h4⟩
 obtain ⟨x, hx, rfl⟩ := List.mem_map.mp hy
 have := h3 x hx
 omega
theorem zq14 : FnScope ["self", "sizes", "first_values", "refusal"] ["self", "sizes", "first_values"] (defScope (inClass (top 81) 1)) := by simp_all? only
theorem zz22 (T : Txt K mg) : FnOk P w K mg base CX0 5 T.zd8.f T.zd8.fd ["self", "sizes", "first_values"] (zj27 T.za.C T.zb.C .story) := by
 have zr20 := @zw17 P w K mg base T
 have zp9 := @zs11 P w K mg base T
 refine T.zd8.F.ok zq14 (fun _ _ _ _ h => ?_) (fun _ _ _ _ H vs Q E hr h => ?_)
 ·obtain ⟨g, a, b, G, st, z, f, rfl, _⟩ := h
  rfl
 ·obtain ⟨g, a, b, G, st, z, f, rfl, ⟨F, sp, pa, dx, rfl, A⟩, ha, hb, nGa, nGb, k⟩ := h
  refine ⟨_, (pss_cons (ps_set (i := 3) zq14.nd rfl (by simp_all?) (zm T.zr7 zr20 (hr.mono (by decide)) (pa_cons (pv 1) (pa_cons (pv 2) pa_nil))))
   (pss_cons (ps_if (pt_cmpR op_ne (pv 3) (zg T.zr) (nomark _)) (pss_one (ps_ret (pe_lst (pa_cons (pv 3) pa_nil)))) pss_nil)
   (pss_cons (zg2 T.zb.cl T.zf (pv 0) (zx24 T.za.g T.za.makes T.za.kp T.zk4 zp9 (hr.mono (by decide)) (pa_cons (pv 1) (pa_cons (pv 2) pa_nil))) rfl)
   (pss_cons (zg2 T.zb.cl T.zt (pv 0) (zd T.za.cl T.zw4 (zd T.zb.cl T.zf (pv 0) rfl) rfl) rfl)
   (pss_cons (zg2 T.zb.cl T.zu3 (pv 0) (pe_lst pa_nil) rfl)
   (pss_one (ps_ret (pe_lst (pa_cons pe_int (pa_cons (pln T.len (zd T.za.cl T.zk (zd T.zb.cl T.zf (pv 0) rfl) rfl)) pa_nil)))))))))), ?_⟩
  simp only [st_c, st_n, st_z]
  have hz := szL
  have e : Vbtaai.step st (.story z f) = _ := ze1 (s := st) (k := fun _ => (⟨⟨nats z, nats f, [], [], [], []⟩, nats f, []⟩, [0, (Vbtaai.product (nats z) : Int)])) (l := [(-1, !zb8 z f)]) (by simp)
  have dz := zj2 (l := [(-1, !zb8 z f)]) (by simp)
  dsimp? []
  refine ⟨a, b, z, f, rfl, ha, hb, ?_⟩
  generalize due [(-1, !zb8 z f)] = d at *
  simp? []
  split
  ·rename_i h0
   have e2 := e.trans (by rw [if_neg (by simpa using h0)])
   have d1 := dz h0 (-1, !zb8 z f) (by simp)
   simp only [Bool.not_eq_false'] at d1
   obtain ⟨W, nz, nf⟩ := za29 d1
   rw [zr13 nz] at ha
   rw [zr13 nf] at hb
   simp? []
   intro x dx' nx ndx nex
   have ax : a ≠ x := ne_of_none ha nx
   have ad : a ≠ dx' := ne_of_none ha ndx
   have bx : b ≠ x := ne_of_none hb nx
   have bd : b ≠ dx' := ne_of_none hb ndx
   have gx : g ≠ x := ne_of_none A.gg nx
   have gd : g ≠ dx' := ne_of_none A.gg ndx
   have keep0 : ∀ q o, H q = some o -> q ≠ x /\ upd (upd H dx' (.own x)) x (.ins T.za.C dx' []) q = some o := fun q o h => ⟨ne_of_none h nx, by rw [upd_ne (ne_of_none h nx), upd_ne (ne_of_none h ndx)]; exact h⟩
   refine ⟨x, dx', a, b, ⟨nats z, nats f, [], [], [], []⟩, rfl, upd_same, (keep0 a _ ha).2, (keep0 b _ hb).2, W, rfl, rfl, rfl, rfl, fun H2 F2 sb hF S => ⟨rfl, ?_⟩⟩
   have keep2 : ∀ q o, H q = some o -> H2 q = some o := fun q o h => sb q o (keep0 q o h).2 (keep0 q o h).1
   have free0 : ∀ q, upd (upd H dx' (.own x)) x (.ins T.za.C dx' []) q = none -> H q = none := fun q hq => by
    cases hh : H q with
    | none => rfl
    | some o => rw [(keep0 q o hh).2] at hq; cases hq
   have ngF : ¬ F2 g := fun z => (hF g z).elim gx fun y => by rw [(keep0 g _ A.gg).2] at y; cases y
   have g2 := keep2 g _ A.gg
   have S' := S
   obtain ⟨_, dx2, sz, sv, ks, ef, tu, ka, kr, i1, i2, i3, i4, R, dm⟩ := S'
   have hkl : (zi ⟨nats z, nats f, [], [], [], []⟩).length = Vbtaai.product (nats z) := by unfold zi; rw [List.length_map, zy]; rfl
   have ksg : ks ≠ g := fun z => ngF (z ▸ R.ks.1.1)
   dsimp? only [g2, upd_same, upd_ne gx.symm, i1]
   intro pa' hpa
   have gpa : g ≠ pa' := fun z => by rw [<- z, upd_same] at hpa; cases hpa
   have hpa2 : H2 pa' = none := by rw [upd_upd, upd_ne gpa.symm] at hpa; exact hpa
   have xpa : x ≠ pa' := ne_of_none i1 hpa2
   have kspa : ks ≠ pa' := ne_of_none R.ks.2 hpa2
   dsimp? only [upd_ne gpa, upd_same, upd_ne gx.symm, upd_ne xpa, i1, upd_ne ksg, upd_ne kspa, R.ks.2, List.length_map, hkl, List.length_cons]
   refine ⟨by omega, fun q hq => ?_⟩
   generalize hH5 : upd (upd (upd (upd H2 g _) g _) pa' _) g _ = H5 at hq ⊢
   have keep5 : ∀ q o, H2 q = some o -> q ≠ g -> H5 q = some o := fun q o h hq => by
    rw [<- hH5, upd_ne hq, upd_ne (ne_of_none h hpa2), upd_ne hq, upd_ne hq]; exact h
   have A1 : zv2 T.za.C T.zb.C F2 H5 g x pa' dx ⟨⟨nats z, nats f, [], [], [], []⟩, nats f, []⟩ := by
    refine ⟨⟨W.fst, by simp, by simp⟩, by rw [<- hH5]; exact upd_same, by rw [<- hH5, upd_ne gpa.symm, upd_same]; rfl, S.frame fun q o hq h => keep5 q o h fun z => ngF (z ▸ hq), ngF, fun z => ?_⟩
    obtain ⟨o, ho⟩ := dm pa' z
    rw [hpa2] at ho
    cases ho
   have fr : Fr (gf F g pa) H (gf F2 g pa') H5 := ⟨fun q o h hG => keep5 q o (keep2 q o h) fun z => hG (.inr (.inl z)), fun q hq => by
    rcases hq with z | z | z
    ·rcases hF q z with y | y
     ·rw [y]; exact .inr nx
     ·exact .inr (free0 q y)
    ·exact .inl (.inr (.inl z))
    ·rw [z]
     cases hh : H pa' with
     | none => exact .inr rfl
     | some o => rw [keep2 pa' o hh] at hpa2; cases hpa2⟩
   exact k.ansG fr A1 hq e2 rfl
  ·rename_i h0
   simp? [List.length_cons, List.length_nil]
   refine ⟨by omega, fun q hq => ?_⟩
   exact k.ans Fr.refl A hq (e.trans (by rw [if_pos h0])) rfl
theorem gp1 {v1 : V} : putF "story" v1 ([] : List (Str × V)) = ([("story", v1)] : List (Str × V)) := rfl
theorem gp2 {v1 v2 : V} : putF "now" v2 ([("story", v1)] : List (Str × V)) = ([("story", v1), ("now", v2)] : List (Str × V)) := rfl
theorem gp3 {v1 v2 v3 : V} : putF "past" v3 ([("story", v1), ("now", v2)] : List (Str × V)) = ([("story", v1), ("now", v2), ("past", v3)] : List (Str × V)) := rfl
theorem zb29 : WfS Vbtaai.start.story := ⟨by simp [Vbtaai.start], by simp [Vbtaai.start], by show Vbtaai.product [] <= 1024; decide, trivial, by simp [Vbtaai.start], by simp [Vbtaai.start], by simp [Vbtaai.start], by simp [Vbtaai.start]⟩
noncomputable def zy24 (C CG : Addr) : Sp := fun vs H Q _ => ∃ (g dx : Addr), vs = [.ref g] /\ H g = some (.ins CG dx []) /\ ∀ H' G', zc g H H' -> (∀ q, G' q -> q = g \/ H q = none) -> zj3 C CG G' H' g Vbtaai.start -> Q .non H'
theorem zc18 : FnScope ["self"] ["self"] (defScope (inClass (top 81) 0)) := by simp_all? only
theorem zd18 (T : Txt K mg) : FnOk P w K mg base CX0 5 T.za6.f T.za6.fd ["self"] (zy24 T.za.C T.zb.C) := by
 have zp9 := @zs11 P w K mg base T
 refine T.za6.F.ok zc18 (fun _ _ _ _ h => ?_) (fun _ _ _ _ H vs Q E hr h => ?_)
 ·obtain ⟨g, dx, rfl, _⟩ := h
  rfl
 ·obtain ⟨g, dx, rfl, hg, k⟩ := h
  refine ⟨_, (pss_cons (zg2 T.zb.cl T.zf (pv 0) (zx24 T.za.g T.za.makes T.za.kp T.zk4 zp9 (hr.mono (by decide)) (pa_cons (pe_lst pa_nil) (pa_cons (pe_lst pa_nil) pa_nil))) rfl)
   (pss_cons (zg2 T.zb.cl T.zt (pv 0) pe_int rfl)
   (pss_one (zg2 T.zb.cl T.zu3 (pv 0) (pe_lst pa_nil) rfl)))), ?_⟩
  simp only [st_c, st_n, st_z]
  have hz := szL
  simp? only []
  intro a na b nb x dx' nx ndx nex
  have ab : a ≠ b := fun z => by rw [<- z, upd_same] at nb; cases nb
  have nb0 : H b = none := by rw [upd_ne ab.symm] at nb; exact nb
  have bx : b ≠ x := fun z => by rw [<- z, upd_same] at nx; cases nx
  have bd : b ≠ dx' := fun z => by rw [<- z, upd_same] at ndx; cases ndx
  have ax : a ≠ x := fun z => by rw [<- z, upd_ne ab, upd_same] at nx; cases nx
  have ad : a ≠ dx' := fun z => by rw [<- z, upd_ne ab, upd_same] at ndx; cases ndx
  have keepA : ∀ q o, H q = some o -> upd (upd H a (.lst [])) b (.lst []) q = some o := fun q o h => by rw [upd_ne (ne_of_none h nb0), upd_ne (ne_of_none h na)]; exact h
  have gx : g ≠ x := ne_of_none (keepA g _ hg) nx
  have keep0 : ∀ q o, upd (upd H a (.lst [])) b (.lst []) q = some o -> q ≠ x /\ upd (upd (upd (upd H a (.lst [])) b (.lst [])) dx' (.own x)) x (.ins T.za.C dx' []) q = some o := fun q o h => ⟨ne_of_none h nx, by rw [upd_ne (ne_of_none h nx), upd_ne (ne_of_none h ndx)]; exact h⟩
  refine ⟨x, dx', a, b, Vbtaai.start.story, rfl, upd_same, (keep0 a _ (by rw [upd_ne ab, upd_same]; rfl)).2, (keep0 b _ upd_same).2, zb29, rfl, rfl, rfl, rfl, fun H2 F2 sb hF S => ⟨rfl, ?_⟩⟩
  have keep2 : ∀ q o, H q = some o -> H2 q = some o := fun q o h => sb q o (keep0 q o (keepA q o h)).2 (keep0 q o (keepA q o h)).1
  have free2 : ∀ q, H2 q = none -> H q = none := fun q hq => by
   cases hh : H q with
   | none => rfl
   | some o => rw [keep2 q o hh] at hq; cases hq
  have free0 : ∀ q, upd (upd (upd (upd H a (.lst [])) b (.lst [])) dx' (.own x)) x (.ins T.za.C dx' []) q = none -> H q = none := fun q hq => by
   cases hh : H q with
   | none => rfl
   | some o => rw [(keep0 q o (keepA q o hh)).2] at hq; cases hq
  have hx0 : H x = none := by
   cases hh : H x with
   | none => rfl
   | some o => rw [keepA x o hh] at nx; cases nx
  have ngF : ¬ F2 g := fun z => (hF g z).elim gx fun y => by rw [(keep0 g _ (keepA g _ hg)).2] at y; cases y
  have g2 := keep2 g _ hg
  simp? only [g2, gp1, gp2, upd_same, upd_upd, List.length_cons, show (0 : Nat) < 1000 by decide, show (0 + 1 : Nat) < 1000 by decide]
  intro pa hpa
  have gpa : g ≠ pa := fun z => by rw [<- z, upd_same] at hpa; cases hpa
  have hpa2 : H2 pa = none := by rw [upd_ne gpa.symm] at hpa; exact hpa
  simp? only [upd_ne gpa, upd_same, gp3, List.length_cons, show (0 + 1 + 1 : Nat) < 1000 by decide]
  generalize hH5 : upd (upd (upd H2 g _) pa _) g _ = H5
  have keep5 : ∀ q o, H2 q = some o -> q ≠ g -> H5 q = some o := fun q o h hq => by
   rw [<- hH5, upd_ne hq, upd_ne (ne_of_none h hpa2), upd_ne hq]; exact h
  have A1 : zv2 T.za.C T.zb.C F2 H5 g x pa dx Vbtaai.start := by
   refine ⟨⟨trivial, by simp [Vbtaai.start], by simp [Vbtaai.start]⟩, by rw [<- hH5]; exact upd_same, by rw [<- hH5, upd_ne gpa.symm, upd_same]; rfl, S.frame fun q o hq h => keep5 q o h fun z => ngF (z ▸ hq), ngF, fun z => ?_⟩
   obtain ⟨o, ho⟩ := S.dom pa z
   rw [hpa2] at ho
   cases ho
  refine k H5 (gf F2 g pa) (fun q o h hq => keep5 q o (keep2 q o h) hq) (fun q hq => ?_) ⟨F2, x, pa, dx, rfl, A1⟩
  rcases hq with z | z | z
  ·rcases hF q z with y | y
   ·rw [y]; exact .inr hx0
   ·exact .inr (free0 q y)
  ·exact .inl z
  ·rw [z]; exact .inr (free2 pa hpa2)
end
noncomputable def rdF (a : Addr) (n : Nat) : List (Str × V) := [("calls", .ref a), ("place", .int n)]
section
variable {a : Addr} {n m : Nat}
theorem zo11 : (rdF a n).lookup ("calls" : Str) = some (.ref a) := rfl
theorem zp11 : (rdF a n).lookup ("place" : Str) = some (.int n) := rfl
theorem zh31 : (rdF a n).lookup ("at_end" : Str) = none := rfl
theorem zo15 : (rdF a n).lookup ("read_number" : Str) = none := rfl
theorem zz24 : (rdF a n).lookup ("read_row" : Str) = none := rfl
theorem zq22 : putF "place" (.int m) (rdF a n) = rdF a m := rfl
theorem zq26 : (rdF a n).length < 1000 := by show 2 < 1000; decide
theorem rd1 {v1 : V} : putF "calls" v1 ([] : List (Str × V)) = ([("calls", v1)] : List (Str × V)) := rfl
theorem rd2 {v1 v2 : V} : putF "place" v2 ([("calls", v1)] : List (Str × V)) = ([("calls", v1), ("place", v2)] : List (Str × V)) := rfl
end
noncomputable def Inp (K : W.Frag) (G : Addr -> Prop) (H : Hp) (a : Addr) (xs : List V) : Prop := (Rd H a (.lst xs) /\ ¬ G a) \/
 ∃ (o : Obj) (its : Array Value) (n : Nat), K.lookup a = some o /\ o.cls = .type "list" /\ o.dict = none /\ o.data = .seq its n /\ its.size <= sizeLine /\ Vals xs its.toList
section
variable {K : W.Frag} {G G' : Addr -> Prop} {H H' : Hp} {a r : Addr} {xs : List V}
theorem Inp.sq (h : Inp K G H a xs) : SqL K H a xs := h.elim (fun z => .inl z.1) .inr
theorem Inp.keep (h : Inp K G H a xs) (e : ∀ q o, H q = some o -> ¬ G q -> (∃ ys, Rd H q (.lst ys)) -> H' q = some o) (g : Grow G H G') : Inp K G' H' a xs := by
 rcases h with ⟨h1, h2⟩ | h
 ·have hne : H a ≠ none := by
   rcases h1 with h1 | ⟨o, h1⟩ <;> rw [h1] <;> intro z <;> cases z
  refine .inl ⟨?_, fun z => (g a z).elim h2 hne⟩
  rcases h1 with h1 | ⟨o, h1⟩
  ·exact .inl (e a _ h1 h2 ⟨xs, .inl h1⟩)
  ·exact .inr ⟨o, e a _ h1 h2 ⟨xs, .inr ⟨o, h1⟩⟩⟩
 ·exact .inr h
theorem Inp.fr (h : Inp K G H a xs) (f : Fr G H G' H') : Inp K G' H' a xs := h.keep (fun q o hq hG _ => f.out q o hq hG) f.grow
theorem zp15 {C dx : Addr} {fs : List (Str × V)} {q : Addr} (hr : H r = some (.ins C dx fs)) (h : ∃ ys, Rd H q (.lst ys)) : q ≠ r := fun z => by
 subst z
 obtain ⟨ys, h | ⟨o, h⟩⟩ := h
 ·rw [hr] at h; cases h
 ·rw [hr] at h; cases h
theorem Inp.put {C dx : Addr} {fs : List (Str × V)} {o : HO} (h : Inp K G H a xs) (hr : H r = some (.ins C dx fs)) : Inp K G (upd H r o) a xs := h.keep (fun q u hq _ hl => by rw [upd_ne (zp15 hr hl)]; exact hq) Grow.refl
end
section
variable {P : Program} {w : World} {K : W.Frag} {mg : Str -> Option Value} {base : Heap}
noncomputable def zm21 (CR : Addr) : Sp := fun vs H Q _ => ∃ (r dx a : Addr), vs = [.ref r, .ref a] /\ H r = some (.ins CR dx []) /\ Q .non (upd H r (.ins CR dx (rdF a 0)))
theorem zq15 : FnScope ["self", "calls"] ["self", "calls"] (defScope (inClass (top 104) 0)) := by simp_all? only
theorem zr15 (T : Txt K mg) : FnOk P w K mg base CX0 1 T.zb5.f T.zb5.fd ["self", "calls"] (zm21 T.ze.C) := by
 refine T.zb5.F.ok zq15 (fun _ _ _ _ h => ?_) (fun _ _ _ _ H vs Q E hr h => ?_)
 ·obtain ⟨r, dx, a, rfl, _⟩ := h
  rfl
 ·obtain ⟨r, dx, a, rfl, hr1, k⟩ := h
  refine ⟨_, (pss_cons (zg2 T.ze.cl T.zm4 (pv 0) (pv 1) rfl)
   (pss_one (zg2 T.ze.cl T.zf2 (pv 0) pe_int rfl))), ?_⟩
  simp only [st_c, st_n, st_z]
  simp? [hr1, rd1, rd2, upd_same, upd_upd, List.length_cons, List.length_nil, show (0 : Nat) < 1000 by decide, show (0 + 1 : Nat) < 1000 by decide]
  exact k
noncomputable def zn28 (K : W.Frag) (CR : Addr) : Sp := fun vs H Q _ => ∃ (r dx a : Addr) (n : Nat) (ns : List Int), vs = [.ref r] /\ H r = some (.ins CR dx (rdF a n)) /\ SqL K H a (vI ns) /\ Q (.bl (decide (ns.length <= n))) H
theorem ze18 : FnScope ["self"] ["self"] (defScope (inClass (top 104) 1)) := by simp_all? only
theorem zf18 (T : Txt K mg) : FnOk P w K mg base CX0 1 T.ze6.f T.ze6.fd ["self"] (zn28 K T.ze.C) := by
 refine T.ze6.F.ok ze18 (fun _ _ _ _ h => ?_) (fun _ _ _ _ H vs Q E hr h => ?_)
 ·obtain ⟨r, dx, a, n, ns, rfl, _⟩ := h
  rfl
 ·obtain ⟨r, dx, a, n, ns, rfl, hr1, hs, k⟩ := h
  refine ⟨_, (pss_one (ps_ret (pe_cmpR op_ge (zd T.ze.cl T.zf2 (pv 0) rfl) (pe_callB call_len_seq (by rfl) T.len PySem.boot_len (pa_cons (zd T.ze.cl T.zm4 (pv 0) rfl) pa_nil)) (nomark _)))), ?_⟩
  simp only [st_c, st_n, st_z]
  simp? [hr1, zo11, zp11]
  refine ⟨_, .inl hs, ?_⟩
  rw [List.length_map, show decide ((ns.length : Int) <= (n : Int)) = decide (ns.length <= n) by rw [Bool.eq_iff_iff, decide_eq_true_eq, decide_eq_true_eq]; omega]
  exact k
noncomputable def zn21 (K : W.Frag) (CR : Addr) : Sp := fun vs H Q _ => ∃ (r dx a : Addr) (n : Nat) (ns : List Int), vs = [.ref r] /\ H r = some (.ins CR dx (rdF a n)) /\ SqL K H a (vI ns) /\ n < ns.length /\ Q (.int (ns.getD n 0)) (upd H r (.ins CR dx (rdF a (n + 1))))
theorem zt9 : FnScope ["self", "number"] ["self"] (defScope (inClass (top 104) 2)) := by simp_all? only
theorem zu9 (T : Txt K mg) : FnOk P w K mg base CX0 1 T.zt1.f T.zt1.fd ["self"] (zn21 K T.ze.C) := by
 refine T.zt1.F.ok zt9 (fun _ _ _ _ h => ?_) (fun _ _ _ _ H vs Q E hr h => ?_)
 ·obtain ⟨r, dx, a, n, ns, rfl, _⟩ := h
  rfl
 ·obtain ⟨r, dx, a, n, ns, rfl, hr1, hs, hn, k⟩ := h
  refine ⟨_, (pss_cons (ps_set (i := 1) zt9.nd rfl (by simp_all?) (pe_ix ix_list (zd T.ze.cl T.zm4 (pv 0) rfl) (zd T.ze.cl T.zf2 (pv 0) rfl) (fun _ _ => rfl)))
   (pss_cons (zg2 T.ze.cl T.zf2 (pv 0) (pe_op op_add (zd T.ze.cl T.zf2 (pv 0) rfl) pe_int) rfl)
   (pss_one (ps_ret (pv 1))))), ?_⟩
  simp only [st_c, st_n, st_z]
  have e1 := atZ (l := ns) (i := n) hn
  have en : (n : Int) + 1 = ((n + 1 : Nat) : Int) := by omega
  simp? [hr1, zo11, zp11, rIxL]
  refine ⟨_, hs, _, e1, ?_⟩
  simp? [hr1, zo11, zp11, en, zq22, zq26]
  exact k
noncomputable def zv25 (K : W.Frag) (CR : Addr) : Sp := fun vs H Q _ => ∃ (r dx a : Addr) (n : Nat) (ns x t : List Int), vs = [.ref r] /\ H r = some (.ins CR dx (rdF a n)) /\ SqL K H a (vI ns) /\ PyFlat.row (ns.drop n) = some (x, t) /\
 ∀ p m, H p = none -> t = ns.drop m -> n < m -> m <= ns.length -> Q (.ref p) (upd (upd H p (.lst (vI x))) r (.ins CR dx (rdF a m)))
theorem zc8 : FnScope ["self", "length", "row"] ["self"] (defScope (inClass (top 104) 3)) := by simp_all? only
theorem zi31 {ns : List Int} {n l : Nat} (h : n + l <= ns.length) : cutV (vI ns) (some (n : Int)) (some ((n : Int) + (l : Int))) = vI ((ns.drop n).take l) := by
 unfold cutV
 have e : (n : Int) + (l : Int) = ((n + l : Nat) : Int) := by omega
 have m1 : min n ns.length = n := by omega
 have m2 : min (n + l) ns.length = n + l := by omega
 rw [e, HT.sIx_nat, HT.sIx_nat, List.length_map, m1, m2, show n + l - n = l by omega]
 rw [vI, vI, List.map_take, List.map_drop]
theorem zj31 {ns x t : List Int} {n : Nat} (h : PyFlat.row (ns.drop n) = some (x, t)) : n < ns.length /\ ∃ l : Nat, ns.getD n 0 = (l : Int) /\ n + 1 + l <= ns.length /\ x = (ns.drop (n + 1)).take l /\ t = ns.drop (n + 1 + l) := by
 by_cases hn : n < ns.length
 ·rw [zm3 0 hn] at h
  change (if 0 <= ns.getD n 0 /\ (ns.getD n 0).toNat <= (ns.drop (n + 1)).length then some ((ns.drop (n + 1)).take (ns.getD n 0).toNat, (ns.drop (n + 1)).drop (ns.getD n 0).toNat) else none) = some (x, t) at h
  split at h
  ·rename_i hc
   refine ⟨hn, (ns.getD n 0).toNat, by omega, ?_, ?_, ?_⟩
   ·have := hc.2
    rw [List.length_drop] at this
    omega
   ·exact (congrArg Prod.fst (Option.some.inj h)).symm
   ·rw [<- List.drop_drop]
    exact (congrArg Prod.snd (Option.some.inj h)).symm
  ·cases h
 ·rw [List.drop_eq_nil_of_le (by omega)] at h
  cases h
theorem zs15 (T : Txt K mg) : FnOk P w K mg base CX0 2 T.zk3.f T.zk3.fd ["self"] (zv25 K T.ze.C) := by
 have zi3 := @zu9 P w K mg base T
 refine T.zk3.F.ok zc8 (fun _ _ _ _ h => ?_) (fun _ _ _ _ H vs Q E hr h => ?_)
 ·obtain ⟨r, dx, a, n, ns, x, t, rfl, _⟩ := h
  rfl
 ·obtain ⟨r, dx, a, n, ns, x, t, rfl, hr1, hs, hrow, k⟩ := h
  obtain ⟨hn, l, hl, hle, hx, ht⟩ := zj31 hrow
  refine ⟨_, (pss_cons (ps_set (i := 1) zc8.nd rfl (by simp_all?) (zj1 T.ze.cl T.zt1 zi3 (hr.mono (by decide)) (pv 0)))
   (pss_cons (ps_set (i := 2) zc8.nd rfl (by simp_all?) (pe_slice sl_list (zd T.ze.cl T.zm4 (pv 0) rfl) (po_some (zd T.ze.cl T.zf2 (pv 0) rfl)) (po_some (pe_op op_add (zd T.ze.cl T.zf2 (pv 0) rfl) (pv 1)))))
   (pss_cons (zg2 T.ze.cl T.zf2 (pv 0) (pe_op op_add (zd T.ze.cl T.zf2 (pv 0) rfl) (pv 1)) rfl)
   (pss_one (ps_ret (pv 2)))))), ?_⟩
  simp only [st_c, st_n, st_z]
  simp? [hr1, zo15]
  refine ⟨r, dx, a, n, ns, rfl, hr1, hs, hn, ?_⟩
  have hs1 : SqL K (upd H r (.ins T.ze.C dx (rdF a (n + 1)))) a (vI ns) := by
   rcases hs with h | h
   ·have hne := zp15 hr1 ⟨_, h⟩
    rcases h with h | ⟨o, h⟩
    ·exact .inl (.inl (by rw [upd_ne hne]; exact h))
    ·exact .inl (.inr ⟨o, by rw [upd_ne hne]; exact h⟩)
   ·exact .inr h
  rw [hl]
  simp? [upd_same, zo11, zp11, tSl, tPart, rSlL]
  refine ⟨_, hs1, fun p hp => ?_⟩
  rw [zi31 hle]
  have rp : r ≠ p := fun z => by rw [<- z, upd_same] at hp; cases hp
  have hp0 : H p = none := by rw [upd_ne rp.symm] at hp; exact hp
  have en : ((n + 1 : Nat) : Int) + (l : Int) = ((n + 1 + l : Nat) : Int) := by omega
  simp? [upd_ne rp, upd_same, zo11, zp11, en, zq22, zq26]
  have fin := k p (n + 1 + l) hp0 ht (by omega) hle
  have eH : upd (upd (upd H r (.ins T.ze.C dx (rdF a (n + 1)))) p (.lst (vI ((ns.drop (n + 1)).take l)))) r (.ins T.ze.C dx (rdF a (n + 1 + l))) = upd (upd H p (.lst (vI x))) r (.ins T.ze.C dx (rdF a (n + 1 + l))) := by
   rw [hx]
   funext b
   by_cases hb : b = r
   ·rw [hb, upd_same, upd_same]
   ·rw [upd_ne hb, upd_ne hb]
    by_cases hb2 : b = p
    ·rw [hb2, upd_same, upd_same]
    ·rw [upd_ne hb2, upd_ne hb2, upd_ne hb]
  rw [eH]
  exact fin
end
section
variable {sp pa : Addr} {now : Nat}
theorem zu1 : (gmF sp now pa).lookup ("begin" : Str) = none := rfl
theorem zl : (gmF sp now pa).lookup ("tell_action" : Str) = none := rfl
theorem zu : (gmF sp now pa).lookup ("tell_turn" : Str) = none := rfl
theorem zv : (gmF sp now pa).lookup ("tell_good" : Str) = none := rfl
theorem zz : (gmF sp now pa).lookup ("tell_bad" : Str) = none := rfl
theorem zy2 : (gmF sp now pa).lookup ("act" : Str) = none := rfl
theorem zg1 : (gmF sp now pa).lookup ("restart" : Str) = none := rfl
theorem zk2 : (gmF sp now pa).lookup ("undo" : Str) = none := rfl
theorem za1 : (gmF sp now pa).lookup ("tell_now" : Str) = none := rfl
theorem zz2 : (gmF sp now pa).lookup ("can" : Str) = none := rfl
theorem zl2 : (gmF sp now pa).lookup ("hint" : Str) = none := rfl
theorem za3 : (gmF sp now pa).lookup ("way" : Str) = none := rfl
theorem zm2 : (gmF sp now pa).lookup ("rank" : Str) = none := rfl
theorem zn1 : (gmF sp now pa).lookup ("choice" : Str) = none := rfl
theorem zo1 : (gmF sp now pa).lookup ("survey" : Str) = none := rfl
theorem zo : (gmF sp now pa).lookup ("tell_ranks" : Str) = none := rfl
theorem zv1 : (gmF sp now pa).lookup ("check" : Str) = none := rfl
theorem zb1 : (gmF sp now pa).lookup ("distance" : Str) = none := rfl
theorem zn2 : (gmF sp now pa).lookup ("must" : Str) = none := rfl
theorem zo2 : (gmF sp now pa).lookup ("ways" : Str) = none := rfl
theorem zp : (gmF sp now pa).lookup ("tell_state" : Str) = none := rfl
end
section
variable {P : Program} {w : World} {K : W.Frag} {mg : Str -> Option Value} {base : Heap}
noncomputable def c2 (cl : Int) (l m : List Int) : Vbtaai.Call := if cl = 0 then .story l m else if cl = 1 then .action l m else .turn l m
noncomputable def zt15 (C CG : Addr) : Sp := fun vs H Q _ => ∃ (cl : Int) (g a b : Addr) (G : Addr -> Prop) (st : Vbtaai.State) (l m : List Int), vs = [.int cl, .ref g, .ref a, .ref b] /\ (cl = 0 \/ cl = 1 \/ cl = 2) /\ zj3 C CG G H g st /\ H a = some (.lst (vI l)) /\ H b = some (.lst (vI m)) /\ ¬ G a /\ ¬ G b /\ Post C CG G H g (Vbtaai.step st (c2 cl l m)) Q
theorem zu15 : FnScope ["call", "game", "first_row", "second_row"] ["call", "game", "first_row", "second_row"] (defScope (top 105)) := by simp_all? only
theorem zv15 (T : Txt K mg) : FnOk P w K mg base CX0 10 T.zj6.f T.zj6.fd ["call", "game", "first_row", "second_row"] (zt15 T.za.C T.zb.C) := by
 have zg25 := @zz22 P w K mg base T
 have za16 := @zt14 P w K mg base T
 have zt18 := @zl16 P w K mg base T
 refine T.zj6.F.ok zu15 (fun _ _ _ _ h => ?_) (fun _ _ _ _ H vs Q E hr h => ?_)
 ·obtain ⟨cl, g, a, b, G, st, l, m, rfl, _⟩ := h
  rfl
 ·obtain ⟨cl, g, a, b, G, st, l, m, rfl, hcl, hG, ha, hb, nGa, nGb, k⟩ := h
  refine ⟨_, (pss_cons (ps_if (pt_cmpR op_eq (pv 0) (zg T.zs26) (nomark _)) (pss_one (ps_ret (zy1 T.zb.cl T.zd8 zg25 (hr.mono (by decide)) (pv 1) (pa_cons (pv 2) (pa_cons (pv 3) pa_nil))))) pss_nil)
   (pss_cons (ps_if (pt_cmpR op_eq (pv 0) (zg T.zd25) (nomark _)) (pss_one (ps_ret (zy1 T.zb.cl T.zs4 za16 (hr.mono (by decide)) (pv 1) (pa_cons (pv 2) (pa_cons (pv 3) pa_nil))))) pss_nil)
   (pss_one (ps_ret (zy1 T.zb.cl T.zp5 zt18 (hr.mono (by decide)) (pv 1) (pa_cons (pv 2) (pa_cons (pv 3) pa_nil))))))), ?_⟩
  have hG' := hG
  obtain ⟨F, sp, pa, dx, rfl, A⟩ := hG'
  simp only [st_c, st_n, st_z]
  rcases hcl with rfl | rfl | rfl
  ·simp? [A.gg, zu1, zl, zu, zv, zz, zy2, zg1, zk2, za1, zz2, zl2, za3, zm2, zn1, zo1, zo, zv1, zb1, zn2, zo2, zp, Int.reduceEq]
   exact ⟨g, a, b, _, st, l, m, rfl, hG, ha, hb, nGa, nGb, k⟩
  ·simp? [A.gg, zu1, zl, zu, zv, zz, zy2, zg1, zk2, za1, zz2, zl2, za3, zm2, zn1, zo1, zo, zv1, zb1, zn2, zo2, zp, Int.reduceEq]
   exact ⟨g, a, b, _, st, l, m, rfl, hG, ha, hb, nGa, nGb, k⟩
  ·simp? [A.gg, zu1, zl, zu, zv, zz, zy2, zg1, zk2, za1, zz2, zl2, za3, zm2, zn1, zo1, zo, zv1, zb1, zn2, zo2, zp, Int.reduceEq]
   exact ⟨g, a, b, _, st, l, m, rfl, hG, ha, hb, nGa, nGb, k⟩
noncomputable def c1 (cl : Int) (l : List Int) : Vbtaai.Call := if cl = 3 then .good l else if cl = 4 then .bad l else .check l
noncomputable def za23 (C CG : Addr) : Sp := fun vs H Q _ => ∃ (cl : Int) (g a : Addr) (G : Addr -> Prop) (st : Vbtaai.State) (l : List Int), vs = [.int cl, .ref g, .ref a] /\ (cl = 3 \/ cl = 4 \/ cl = 16) /\ zj3 C CG G H g st /\ H a = some (.lst (vI l)) /\ ¬ G a /\ Post C CG G H g (Vbtaai.step st (c1 cl l)) Q
theorem zb23 : FnScope ["call", "game", "row"] ["call", "game", "row"] (defScope (top 106)) := by simp_all? only
theorem zc23 (T : Txt K mg) : FnOk P w K mg base CX0 10 T.zk10.f T.zk10.fd ["call", "game", "row"] (za23 T.za.C T.zb.C) := by
 have zu18 := @zm16 P w K mg base T
 have zs20 := @zb18 P w K mg base T
 have zh25 := @zy22 P w K mg base T
 refine T.zk10.F.ok zb23 (fun _ _ _ _ h => ?_) (fun _ _ _ _ H vs Q E hr h => ?_)
 ·obtain ⟨cl, g, a, G, st, l, rfl, _⟩ := h
  rfl
 ·obtain ⟨cl, g, a, G, st, l, rfl, hcl, hG, ha, nGa, k⟩ := h
  refine ⟨_, (pss_cons (ps_if (pt_cmpR op_eq (pv 0) (zg T.zp28) (nomark _)) (pss_one (ps_ret (zy1 T.zb.cl T.zq5 zu18 (hr.mono (by decide)) (pv 1) (pa_cons (pv 2) pa_nil)))) pss_nil)
   (pss_cons (ps_if (pt_cmpR op_eq (pv 0) (zg T.c_BAD) (nomark _)) (pss_one (ps_ret (zy1 T.zb.cl T.zb6 zs20 (hr.mono (by decide)) (pv 1) (pa_cons (pv 2) pa_nil)))) pss_nil)
   (pss_one (ps_ret (zy1 T.zb.cl T.ze8 zh25 (hr.mono (by decide)) (pv 1) (pa_cons (pv 2) pa_nil)))))), ?_⟩
  have hG' := hG
  obtain ⟨F, sp, pa, dx, rfl, A⟩ := hG'
  simp only [st_c, st_n, st_z]
  rcases hcl with rfl | rfl | rfl
  ·simp? [A.gg, zu1, zl, zu, zv, zz, zy2, zg1, zk2, za1, zz2, zl2, za3, zm2, zn1, zo1, zo, zv1, zb1, zn2, zo2, zp, Int.reduceEq]
   exact ⟨g, a, _, st, l, rfl, hG, ha, nGa, k⟩
  ·simp? [A.gg, zu1, zl, zu, zv, zz, zy2, zg1, zk2, za1, zz2, zl2, za3, zm2, zn1, zo1, zo, zv1, zb1, zn2, zo2, zp, Int.reduceEq]
   exact ⟨g, a, _, st, l, rfl, hG, ha, nGa, k⟩
  ·simp? [A.gg, zu1, zl, zu, zv, zz, zy2, zg1, zk2, za1, zz2, zl2, za3, zm2, zn1, zo1, zo, zv1, zb1, zn2, zo2, zp, Int.reduceEq]
   exact ⟨g, a, _, st, l, rfl, hG, ha, nGa, k⟩
noncomputable def d1 (cl : Int) (x : Int) : Vbtaai.Call := if cl = 5 then .act x else if cl = 12 then .rank x else if cl = 13 then .choice x else .state x
noncomputable def zg18 (C CG : Addr) : Sp := fun vs H Q _ => ∃ (cl : Int) (g : Addr) (x : Int) (G : Addr -> Prop) (st : Vbtaai.State), vs = [.int cl, .ref g, .int x] /\ (cl = 5 \/ cl = 12 \/ cl = 13 \/ cl = 20) /\ zj3 C CG G H g st /\ Post C CG G H g (Vbtaai.step st (d1 cl x)) Q
theorem zh18 : FnScope ["call", "game", "number"] ["call", "game", "number"] (defScope (top 107)) := by simp_all? only
theorem zi18 (T : Txt K mg) : FnOk P w K mg base CX0 10 T.zv7.f T.zv7.fd ["call", "game", "number"] (zg18 T.za.C T.zb.C) := by
 have zo27 := @zu25 P w K mg base T
 have zz25 := @zu24 P w K mg base T
 have zi23 := @zl21 P w K mg base T
 have zr16 := @zk15 P w K mg base T
 refine T.zv7.F.ok zh18 (fun _ _ _ _ h => ?_) (fun _ _ _ _ H vs Q E hr h => ?_)
 ·obtain ⟨cl, g, x, G, st, rfl, _⟩ := h
  rfl
 ·obtain ⟨cl, g, x, G, st, rfl, hcl, hG, k⟩ := h
  refine ⟨_, (pss_cons (ps_if (pt_cmpR op_eq (pv 0) (zg T.c_ACT) (nomark _)) (pss_one (ps_ret (zy1 T.zb.cl T.zl10 zo27 (hr.mono (by decide)) (pv 1) (pa_cons (pv 2) pa_nil)))) pss_nil)
   (pss_cons (ps_if (pt_cmpR op_eq (pv 0) (zg T.zr28) (nomark _)) (pss_one (ps_ret (zy1 T.zb.cl T.zc9 zz25 (hr.mono (by decide)) (pv 1) (pa_cons (pv 2) pa_nil)))) pss_nil)
   (pss_cons (ps_if (pt_cmpR op_eq (pv 0) (zg T.ze25) (nomark _)) (pss_one (ps_ret (zy1 T.zb.cl T.zd7 zi23 (hr.mono (by decide)) (pv 1) (pa_cons (pv 2) pa_nil)))) pss_nil)
   (pss_one (ps_ret (zy1 T.zb.cl T.za5 zr16 (hr.mono (by decide)) (pv 1) (pa_cons (pv 2) pa_nil))))))), ?_⟩
  have hG' := hG
  obtain ⟨F, sp, pa, dx, rfl, A⟩ := hG'
  simp only [st_c, st_n, st_z]
  rcases hcl with rfl | rfl | rfl | rfl
  ·simp? [A.gg, zu1, zl, zu, zv, zz, zy2, zg1, zk2, za1, zz2, zl2, za3, zm2, zn1, zo1, zo, zv1, zb1, zn2, zo2, zp, Int.reduceEq]
   exact ⟨g, _, st, x, rfl, hG, k⟩
  ·simp? [A.gg, zu1, zl, zu, zv, zz, zy2, zg1, zk2, za1, zz2, zl2, za3, zm2, zn1, zo1, zo, zv1, zb1, zn2, zo2, zp, Int.reduceEq]
   exact ⟨g, _, st, x, rfl, hG, k⟩
  ·simp? [A.gg, zu1, zl, zu, zv, zz, zy2, zg1, zk2, za1, zz2, zl2, za3, zm2, zn1, zo1, zo, zv1, zb1, zn2, zo2, zp, Int.reduceEq]
   exact ⟨g, _, st, x, rfl, hG, k⟩
  ·simp? [A.gg, zu1, zl, zu, zv, zz, zy2, zg1, zk2, za1, zz2, zl2, za3, zm2, zn1, zo1, zo, zv1, zb1, zn2, zo2, zp, Int.reduceEq]
   exact ⟨g, _, st, x, rfl, hG, k⟩
noncomputable def d2 (cl : Int) (x y : Int) : Vbtaai.Call := if cl = 17 then .distance x y else .must x y
noncomputable def zy13 (C CG : Addr) : Sp := fun vs H Q _ => ∃ (cl : Int) (g : Addr) (x y : Int) (G : Addr -> Prop) (st : Vbtaai.State), vs = [.int cl, .ref g, .int x, .int y] /\ (cl = 17 \/ cl = 18) /\ zj3 C CG G H g st /\ Post C CG G H g (Vbtaai.step st (d2 cl x y)) Q
theorem zz13 : FnScope ["call", "game", "first_number", "second_number"] ["call", "game", "first_number", "second_number"] (defScope (top 108)) := by simp_all? only
theorem za14 (T : Txt K mg) : FnOk P w K mg base CX0 10 T.zd5.f T.zd5.fd ["call", "game", "first_number", "second_number"] (zy13 T.za.C T.zb.C) := by
 have zt20 := @za18 P w K mg base T
 have za26 := @zv24 P w K mg base T
 refine T.zd5.F.ok zz13 (fun _ _ _ _ h => ?_) (fun _ _ _ _ H vs Q E hr h => ?_)
 ·obtain ⟨cl, g, x, y, G, st, rfl, _⟩ := h
  rfl
 ·obtain ⟨cl, g, x, y, G, st, rfl, hcl, hG, k⟩ := h
  refine ⟨_, (pss_cons (ps_if (pt_cmpR op_eq (pv 0) (zg T.zl20) (nomark _)) (pss_one (ps_ret (zy1 T.zb.cl T.zd6 zt20 (hr.mono (by decide)) (pv 1) (pa_cons (pv 2) (pa_cons (pv 3) pa_nil))))) pss_nil)
   (pss_one (ps_ret (zy1 T.zb.cl T.zd9 za26 (hr.mono (by decide)) (pv 1) (pa_cons (pv 2) (pa_cons (pv 3) pa_nil)))))), ?_⟩
  have hG' := hG
  obtain ⟨F, sp, pa, dx, rfl, A⟩ := hG'
  simp only [st_c, st_n, st_z]
  rcases hcl with rfl | rfl
  ·simp? [A.gg, zu1, zl, zu, zv, zz, zy2, zg1, zk2, za1, zz2, zl2, za3, zm2, zn1, zo1, zo, zv1, zb1, zn2, zo2, zp, Int.reduceEq]
   exact ⟨g, _, st, x, y, rfl, hG, k⟩
  ·simp? [A.gg, zu1, zl, zu, zv, zz, zy2, zg1, zk2, za1, zz2, zl2, za3, zm2, zn1, zo1, zo, zv1, zb1, zn2, zo2, zp, Int.reduceEq]
   exact ⟨g, _, st, x, y, rfl, hG, k⟩
noncomputable def d0 (cl : Int) : Vbtaai.Call := if cl = 6 then .restart else if cl = 7 then .undo else if cl = 8 then .now else if cl = 9 then .can else if cl = 10 then .hint else if cl = 11 then .way else if cl = 14 then .survey else if cl = 15 then .ranks else .ways
noncomputable def zd20 (C CG : Addr) : Sp := fun vs H Q _ => ∃ (cl : Int) (g : Addr) (G : Addr -> Prop) (st : Vbtaai.State), vs = [.int cl, .ref g] /\ (cl = 6 \/ cl = 7 \/ cl = 8 \/ cl = 9 \/ cl = 10 \/ cl = 11 \/ cl = 14 \/ cl = 15 \/ cl = 19) /\ zj3 C CG G H g st /\ Post C CG G H g (Vbtaai.step st (d0 cl)) Q
theorem ze20 : FnScope ["call", "game"] ["call", "game"] (defScope (top 109)) := by simp_all? only
theorem zf20 (T : Txt K mg) : FnOk P w K mg base CX0 10 T.zo8.f T.zo8.fd ["call", "game"] (zd20 T.za.C T.zb.C) := by
 have zx21 := @zb20 P w K mg base T
 have zb26 := @zw24 P w K mg base T
 have zu20 := @zz17 P w K mg base T
 have zp27 := @zs25 P w K mg base T
 have zc26 := @zs24 P w K mg base T
 have zq27 := @zt25 P w K mg base T
 have zj23 := @zk21 P w K mg base T
 have zs16 := @zi15 P w K mg base T
 have zd26 := @zt24 P w K mg base T
 refine T.zo8.F.ok ze20 (fun _ _ _ _ h => ?_) (fun _ _ _ _ H vs Q E hr h => ?_)
 ·obtain ⟨cl, g, G, st, rfl, _⟩ := h
  rfl
 ·obtain ⟨cl, g, G, st, rfl, hcl, hG, k⟩ := h
  refine ⟨_, (pss_cons (ps_if (pt_cmpR op_eq (pv 0) (zg T.zq28) (nomark _)) (pss_one (ps_ret (zj1 T.zb.cl T.zr6 zx21 (hr.mono (by decide)) (pv 1)))) pss_nil)
   (pss_cons (ps_if (pt_cmpR op_eq (pv 0) (zg T.zo31) (nomark _)) (pss_one (ps_ret (zj1 T.zb.cl T.za9 zb26 (hr.mono (by decide)) (pv 1)))) pss_nil)
   (pss_cons (ps_if (pt_cmpR op_eq (pv 0) (zg T.c_NOW) (nomark _)) (pss_one (ps_ret (zj1 T.zb.cl T.zc6 zu20 (hr.mono (by decide)) (pv 1)))) pss_nil)
   (pss_cons (ps_if (pt_cmpR op_eq (pv 0) (zg T.c_CAN) (nomark _)) (pss_one (ps_ret (zj1 T.zb.cl T.zm10 zp27 (hr.mono (by decide)) (pv 1)))) pss_nil)
   (pss_cons (ps_if (pt_cmpR op_eq (pv 0) (zg T.zp31) (nomark _)) (pss_one (ps_ret (zj1 T.zb.cl T.zb9 zc26 (hr.mono (by decide)) (pv 1)))) pss_nil)
   (pss_cons (ps_if (pt_cmpR op_eq (pv 0) (zg T.c_WAY) (nomark _)) (pss_one (ps_ret (zj1 T.zb.cl T.zn10 zq27 (hr.mono (by decide)) (pv 1)))) pss_nil)
   (pss_cons (ps_if (pt_cmpR op_eq (pv 0) (zg T.zd29) (nomark _)) (pss_one (ps_ret (zj1 T.zb.cl T.ze7 zj23 (hr.mono (by decide)) (pv 1)))) pss_nil)
   (pss_cons (ps_if (pt_cmpR op_eq (pv 0) (zg T.zf30) (nomark _)) (pss_one (ps_ret (zj1 T.zb.cl T.zz4 zs16 (hr.mono (by decide)) (pv 1)))) pss_nil)
   (pss_cons (ps_if (pt_cmpR op_eq (pv 0) (zg T.zr31) (nomark _)) (pss_one (ps_ret (zj1 T.zb.cl T.ze9 zd26 (hr.mono (by decide)) (pv 1)))) pss_nil)
   (pss_one ps_never)))))))))), ?_⟩
  have hG' := hG
  obtain ⟨F, sp, pa, dx, rfl, A⟩ := hG'
  simp only [st_c, st_n, st_z]
  rcases hcl with rfl | rfl | rfl | rfl | rfl | rfl | rfl | rfl | rfl
  ·simp? [A.gg, zu1, zl, zu, zv, zz, zy2, zg1, zk2, za1, zz2, zl2, za3, zm2, zn1, zo1, zo, zv1, zb1, zn2, zo2, zp, Int.reduceEq]
   exact ⟨g, _, st, rfl, hG, k⟩
  ·simp? [A.gg, zu1, zl, zu, zv, zz, zy2, zg1, zk2, za1, zz2, zl2, za3, zm2, zn1, zo1, zo, zv1, zb1, zn2, zo2, zp, Int.reduceEq]
   exact ⟨g, _, st, rfl, hG, k⟩
  ·simp? [A.gg, zu1, zl, zu, zv, zz, zy2, zg1, zk2, za1, zz2, zl2, za3, zm2, zn1, zo1, zo, zv1, zb1, zn2, zo2, zp, Int.reduceEq]
   exact ⟨g, _, st, rfl, hG, k⟩
  ·simp? [A.gg, zu1, zl, zu, zv, zz, zy2, zg1, zk2, za1, zz2, zl2, za3, zm2, zn1, zo1, zo, zv1, zb1, zn2, zo2, zp, Int.reduceEq]
   exact ⟨g, _, st, rfl, hG, k⟩
  ·simp? [A.gg, zu1, zl, zu, zv, zz, zy2, zg1, zk2, za1, zz2, zl2, za3, zm2, zn1, zo1, zo, zv1, zb1, zn2, zo2, zp, Int.reduceEq]
   exact ⟨g, _, st, rfl, hG, k⟩
  ·simp? [A.gg, zu1, zl, zu, zv, zz, zy2, zg1, zk2, za1, zz2, zl2, za3, zm2, zn1, zo1, zo, zv1, zb1, zn2, zo2, zp, Int.reduceEq]
   exact ⟨g, _, st, rfl, hG, k⟩
  ·simp? [A.gg, zu1, zl, zu, zv, zz, zy2, zg1, zk2, za1, zz2, zl2, za3, zm2, zn1, zo1, zo, zv1, zb1, zn2, zo2, zp, Int.reduceEq]
   exact ⟨g, _, st, rfl, hG, k⟩
  ·simp? [A.gg, zu1, zl, zu, zv, zz, zy2, zg1, zk2, za1, zz2, zl2, za3, zm2, zn1, zo1, zo, zv1, zb1, zn2, zo2, zp, Int.reduceEq]
   exact ⟨g, _, st, rfl, hG, k⟩
  ·simp? [A.gg, zu1, zl, zu, zv, zz, zy2, zg1, zk2, za1, zz2, zl2, za3, zm2, zn1, zo1, zo, zv1, zb1, zn2, zo2, zp, Int.reduceEq]
   exact ⟨g, _, st, rfl, hG, k⟩
end
section
variable {shape : Int -> Option (Nat × Nat)} {p : Int} {rest t : List Int} {c : List (List Int)}
theorem zr22 (h : PyFlat.call shape (p :: rest) = some (c, t)) : ∃ n k xs, shape p = some (n, k) /\ n <= rest.length /\ PyFlat.rows k (rest.drop n) = some (xs, t) /\ c = (p :: rest.take n) :: xs := by
 unfold PyFlat.call at h
 dsimp only at h
 cases hs : shape p with
 | none => rw [hs] at h; cases h
 | some nk =>
  obtain ⟨n, k⟩ := nk
  rw [hs] at h
  dsimp only at h
  by_cases hl : rest.length < n
  ·rw [if_pos hl] at h; cases h
  ·rw [if_neg hl] at h
   cases hr : PyFlat.rows k (rest.drop n) with
   | none => rw [hr] at h; cases h
   | some y =>
    obtain ⟨xs, t'⟩ := y
    rw [hr] at h
    dsimp only at h
    cases h
    exact ⟨n, k, xs, rfl, by omega, hr, rfl⟩
theorem ze5 {r t : List Int} {xs : List (List Int)} (h : PyFlat.rows 0 r = some (xs, t)) : xs = [] /\ t = r := by
 cases h
 exact ⟨rfl, rfl⟩
theorem zv9 {k : Nat} {r t : List Int} {xs : List (List Int)} (h : PyFlat.rows (k + 1) r = some (xs, t)) : ∃ x s ys, PyFlat.row r = some (x, s) /\ PyFlat.rows k s = some (ys, t) /\ xs = x :: ys := by
 unfold PyFlat.rows at h
 cases hr : PyFlat.row r with
 | none => rw [hr] at h; cases h
 | some y =>
  obtain ⟨x, s⟩ := y
  rw [hr] at h
  dsimp only at h
  cases hq : PyFlat.rows k s with
  | none => rw [hq] at h; cases h
  | some z =>
   obtain ⟨ys, t'⟩ := z
   rw [hq] at h
   dsimp only at h
   cases h
   exact ⟨x, s, ys, rfl, hq, rfl⟩
end
noncomputable def pl2 : List Int := [0, 1, 2]
noncomputable def pl1 : List Int := [3, 4, 16]
noncomputable def pn1 : List Int := [5, 12, 13, 20]
noncomputable def pn2 : List Int := [17, 18]
noncomputable def pl0 : List Int := [6, 7, 8, 9, 10, 11, 14, 15, 19]
theorem za25 {p : Int} {n k : Nat} (h : PyVbtaai.shape p = some (n, k)) : (p ∈ pl2 /\ n = 0 /\ k = 2) \/ (p ∈ pl1 /\ n = 0 /\ k = 1) \/ (p ∈ pn1 /\ n = 1 /\ k = 0) \/ (p ∈ pn2 /\ n = 2 /\ k = 0) \/ (p ∈ pl0 /\ n = 0 /\ k = 0) := by
 unfold PyVbtaai.shape at h
 by_cases h0 : p = 0
 ·rw [if_pos h0] at h; cases h; subst h0; decide
 rw [if_neg h0] at h
 by_cases h1 : p = 1
 ·rw [if_pos h1] at h; cases h; subst h1; decide
 rw [if_neg h1] at h
 by_cases h2 : p = 2
 ·rw [if_pos h2] at h; cases h; subst h2; decide
 rw [if_neg h2] at h
 by_cases h3 : p = 3
 ·rw [if_pos h3] at h; cases h; subst h3; decide
 rw [if_neg h3] at h
 by_cases h4 : p = 4
 ·rw [if_pos h4] at h; cases h; subst h4; decide
 rw [if_neg h4] at h
 by_cases h5 : p = 5
 ·rw [if_pos h5] at h; cases h; subst h5; decide
 rw [if_neg h5] at h
 by_cases h6 : p = 6
 ·rw [if_pos h6] at h; cases h; subst h6; decide
 rw [if_neg h6] at h
 by_cases h7 : p = 7
 ·rw [if_pos h7] at h; cases h; subst h7; decide
 rw [if_neg h7] at h
 by_cases h8 : p = 8
 ·rw [if_pos h8] at h; cases h; subst h8; decide
 rw [if_neg h8] at h
 by_cases h9 : p = 9
 ·rw [if_pos h9] at h; cases h; subst h9; decide
 rw [if_neg h9] at h
 by_cases h10 : p = 10
 ·rw [if_pos h10] at h; cases h; subst h10; decide
 rw [if_neg h10] at h
 by_cases h11 : p = 11
 ·rw [if_pos h11] at h; cases h; subst h11; decide
 rw [if_neg h11] at h
 by_cases h12 : p = 12
 ·rw [if_pos h12] at h; cases h; subst h12; decide
 rw [if_neg h12] at h
 by_cases h13 : p = 13
 ·rw [if_pos h13] at h; cases h; subst h13; decide
 rw [if_neg h13] at h
 by_cases h14 : p = 14
 ·rw [if_pos h14] at h; cases h; subst h14; decide
 rw [if_neg h14] at h
 by_cases h15 : p = 15
 ·rw [if_pos h15] at h; cases h; subst h15; decide
 rw [if_neg h15] at h
 by_cases h16 : p = 16
 ·rw [if_pos h16] at h; cases h; subst h16; decide
 rw [if_neg h16] at h
 by_cases h17 : p = 17
 ·rw [if_pos h17] at h; cases h; subst h17; decide
 rw [if_neg h17] at h
 by_cases h18 : p = 18
 ·rw [if_pos h18] at h; cases h; subst h18; decide
 rw [if_neg h18] at h
 by_cases h19 : p = 19
 ·rw [if_pos h19] at h; cases h; subst h19; decide
 rw [if_neg h19] at h
 by_cases h20 : p = 20
 ·rw [if_pos h20] at h; cases h; subst h20; decide
 rw [if_neg h20] at h
 cases h
theorem of2 {p : Int} (h : p ∈ pl2) : p = 0 \/ p = 1 \/ p = 2 := by simpa [pl2] using h
theorem of1 {p : Int} (h : p ∈ pl1) : p = 3 \/ p = 4 \/ p = 16 := by simpa [pl1] using h
theorem ofn1 {p : Int} (h : p ∈ pn1) : p = 5 \/ p = 12 \/ p = 13 \/ p = 20 := by simpa [pn1] using h
theorem ofn2 {p : Int} (h : p ∈ pn2) : p = 17 \/ p = 18 := by simpa [pn2] using h
theorem of0 {p : Int} (h : p ∈ pl0) : p = 6 \/ p = 7 \/ p = 8 \/ p = 9 \/ p = 10 \/ p = 11 \/ p = 14 \/ p = 15 \/ p = 19 := by simpa [pl0] using h
theorem co2 {p : Int} (h : p ∈ pl2) (x y : List Int) : VbtaaiNeutral.callOf (PyVbtaai.whole [[p], x, y]) = some (c2 p x y) := by rcases of2 h with rfl | rfl | rfl <;> rfl
theorem co1 {p : Int} (h : p ∈ pl1) (x : List Int) : VbtaaiNeutral.callOf (PyVbtaai.whole [[p], x]) = some (c1 p x) := by rcases of1 h with rfl | rfl | rfl <;> rfl
theorem con1 {p : Int} (h : p ∈ pn1) (x : Int) : VbtaaiNeutral.callOf (PyVbtaai.whole [[p, x]]) = some (d1 p x) := by rcases ofn1 h with rfl | rfl | rfl | rfl <;> rfl
theorem con2 {p : Int} (h : p ∈ pn2) (x y : Int) : VbtaaiNeutral.callOf (PyVbtaai.whole [[p, x, y]]) = some (d2 p x y) := by rcases ofn2 h with rfl | rfl <;> rfl
theorem co0 {p : Int} (h : p ∈ pl0) : VbtaaiNeutral.callOf (PyVbtaai.whole [[p]]) = some (d0 p) := by rcases of0 h with rfl | rfl | rfl | rfl | rfl | rfl | rfl | rfl | rfl <;> rfl
theorem no12 {p : Int} (h : p ∈ pl1) : p ∉ pl2 := by rcases of1 h with rfl | rfl | rfl <;> decide
theorem nn12 {p : Int} (h : p ∈ pn1) : p ∉ pl2 /\ p ∉ pl1 := by rcases ofn1 h with rfl | rfl | rfl | rfl <;> decide
theorem nn22 {p : Int} (h : p ∈ pn2) : p ∉ pl2 /\ p ∉ pl1 /\ p ∉ pn1 := by rcases ofn2 h with rfl | rfl <;> decide
theorem nn02 {p : Int} (h : p ∈ pl0) : p ∉ pl2 /\ p ∉ pl1 /\ p ∉ pn1 /\ p ∉ pn2 := by rcases of0 h with rfl | rfl | rfl | rfl | rfl | rfl | rfl | rfl | rfl <;> decide
section
variable {K : W.Frag} {C CG : Addr} {G : Addr -> Prop} {H H' : Hp} {g : Addr} {st : Vbtaai.State}
theorem zj3.keep (h : zj3 C CG G H g st) (e : ∀ q o, G q -> H q = some o -> H' q = some o) : zj3 C CG G H' g st := by
 obtain ⟨F, sp, pa, dx, rfl, A⟩ := h
 exact ⟨F, sp, pa, dx, rfl, A.wf, e _ _ (.inr (.inl rfl)) A.gg, e _ _ (.inr (.inr rfl)) A.gp, A.gs.frame fun q o hq => e q o (.inl hq), A.ng, A.np⟩
theorem zj3.new (h : zj3 C CG G H g st) {q : Addr} (hq : H q = none) : ¬ G q := by
 obtain ⟨F, sp, pa, dx, rfl, A⟩ := h
 exact A.new hq
end
section
variable {P : Program} {w : World} {K : W.Frag} {mg : Str -> Option Value} {base : Heap}
noncomputable def zo21 (K : W.Frag) (C CG CR : Addr) : Sp := fun vs H Q _ => ∃ (g r dx a : Addr) (G : Addr -> Prop) (st : Vbtaai.State) (n : Nat) (ns : List Int) (c : List (List Int)) (t : List Int) (d : Vbtaai.Call), vs = [.ref g, .ref r] /\ zj3 C CG G H g st /\ H r = some (.ins CR dx (rdF a n)) /\ ¬ G r /\ Inp K G H a (vI ns) /\
 PyFlat.call PyVbtaai.shape (ns.drop n) = some (c, t) /\ VbtaaiNeutral.callOf (PyVbtaai.whole c) = some d /\
 ∀ H' G' q m, (∀ x o, H x = some o -> ¬ G x -> x ≠ r -> H' x = some o) -> Grow G H G' -> zj3 C CG G' H' g (Vbtaai.step st d).1 -> H' q = some (.lst (vI (Vbtaai.step st d).2)) -> H' r = some (.ins CR dx (rdF a m)) -> t = ns.drop m -> n < m -> m <= ns.length -> ¬ G' r -> Inp K G' H' a (vI ns) -> (∀ o, H q = some o -> G q \/ q = r) -> Q (.ref q) H'
theorem zf5 : FnScope ["game", "reader", "call", "first_row", "second_row", "first_number", "second_number"] ["game", "reader"] (defScope (top 110)) := by simp_all? only
theorem ze4 (p : Int) (l : List Int) : inV (.int p) (vI l) = decide (p ∈ l) := by
 unfold inV
 rw [List.any_map, Bool.eq_iff_iff, List.any_eq_true, decide_eq_true_eq]
 constructor
 ·rintro ⟨x, hx, h⟩
  have h : (x == p) = true := h
  rw [beq_iff_eq] at h
  rw [<- h]; exact hx
 ·intro h
  refine ⟨p, h, ?_⟩
  show (p == p) = true
  simp
theorem zv4 (l : List Int) : (vI l).all flatV = true := by
 rw [List.all_map]
 exact List.all_eq_true.mpr fun _ _ => rfl
theorem zp21 (T : Txt K mg) : FnOk P w K mg base CX0 12 T.zk9.f T.zk9.fd ["game", "reader"] (zo21 K T.za.C T.zb.C T.ze.C) := by
 have zi3 := @zu9 P w K mg base T
 have zw8 := @zs15 P w K mg base T
 have zt16 := @zv15 P w K mg base T
 have zi25 := @zc23 P w K mg base T
 have zv20 := @zi18 P w K mg base T
 have zm14 := @za14 P w K mg base T
 have zy21 := @zf20 P w K mg base T
 refine T.zk9.F.ok zf5 (fun _ _ _ _ h => ?_) (fun _ _ _ _ H vs Q E hr h => ?_)
 ·obtain ⟨g, r, dx, a, G, st, n, ns, c, t, d, rfl, _⟩ := h
  rfl
 ·obtain ⟨g, r, dx, a, G, st, n, ns, c, t, d, rfl, hG, hr1, nr, hI, hc, hd, k⟩ := h
  refine ⟨_, (pss_cons (ps_set (i := 2) zf5.nd rfl (by simp_all?) (zj1 T.ze.cl T.zt1 zi3 (hr.mono (by decide)) (pv 1)))
   (pss_cons (ps_if (pt_cmpR op_in_seq (pv 2) (pe_tup (pa_cons (zg T.zs26) (pa_cons (zg T.zd25) (pa_cons (zg T.zn31) pa_nil)))) rfl) (pss_cons (ps_set (i := 3) zf5.nd rfl (by simp_all?) (zj1 T.ze.cl T.zk3 zw8 (hr.mono (by decide)) (pv 1)))
   (pss_cons (ps_set (i := 4) zf5.nd rfl (by simp_all?) (zj1 T.ze.cl T.zk3 zw8 (hr.mono (by decide)) (pv 1)))
   (pss_one (ps_ret (zm T.zj6 zt16 (hr.mono (by decide)) (pa_cons (pv 2) (pa_cons (pv 0) (pa_cons (pv 3) (pa_cons (pv 4) pa_nil))))))))) pss_nil)
   (pss_cons (ps_if (pt_cmpR op_in_seq (pv 2) (pe_tup (pa_cons (zg T.zp28) (pa_cons (zg T.c_BAD) (pa_cons (zg T.zg30) pa_nil)))) rfl) (pss_one (ps_ret (zm T.zk10 zi25 (hr.mono (by decide)) (pa_cons (pv 2) (pa_cons (pv 0) (pa_cons (zj1 T.ze.cl T.zk3 zw8 (hr.mono (by decide)) (pv 1)) pa_nil)))))) pss_nil)
   (pss_cons (ps_if (pt_cmpR op_in_seq (pv 2) (pe_tup (pa_cons (zg T.c_ACT) (pa_cons (zg T.zr28) (pa_cons (zg T.ze25) (pa_cons (zg T.zh30) pa_nil))))) rfl) (pss_one (ps_ret (zm T.zv7 zv20 (hr.mono (by decide)) (pa_cons (pv 2) (pa_cons (pv 0) (pa_cons (zj1 T.ze.cl T.zt1 zi3 (hr.mono (by decide)) (pv 1)) pa_nil)))))) pss_nil)
   (pss_cons (ps_if (pt_cmpR op_in_seq (pv 2) (pe_tup (pa_cons (zg T.zl20) (pa_cons (zg T.zq31) pa_nil))) rfl) (pss_cons (ps_set (i := 5) zf5.nd rfl (by simp_all?) (zj1 T.ze.cl T.zt1 zi3 (hr.mono (by decide)) (pv 1)))
   (pss_cons (ps_set (i := 6) zf5.nd rfl (by simp_all?) (zj1 T.ze.cl T.zt1 zi3 (hr.mono (by decide)) (pv 1)))
   (pss_one (ps_ret (zm T.zd5 zm14 (hr.mono (by decide)) (pa_cons (pv 2) (pa_cons (pv 0) (pa_cons (pv 5) (pa_cons (pv 6) pa_nil))))))))) pss_nil)
   (pss_one (ps_ret (zm T.zo8 zy21 (hr.mono (by decide)) (pa_cons (pv 2) (pa_cons (pv 0) pa_nil)))))))))), ?_⟩
  simp only [st_c, st_n, st_z]
  have hz := szL
  have hn : n < ns.length := by
   by_cases hn : n < ns.length
   ·exact hn
   ·rw [List.drop_eq_nil_of_le (by omega)] at hc; cases hc
  rw [zm3 0 hn] at hc
  obtain ⟨n', k', xs, hsh, hle, hrows, hce⟩ := zr22 hc
  rw [List.length_drop] at hle
  have fin : ∀ Hk m, zc r H Hk -> Hk r = some (.ins T.ze.C dx (rdF a m)) -> t = ns.drop m -> n < m -> m <= ns.length -> Post T.za.C T.zb.C G Hk g (Vbtaai.step st d) Q := by
   intro Hk m sb hrk ht h1 h2 H' G' q fr hG' hq hn'
   have none_of : ∀ x, Hk x = none -> H x = none := fun x hx => sb.free hx hrk
   refine k H' G' q m (fun x o hx hG hxr => fr.out x o (sb x o hx hxr) hG) (fun x hx => (fr.grow x hx).elim .inl fun z => .inr (none_of x z)) hG' hq (fr.out r _ hrk nr) ht h1 h2 (fun z => (fr.grow r z).elim nr fun y => by rw [hrk] at y; cases y) ?_ (fun o ho => Classical.byContradiction fun hc => hc (.inl (hn' o (sb q o ho fun z => hc (.inr z)))))
   exact (hI.keep (fun x o hx _ hl => sb x o hx (zp15 hr1 hl)) Grow.refl).fr fr
  have gk : ∀ Hk, zc r H Hk -> zj3 T.za.C T.zb.C G Hk g st := fun Hk sb => hG.keep fun q o hq h => sb q o h fun z => nr (z ▸ hq)
  have ik : ∀ Hk, zc r H Hk -> SqL K Hk a (vI ns) := fun Hk sb => (hI.keep (fun x o hx _ hl => sb x o hx (zp15 hr1 hl)) Grow.refl).sq
  simp? [hr1, zo15]
  refine ⟨r, dx, a, n, ns, rfl, hr1, hI.sq, hn, ?_⟩
  have sb1 : zc r H (upd H r (.ins T.ze.C dx (rdF a (n + 1)))) := (zc.of Same.rfl').self
  have r1 : upd H r (.ins T.ze.C dx (rdF a (n + 1))) r = some (.ins T.ze.C dx (rdF a (n + 1))) := upd_same
  generalize upd H r (.ins T.ze.C dx (rdF a (n + 1))) = H1 at sb1 r1 ⊢
  generalize hp : ns.getD n 0 = p at *
  have f1 : ∀ x, H1 x = none -> H x = none := fun x hx => sb1.free hx r1
  rcases za25 hsh with ⟨hm, rfl, rfl⟩ | ⟨hm, rfl, rfl⟩ | ⟨hm, rfl, rfl⟩ | ⟨hm, rfl, rfl⟩ | ⟨hm, rfl, rfl⟩
  ·obtain ⟨x, s1, ys, hx, hrows1, exs⟩ := zv9 hrows
   obtain ⟨y, s2, zs, hy, hrows2, eys⟩ := zv9 hrows1
   obtain ⟨ezs, ets⟩ := ze5 hrows2
   subst ezs eys exs ets
   subst hce
   rw [List.take_zero, co2 hm] at hd
   cases hd
   simp? [rIn, List.length_cons, List.length_nil]
   refine ⟨by omega, fun t1 ht1 => ⟨_, .inr (SqT.of upd_same), rfl, zv4 pl2, ?_⟩⟩
   rw [show inV (V.int p) [V.int 0, V.int 1, V.int 2] = decide (p ∈ pl2) from ze4 p pl2]
   have sb2 : zc r H (upd H1 t1 (.tup [V.int 0, V.int 1, V.int 2])) := sb1.new (sb1.free ht1 r1)
   have r2 : upd H1 t1 (.tup [V.int 0, V.int 1, V.int 2]) r = some (.ins T.ze.C dx (rdF a (n + 1))) := by rw [upd_ne (ne_of_none r1 ht1)]; exact r1
   generalize upd H1 t1 (.tup [V.int 0, V.int 1, V.int 2]) = H2 at sb2 r2 ⊢
   rw [decide_eq_true hm]
   simp only [if_true]
   simp? [r2, zz24]
   refine ⟨r, dx, a, n + 1, ns, x, s1, rfl, r2, ik _ sb2, hx, fun p1 m1 hp1 hsm1 ltm1 lem1 => ?_⟩
   have p1r : p1 ≠ r := (ne_of_none r2 hp1).symm
   have sbp1 : zc r H (upd (upd H2 p1 (.lst (vI x))) r (.ins T.ze.C dx (rdF a m1))) := (sb2.new (sb2.free hp1 r2)).self
   have rp1 : upd (upd H2 p1 (.lst (vI x))) r (.ins T.ze.C dx (rdF a m1)) r = some (.ins T.ze.C dx (rdF a m1)) := upd_same
   have ep1 : upd (upd H2 p1 (.lst (vI x))) r (.ins T.ze.C dx (rdF a m1)) p1 = some (.lst (vI x)) := by rw [upd_ne p1r, upd_same]
   have np1 : ¬ G p1 := (gk _ sb2).new hp1
   generalize hHp1 : upd (upd H2 p1 (.lst (vI x))) r (.ins T.ze.C dx (rdF a m1)) = Hp1 at sbp1 rp1 ep1 ⊢
   simp? [rp1, zz24]
   refine ⟨r, dx, a, m1, ns, y, t, rfl, rp1, ik _ sbp1, (hsm1 ▸ hy), fun p2 m2 hp2 hsm2 ltm2 lem2 => ?_⟩
   have p2r : p2 ≠ r := (ne_of_none rp1 hp2).symm
   have sbp2 : zc r H (upd (upd Hp1 p2 (.lst (vI y))) r (.ins T.ze.C dx (rdF a m2))) := (sbp1.new (sbp1.free hp2 rp1)).self
   have rp2 : upd (upd Hp1 p2 (.lst (vI y))) r (.ins T.ze.C dx (rdF a m2)) r = some (.ins T.ze.C dx (rdF a m2)) := upd_same
   have ep2 : upd (upd Hp1 p2 (.lst (vI y))) r (.ins T.ze.C dx (rdF a m2)) p2 = some (.lst (vI y)) := by rw [upd_ne p2r, upd_same]
   have np2 : ¬ G p2 := (gk _ sbp1).new hp2
   generalize hHp2 : upd (upd Hp1 p2 (.lst (vI y))) r (.ins T.ze.C dx (rdF a m2)) = Hp2 at sbp2 rp2 ep2 ⊢
   have e1 : Hp2 p1 = some (.lst (vI x)) := by rw [<- hHp2, upd_ne p1r, upd_ne (ne_of_none ep1 hp2)]; exact ep1
   exact ⟨p, g, p1, p2, G, st, x, y, rfl, of2 hm, gk _ sbp2, e1, ep2, np1, np2, fin _ m2 sbp2 rp2 hsm2 (by omega) lem2⟩
  ·obtain ⟨x, s1, ys, hx, hrows1, exs⟩ := zv9 hrows
   obtain ⟨eys, ets⟩ := ze5 hrows1
   subst eys exs ets
   subst hce
   rw [List.take_zero, co1 hm] at hd
   cases hd
   simp? [rIn, List.length_cons, List.length_nil]
   refine ⟨by omega, fun t1 ht1 => ⟨_, .inr (SqT.of upd_same), rfl, zv4 pl2, ?_⟩⟩
   rw [show inV (V.int p) [V.int 0, V.int 1, V.int 2] = decide (p ∈ pl2) from ze4 p pl2]
   have sb2 : zc r H (upd H1 t1 (.tup [V.int 0, V.int 1, V.int 2])) := sb1.new (sb1.free ht1 r1)
   have r2 : upd H1 t1 (.tup [V.int 0, V.int 1, V.int 2]) r = some (.ins T.ze.C dx (rdF a (n + 1))) := by rw [upd_ne (ne_of_none r1 ht1)]; exact r1
   generalize upd H1 t1 (.tup [V.int 0, V.int 1, V.int 2]) = H2 at sb2 r2 ⊢
   rw [decide_eq_false (no12 hm)]
   simp only [Bool.false_eq_true, if_false]
   simp? [rIn, List.length_cons, List.length_nil]
   refine ⟨by omega, fun t2 ht2 => ⟨_, .inr (SqT.of upd_same), rfl, zv4 pl1, ?_⟩⟩
   rw [show inV (V.int p) [V.int 3, V.int 4, V.int 16] = decide (p ∈ pl1) from ze4 p pl1]
   have sb3 : zc r H (upd H2 t2 (.tup [V.int 3, V.int 4, V.int 16])) := sb2.new (sb2.free ht2 r2)
   have r3 : upd H2 t2 (.tup [V.int 3, V.int 4, V.int 16]) r = some (.ins T.ze.C dx (rdF a (n + 1))) := by rw [upd_ne (ne_of_none r2 ht2)]; exact r2
   generalize upd H2 t2 (.tup [V.int 3, V.int 4, V.int 16]) = H3 at sb3 r3 ⊢
   rw [decide_eq_true hm]
   simp only [if_true]
   simp? [r3, zz24]
   refine ⟨r, dx, a, n + 1, ns, x, t, rfl, r3, ik _ sb3, hx, fun p1 m1 hp1 hsm1 ltm1 lem1 => ?_⟩
   have p1r : p1 ≠ r := (ne_of_none r3 hp1).symm
   have sbp1 : zc r H (upd (upd H3 p1 (.lst (vI x))) r (.ins T.ze.C dx (rdF a m1))) := (sb3.new (sb3.free hp1 r3)).self
   have rp1 : upd (upd H3 p1 (.lst (vI x))) r (.ins T.ze.C dx (rdF a m1)) r = some (.ins T.ze.C dx (rdF a m1)) := upd_same
   have ep1 : upd (upd H3 p1 (.lst (vI x))) r (.ins T.ze.C dx (rdF a m1)) p1 = some (.lst (vI x)) := by rw [upd_ne p1r, upd_same]
   have np1 : ¬ G p1 := (gk _ sb3).new hp1
   generalize hHp1 : upd (upd H3 p1 (.lst (vI x))) r (.ins T.ze.C dx (rdF a m1)) = Hp1 at sbp1 rp1 ep1 ⊢
   exact ⟨p, g, p1, G, st, x, rfl, of1 hm, gk _ sbp1, ep1, np1, fin _ m1 sbp1 rp1 hsm1 (by omega) lem1⟩
  ·obtain ⟨rfl, ht⟩ := ze5 hrows
   subst hce
   have hn1 : n + 1 < ns.length := by omega
   have et : (ns.drop (n + 1)).take 1 = [ns.getD (n + 1) 0] := by rw [zm3 0 hn1]; rfl
   rw [et, con1 hm] at hd
   cases hd
   rw [List.drop_drop] at ht
   simp? [rIn, List.length_cons, List.length_nil]
   refine ⟨by omega, fun t1 ht1 => ⟨_, .inr (SqT.of upd_same), rfl, zv4 pl2, ?_⟩⟩
   rw [show inV (V.int p) [V.int 0, V.int 1, V.int 2] = decide (p ∈ pl2) from ze4 p pl2]
   have sb2 : zc r H (upd H1 t1 (.tup [V.int 0, V.int 1, V.int 2])) := sb1.new (sb1.free ht1 r1)
   have r2 : upd H1 t1 (.tup [V.int 0, V.int 1, V.int 2]) r = some (.ins T.ze.C dx (rdF a (n + 1))) := by rw [upd_ne (ne_of_none r1 ht1)]; exact r1
   generalize upd H1 t1 (.tup [V.int 0, V.int 1, V.int 2]) = H2 at sb2 r2 ⊢
   rw [decide_eq_false (nn12 hm).1]
   simp only [Bool.false_eq_true, if_false]
   simp? [rIn, List.length_cons, List.length_nil]
   refine ⟨by omega, fun t2 ht2 => ⟨_, .inr (SqT.of upd_same), rfl, zv4 pl1, ?_⟩⟩
   rw [show inV (V.int p) [V.int 3, V.int 4, V.int 16] = decide (p ∈ pl1) from ze4 p pl1]
   have sb3 : zc r H (upd H2 t2 (.tup [V.int 3, V.int 4, V.int 16])) := sb2.new (sb2.free ht2 r2)
   have r3 : upd H2 t2 (.tup [V.int 3, V.int 4, V.int 16]) r = some (.ins T.ze.C dx (rdF a (n + 1))) := by rw [upd_ne (ne_of_none r2 ht2)]; exact r2
   generalize upd H2 t2 (.tup [V.int 3, V.int 4, V.int 16]) = H3 at sb3 r3 ⊢
   rw [decide_eq_false (nn12 hm).2]
   simp only [Bool.false_eq_true, if_false]
   simp? [rIn, List.length_cons, List.length_nil]
   refine ⟨by omega, fun t3 ht3 => ⟨_, .inr (SqT.of upd_same), rfl, zv4 pn1, ?_⟩⟩
   rw [show inV (V.int p) [V.int 5, V.int 12, V.int 13, V.int 20] = decide (p ∈ pn1) from ze4 p pn1]
   have sb4 : zc r H (upd H3 t3 (.tup [V.int 5, V.int 12, V.int 13, V.int 20])) := sb3.new (sb3.free ht3 r3)
   have r4 : upd H3 t3 (.tup [V.int 5, V.int 12, V.int 13, V.int 20]) r = some (.ins T.ze.C dx (rdF a (n + 1))) := by rw [upd_ne (ne_of_none r3 ht3)]; exact r3
   generalize upd H3 t3 (.tup [V.int 5, V.int 12, V.int 13, V.int 20]) = H4 at sb4 r4 ⊢
   rw [decide_eq_true hm]
   simp only [if_true]
   simp? [r4, zo15]
   refine ⟨r, dx, a, n + 1, ns, rfl, r4, ik _ sb4, by omega, ?_⟩
   have sb5 : zc r H (upd H4 r (.ins T.ze.C dx (rdF a (n + 1 + 1)))) := sb4.self
   have r5 : upd H4 r (.ins T.ze.C dx (rdF a (n + 1 + 1))) r = some (.ins T.ze.C dx (rdF a (n + 1 + 1))) := upd_same
   generalize upd H4 r (.ins T.ze.C dx (rdF a (n + 1 + 1))) = H5 at sb5 r5 ⊢
   exact ⟨p, g, _, G, st, rfl, ofn1 hm, gk _ sb5, fin _ (n + 1 + 1) sb5 r5 ht (by omega) (by omega)⟩
  ·obtain ⟨rfl, ht⟩ := ze5 hrows
   subst hce
   have hn1 : n + 1 < ns.length := by omega
   have hn2 : n + 1 + 1 < ns.length := by omega
   have et : (ns.drop (n + 1)).take 2 = [ns.getD (n + 1) 0, ns.getD (n + 1 + 1) 0] := by rw [zm3 0 hn1, zm3 0 hn2]; rfl
   rw [et, con2 hm] at hd
   cases hd
   rw [List.drop_drop] at ht
   simp? [rIn, List.length_cons, List.length_nil]
   refine ⟨by omega, fun t1 ht1 => ⟨_, .inr (SqT.of upd_same), rfl, zv4 pl2, ?_⟩⟩
   rw [show inV (V.int p) [V.int 0, V.int 1, V.int 2] = decide (p ∈ pl2) from ze4 p pl2]
   have sb2 : zc r H (upd H1 t1 (.tup [V.int 0, V.int 1, V.int 2])) := sb1.new (sb1.free ht1 r1)
   have r2 : upd H1 t1 (.tup [V.int 0, V.int 1, V.int 2]) r = some (.ins T.ze.C dx (rdF a (n + 1))) := by rw [upd_ne (ne_of_none r1 ht1)]; exact r1
   generalize upd H1 t1 (.tup [V.int 0, V.int 1, V.int 2]) = H2 at sb2 r2 ⊢
   rw [decide_eq_false (nn22 hm).1]
   simp only [Bool.false_eq_true, if_false]
   simp? [rIn, List.length_cons, List.length_nil]
   refine ⟨by omega, fun t2 ht2 => ⟨_, .inr (SqT.of upd_same), rfl, zv4 pl1, ?_⟩⟩
   rw [show inV (V.int p) [V.int 3, V.int 4, V.int 16] = decide (p ∈ pl1) from ze4 p pl1]
   have sb3 : zc r H (upd H2 t2 (.tup [V.int 3, V.int 4, V.int 16])) := sb2.new (sb2.free ht2 r2)
   have r3 : upd H2 t2 (.tup [V.int 3, V.int 4, V.int 16]) r = some (.ins T.ze.C dx (rdF a (n + 1))) := by rw [upd_ne (ne_of_none r2 ht2)]; exact r2
   generalize upd H2 t2 (.tup [V.int 3, V.int 4, V.int 16]) = H3 at sb3 r3 ⊢
   rw [decide_eq_false (nn22 hm).2.1]
   simp only [Bool.false_eq_true, if_false]
   simp? [rIn, List.length_cons, List.length_nil]
   refine ⟨by omega, fun t3 ht3 => ⟨_, .inr (SqT.of upd_same), rfl, zv4 pn1, ?_⟩⟩
   rw [show inV (V.int p) [V.int 5, V.int 12, V.int 13, V.int 20] = decide (p ∈ pn1) from ze4 p pn1]
   have sb4 : zc r H (upd H3 t3 (.tup [V.int 5, V.int 12, V.int 13, V.int 20])) := sb3.new (sb3.free ht3 r3)
   have r4 : upd H3 t3 (.tup [V.int 5, V.int 12, V.int 13, V.int 20]) r = some (.ins T.ze.C dx (rdF a (n + 1))) := by rw [upd_ne (ne_of_none r3 ht3)]; exact r3
   generalize upd H3 t3 (.tup [V.int 5, V.int 12, V.int 13, V.int 20]) = H4 at sb4 r4 ⊢
   rw [decide_eq_false (nn22 hm).2.2]
   simp only [Bool.false_eq_true, if_false]
   simp? [rIn, List.length_cons, List.length_nil]
   refine ⟨by omega, fun t4 ht4 => ⟨_, .inr (SqT.of upd_same), rfl, zv4 pn2, ?_⟩⟩
   rw [show inV (V.int p) [V.int 17, V.int 18] = decide (p ∈ pn2) from ze4 p pn2]
   have sb5 : zc r H (upd H4 t4 (.tup [V.int 17, V.int 18])) := sb4.new (sb4.free ht4 r4)
   have r5 : upd H4 t4 (.tup [V.int 17, V.int 18]) r = some (.ins T.ze.C dx (rdF a (n + 1))) := by rw [upd_ne (ne_of_none r4 ht4)]; exact r4
   generalize upd H4 t4 (.tup [V.int 17, V.int 18]) = H5 at sb5 r5 ⊢
   rw [decide_eq_true hm]
   simp only [if_true]
   simp? [r5, zo15]
   refine ⟨r, dx, a, n + 1, ns, rfl, r5, ik _ sb5, by omega, ?_⟩
   have sb6 : zc r H (upd H5 r (.ins T.ze.C dx (rdF a (n + 1 + 1)))) := sb5.self
   have r6 : upd H5 r (.ins T.ze.C dx (rdF a (n + 1 + 1))) r = some (.ins T.ze.C dx (rdF a (n + 1 + 1))) := upd_same
   generalize upd H5 r (.ins T.ze.C dx (rdF a (n + 1 + 1))) = H6 at sb6 r6 ⊢
   simp? [r6, zo15]
   refine ⟨r, dx, a, n + 1 + 1, ns, rfl, r6, ik _ sb6, by omega, ?_⟩
   have sb7 : zc r H (upd H6 r (.ins T.ze.C dx (rdF a (n + 1 + 1 + 1)))) := sb6.self
   have r7 : upd H6 r (.ins T.ze.C dx (rdF a (n + 1 + 1 + 1))) r = some (.ins T.ze.C dx (rdF a (n + 1 + 1 + 1))) := upd_same
   generalize upd H6 r (.ins T.ze.C dx (rdF a (n + 1 + 1 + 1))) = H7 at sb7 r7 ⊢
   exact ⟨p, g, _, _, G, st, rfl, ofn2 hm, gk _ sb7, fin _ (n + 1 + 1 + 1) sb7 r7 ht (by omega) (by omega)⟩
  ·obtain ⟨rfl, ht⟩ := ze5 hrows
   subst hce
   rw [List.take_zero, co0 hm] at hd
   cases hd
   rw [List.drop_drop] at ht
   simp? [rIn, List.length_cons, List.length_nil]
   refine ⟨by omega, fun t1 ht1 => ⟨_, .inr (SqT.of upd_same), rfl, zv4 pl2, ?_⟩⟩
   rw [show inV (V.int p) [V.int 0, V.int 1, V.int 2] = decide (p ∈ pl2) from ze4 p pl2]
   have sb2 : zc r H (upd H1 t1 (.tup [V.int 0, V.int 1, V.int 2])) := sb1.new (sb1.free ht1 r1)
   have r2 : upd H1 t1 (.tup [V.int 0, V.int 1, V.int 2]) r = some (.ins T.ze.C dx (rdF a (n + 1))) := by rw [upd_ne (ne_of_none r1 ht1)]; exact r1
   generalize upd H1 t1 (.tup [V.int 0, V.int 1, V.int 2]) = H2 at sb2 r2 ⊢
   rw [decide_eq_false (nn02 hm).1]
   simp only [Bool.false_eq_true, if_false]
   simp? [rIn, List.length_cons, List.length_nil]
   refine ⟨by omega, fun t2 ht2 => ⟨_, .inr (SqT.of upd_same), rfl, zv4 pl1, ?_⟩⟩
   rw [show inV (V.int p) [V.int 3, V.int 4, V.int 16] = decide (p ∈ pl1) from ze4 p pl1]
   have sb3 : zc r H (upd H2 t2 (.tup [V.int 3, V.int 4, V.int 16])) := sb2.new (sb2.free ht2 r2)
   have r3 : upd H2 t2 (.tup [V.int 3, V.int 4, V.int 16]) r = some (.ins T.ze.C dx (rdF a (n + 1))) := by rw [upd_ne (ne_of_none r2 ht2)]; exact r2
   generalize upd H2 t2 (.tup [V.int 3, V.int 4, V.int 16]) = H3 at sb3 r3 ⊢
   rw [decide_eq_false (nn02 hm).2.1]
   simp only [Bool.false_eq_true, if_false]
   simp? [rIn, List.length_cons, List.length_nil]
   refine ⟨by omega, fun t3 ht3 => ⟨_, .inr (SqT.of upd_same), rfl, zv4 pn1, ?_⟩⟩
   rw [show inV (V.int p) [V.int 5, V.int 12, V.int 13, V.int 20] = decide (p ∈ pn1) from ze4 p pn1]
   have sb4 : zc r H (upd H3 t3 (.tup [V.int 5, V.int 12, V.int 13, V.int 20])) := sb3.new (sb3.free ht3 r3)
   have r4 : upd H3 t3 (.tup [V.int 5, V.int 12, V.int 13, V.int 20]) r = some (.ins T.ze.C dx (rdF a (n + 1))) := by rw [upd_ne (ne_of_none r3 ht3)]; exact r3
   generalize upd H3 t3 (.tup [V.int 5, V.int 12, V.int 13, V.int 20]) = H4 at sb4 r4 ⊢
   rw [decide_eq_false (nn02 hm).2.2.1]
   simp only [Bool.false_eq_true, if_false]
   simp? [rIn, List.length_cons, List.length_nil]
   refine ⟨by omega, fun t4 ht4 => ⟨_, .inr (SqT.of upd_same), rfl, zv4 pn2, ?_⟩⟩
   rw [show inV (V.int p) [V.int 17, V.int 18] = decide (p ∈ pn2) from ze4 p pn2]
   have sb5 : zc r H (upd H4 t4 (.tup [V.int 17, V.int 18])) := sb4.new (sb4.free ht4 r4)
   have r5 : upd H4 t4 (.tup [V.int 17, V.int 18]) r = some (.ins T.ze.C dx (rdF a (n + 1))) := by rw [upd_ne (ne_of_none r4 ht4)]; exact r4
   generalize upd H4 t4 (.tup [V.int 17, V.int 18]) = H5 at sb5 r5 ⊢
   rw [decide_eq_false (nn02 hm).2.2.2]
   simp only [Bool.false_eq_true, if_false]
   simp? []
   exact ⟨p, g, G, st, rfl, of0 hm, gk _ sb5, fin _ (n + 1) sb5 r5 ht (by omega) (by omega)⟩
end
section
open Vbtaai
variable {st : State}
theorem zh1 {s : State} {l : List (Int × Bool)} {k : Unit -> State × List Int} {B : Nat} (hB : 1 <= B) (hk : (k ()).2.length <= B) : (guarded s l k).2.length <= B := by
 unfold guarded
 split
 ·exact hB
 ·exact hk
theorem zs12 {s : Story} {l : List Nat} (h : l.length <= 8) : (0 :: look s l).length <= 1100 := by
 unfold look Vbtaai.ints
 simp
 omega
theorem zc29 (W : WfS st.story) (G : WfG st) (c : Call) : (step st c).2.length <= 1100 := by
 have wl := W.len
 have wc := W.cnt
 have wn := W.na
 have fl : ∀ {l : List Nat}, Fits st.story.sizes l -> l.length <= 8 := fun h => by rw [zw7 h]; exact wl
 cases c with
 | story z f => exact zh1 (by decide) (by show 2 <= 1100; decide)
 | action c e => exact zh1 (by decide) (by show 2 <= 1100; decide)
 | turn c e => exact zh1 (by decide) (by show 2 <= 1100; decide)
 | good c => exact zh1 (by decide) (by show 2 <= 1100; decide)
 | bad c => exact zh1 (by decide) (by show 2 <= 1100; decide)
 | act a =>
  refine zh1 (by decide) ?_
  try dsimp only
  split
  ·split
   ·rename_i l hd
    exact zs12 (fl (zz21 W.pos G.now hd))
   ·simp
  ·simp
 | restart => exact zh1 (by decide) (zs12 (fl W.fst))
 | undo =>
  refine zh1 (by decide) ?_
  try dsimp only
  split
  ·rename_i l r hp
   exact zs12 (fl (G.past l (by rw [hp]; simp)))
  ·simp
 | now => exact zh1 (by decide) (zs12 (fl G.now))
 | can =>
  refine zh1 (by decide) ?_
  have := zb7 st.story (here st)
  rw [zf9]
  simp [Vbtaai.ints]
  omega
 | hint =>
  refine zh1 (by decide) ?_
  try dsimp only
  split <;> simp
 | way =>
  refine zh1 (by decide) ?_
  have := zj21 (s := st.story) (w := winning st.story nobody) (count st.story) (here st)
  simp [Vbtaai.ints]
  omega
 | rank n => exact zh1 (by decide) (by show 2 <= 1100; decide)
 | choice a =>
  refine zh1 (by decide) ?_
  try dsimp only
  split
  ·show 6 <= 1100; decide
  ·simp
 | survey => exact zh1 (by decide) (by show 6 <= 1100; decide)
 | ranks =>
  refine zh1 (by decide) ?_
  have := zl3 st.story
  simp [Vbtaai.ints]
  omega
 | check t => exact zh1 (by decide) (by show 2 <= 1100; decide)
 | distance n m => exact zh1 (by decide) (by show 2 <= 1100; decide)
 | must v x => exact zh1 (by decide) (by show 2 <= 1100; decide)
 | ways => exact zh1 (by decide) (by show 2 <= 1100; decide)
 | state n =>
  refine zh1 (by decide) (zs12 (fl (zq3 _ W.pos)))
end
theorem zd30 {l : List Int} {c : List (List Int)} {t : List Int} (h : PyFlat.call PyVbtaai.shape l = some (c, t)) : ∃ d, VbtaaiNeutral.callOf (PyVbtaai.whole c) = some d := by
 cases l with
 | nil => cases h
 | cons p rest =>
  obtain ⟨n', k', xs, hsh, hle, hrows, hce⟩ := zr22 h
  rcases za25 hsh with ⟨hm, rfl, rfl⟩ | ⟨hm, rfl, rfl⟩ | ⟨hm, rfl, rfl⟩ | ⟨hm, rfl, rfl⟩ | ⟨hm, rfl, rfl⟩
  ·obtain ⟨x, s1, ys, hx, hrows1, exs⟩ := zv9 hrows
   obtain ⟨y, s2, zs, hy, hrows2, eys⟩ := zv9 hrows1
   obtain ⟨ezs, ets⟩ := ze5 hrows2
   subst ezs eys exs ets hce
   exact ⟨_, co2 hm x y⟩
  ·obtain ⟨x, s1, ys, hx, hrows1, exs⟩ := zv9 hrows
   obtain ⟨eys, ets⟩ := ze5 hrows1
   subst eys exs ets hce
   exact ⟨_, co1 hm x⟩
  ·obtain ⟨exs, ht⟩ := ze5 hrows
   subst exs hce
   match rest, hle with
   | z :: r, _ => exact ⟨_, con1 hm z⟩
  ·obtain ⟨exs, ht⟩ := ze5 hrows
   subst exs hce
   match rest, hle with
   | z :: y :: r, _ => exact ⟨_, con2 hm z y⟩
  ·obtain ⟨exs, ht⟩ := ze5 hrows
   subst exs hce
   exact ⟨_, co0 hm⟩
theorem zk27 {f : Nat} {l : List Int} {cs : List (List (List Int))} (hl : l ≠ []) (h : PyFlat.calls PyVbtaai.shape f l = some cs) : ∃ f' c t cs', PyFlat.call PyVbtaai.shape l = some (c, t) /\ PyFlat.calls PyVbtaai.shape f' t = some cs' /\ cs = c :: cs' := by
 cases l with
 | nil => exact absurd rfl hl
 | cons p r =>
  cases f with
  | zero => cases h
  | succ f =>
   unfold PyFlat.calls at h
   cases hc : PyFlat.call PyVbtaai.shape (p :: r) with
   | none => rw [hc] at h; cases h
   | some y =>
    obtain ⟨c, t⟩ := y
    rw [hc] at h
    dsimp only at h
    cases hq : PyFlat.calls PyVbtaai.shape f t with
    | none => rw [hq] at h; cases h
    | some cs' =>
     rw [hq] at h
     dsimp only at h
     cases h
     exact ⟨f, c, t, cs', rfl, hq, rfl⟩
section
variable {P : Program} {w : World} {K : W.Frag} {mg : Str -> Option Value} {base : Heap}
noncomputable def zg20 (K : W.Frag) : Sp := fun vs H Q _ => ∃ (a : Addr) (ns : List Int), vs = [.ref a] /\ SqL K H a (ns.map V.int) /\ ns.length <= 17000 /\ PyVbtaai.answers_asked ns = true /\ ∀ (H' : Hp) (p : Addr), H' p = some (.lst ((PyVbtaai.answers ns).map V.int)) -> Q (.ref p) H'
theorem zh10 : FnScope ["calls", "game", "reader", "answered", "answer"] ["calls"] (defScope (top 111)) := by simp_all? only
theorem zl27 (T : Txt K mg) : FnOk P w K mg base CX0 20 T.zw9.f T.zw9.fd ["calls"] (zg20 K) := by
 have zw20 := @zd18 P w K mg base T
 have zu16 := @zr15 P w K mg base T
 have zx20 := @zf18 P w K mg base T
 have zk23 := @zp21 P w K mg base T
 refine T.zw9.F.ok zh10 (fun _ _ _ _ h => ?_) (fun _ _ _ _ H vs Q E hr h => ?_)
 ·obtain ⟨a, ns, rfl, _⟩ := h
  rfl
 ·obtain ⟨a, ns, rfl, hs, hlen, hask, k⟩ := h
  obtain ⟨cs, hcs, h200⟩ : ∃ cs, PyFlat.calls PyVbtaai.shape ns.length ns = some cs /\ cs.length <= 200 := by
   unfold PyVbtaai.answers_asked PyVbtaai.calls at hask
   cases hc : PyFlat.calls PyVbtaai.shape ns.length ns with
   | none => rw [hc] at hask; cases hask
   | some cs =>
    rw [hc] at hask
    dsimp only at hask
    rw [Bool.and_eq_true] at hask
    refine ⟨cs, rfl, ?_⟩
    have h1 := hask.1
    unfold PyFlat.atMost at h1
    rw [decide_eq_true_eq, List.length_map] at h1
    exact h1
  have hans : PyVbtaai.answers ns = PyFlat.told (PyFlat.played VbtaaiNeutral.step Vbtaai.start (cs.map PyVbtaai.whole)) := by
   unfold PyVbtaai.answers PyVbtaai.calls
   rw [hcs]
   rfl
  refine ⟨_, (pss_cons (ps_set (i := 1) zh10.nd rfl (by simp_all?) (zc30 T.zb.g T.zb.makes T.zb.kp T.za6 zw20 (hr.mono (by decide))))
   (pss_cons (ps_set (i := 2) zh10.nd rfl (by simp_all?) (zx24 T.ze.g T.ze.makes T.ze.kp T.zb5 zu16 (hr.mono (by decide)) (pa_cons (pv 0) pa_nil)))
   (pss_cons (ps_set (i := 3) zh10.nd rfl (by simp_all?) (pe_lst pa_nil))
   (pss_cons (ps_while PassesOwn.never (pt_not (pt_val (zj1 T.ze.cl T.ze6 zx20 (hr.mono (by decide)) (pv 2))))
   (pss_cons (ps_set (i := 4) zh10.nd rfl (by simp_all?) (zm T.zk9 zk23 (hr.mono (by decide)) (pa_cons (pv 1) (pa_cons (pv 2) pa_nil))))
   (pss_cons (ps_expr (zg12 (pv 3) (pln T.len (pv 4))))
   (pss_one (ps_expr (zl30 (pv 3) (pv 4)))))))
   (pss_one (ps_ret (pv 3))))))), ?_⟩
  simp only [st_c, st_n, st_z]
  have hz := szL
  simp? []
  intro g dx ng ndx nex
  have keepG : ∀ q o, H q = some o -> upd (upd H dx (.own g)) g (.ins T.zb.C dx []) q = some o := fun q o h => by rw [upd_ne (ne_of_none h ng), upd_ne (ne_of_none h ndx)]; exact h
  refine ⟨g, dx, rfl, upd_same, fun H1 G1 sb1 gr1 hG1 => ⟨rfl, ?_⟩⟩
  have keep1 : ∀ q o, H q = some o -> H1 q = some o := fun q o h => sb1 q o (keepG q o h) (ne_of_none h ng)
  have hI1 : Inp K G1 H1 a (vI ns) := by
   rcases hs with h | h
   ·have hne : ∃ o, H a = some o := by rcases h with h | ⟨o, h⟩ <;> exact ⟨_, h⟩
    obtain ⟨o, ho⟩ := hne
    refine .inl ⟨?_, fun z => (gr1 a z).elim (ne_of_none ho ng) fun y => by rw [keepG a o ho] at y; cases y⟩
    rcases h with h | ⟨o, h⟩
    ·exact .inl (keep1 a _ h)
    ·exact .inr ⟨o, keep1 a _ h⟩
   ·exact .inr h
  simp? []
  intro r dr nr ndr nrx
  refine ⟨r, dr, a, rfl, upd_same, rfl, ?_⟩
  simp? [List.length_nil, Nat.zero_le]
  intro an nan
  generalize hH2 : upd (upd (upd H1 dr (.own r)) r (.ins T.ze.C dr [])) r (.ins T.ze.C dr (rdF a 0)) = H2 at nan ⊢
  have keep2 : ∀ q o, H1 q = some o -> H2 q = some o := fun q o h => by rw [<- hH2, upd_ne (ne_of_none h nr), upd_ne (ne_of_none h nr), upd_ne (ne_of_none h ndr)]; exact h
  have r2 : H2 r = some (.ins T.ze.C dr (rdF a 0)) := by rw [<- hH2]; exact upd_same
  have nG1r : ¬ G1 r := hG1.new nr
  have hG2 : zj3 T.za.C T.zb.C G1 H2 g Vbtaai.start := hG1.keep fun q o _ h => keep2 q o h
  have nG1an : ¬ G1 an := hG2.new nan
  have hI2 : Inp K G1 H2 a (vI ns) := hI1.keep (fun q o h _ _ => keep2 q o h) Grow.refl
  have anr : r ≠ an := ne_of_none r2 nan
  refine zf24 (fun m σ H' => ∃ (G : Addr -> Prop) (st : Vbtaai.State) (n kd : Nat) (cs : List (List (List Int))) (done : List Int) (av : Option V) (f : Nat), σ = [some (.ref a), some (.ref g), some (.ref r), some (.ref an), av] /\ zj3 T.za.C T.zb.C G H' g st /\ H' r = some (.ins T.ze.C dr (rdF a n)) /\ ¬ G r /\ Inp K (fun q => G q \/ q = an) H' a (vI ns) /\
    H' an = some (.lst (vI done)) /\ ¬ G an /\ n <= ns.length /\ m = ns.length - n /\ PyFlat.calls PyVbtaai.shape f (ns.drop n) = some cs /\ cs.length + kd <= 200 /\ done.length <= 1101 * kd /\
    done ++ PyFlat.told (PyFlat.played VbtaaiNeutral.step st (cs.map PyVbtaai.whole)) = PyVbtaai.answers ns) (ns.length - 0)
   ⟨G1, Vbtaai.start, 0, 0, cs, [], none, ns.length, rfl, hG2.keep (fun q o _ h => by rw [upd_ne (ne_of_none h nan)]; exact h), by rw [upd_ne anr]; exact r2, nG1r, hI2.keep (fun q o h _ _ => by rw [upd_ne (ne_of_none h nan)]; exact h) (fun q hq => hq.elim .inl fun z => .inr (by rw [z]; exact nan)), by rw [upd_same]; rfl, nG1an, by omega, rfl, hcs, by omega, by simp, by rw [hans]; rfl⟩ ?_
  clear hcs h200 hans
  rintro W1 hW1 m σ H' ⟨G, st, n, kd, cs, done, av, f, rfl, hG, hr', nG, hI, han, nan', hn, rfl, hcs, h200, hdl, e⟩
  simp? [hr', zh31]
  refine ⟨r, dr, a, n, ns, rfl, hr', hI.sq, ?_⟩
  simp? []
  by_cases hend : ns.length <= n
  ·simp? [hend]
   have hnil : ns.drop n = [] := List.drop_eq_nil_of_le hend
   rw [hnil] at hcs
   have ecs : cs = [] := by
    unfold PyFlat.calls at hcs
    cases hcs
    rfl
   subst ecs
   have e0 : done = PyVbtaai.answers ns := by
    have : PyFlat.told (PyFlat.played VbtaaiNeutral.step st (([] : List (List (List Int))).map PyVbtaai.whole)) = [] := rfl
    rw [this, List.append_nil] at e
    exact e
   rw [e0] at han
   exact k H' an han
  ·have hlt : n < ns.length := by omega
   simp? [hend]
   refine ⟨fun σ' H'' => ∃ m', m' < ns.length - n /\ W1 m' σ' H'', fun _ _ h => h, ?_⟩
   obtain ⟨f', c, t, cs', hcall, hcs', ecs⟩ := zk27 (fun z => by have := congrArg List.length z; simp at this; omega) hcs
   subst ecs
   obtain ⟨d, hd⟩ := zd30 hcall
   have hIG : Inp K G H' a (vI ns) := hI.elim (fun z => .inl ⟨z.1, fun y => z.2 (.inl y)⟩) .inr
   have hstep : VbtaaiNeutral.step st (PyVbtaai.whole c) = Vbtaai.step st d := by unfold VbtaaiNeutral.step; rw [hd]
   have hlenA : (Vbtaai.step st d).2.length <= 1100 := by
    obtain ⟨F, sp, pa, dxx, rfl, A⟩ := hG
    exact zc29 A.gs.wf A.wf d
   have etold : PyFlat.told (PyFlat.played VbtaaiNeutral.step st ((c :: cs').map PyVbtaai.whole)) = (((Vbtaai.step st d).2.length : Int) :: (Vbtaai.step st d).2) ++ PyFlat.told (PyFlat.played VbtaaiNeutral.step (Vbtaai.step st d).1 (cs'.map PyVbtaai.whole)) := by
    rw [<- hstep]
    rfl
   rw [etold] at e
   simp? []
   refine ⟨g, r, dr, a, G, st, n, ns, c, t, d, rfl, hG, hr', nG, hIG, hcall, hd, fun H2 G2 q m out gr hG2 hq hr2 ht hm1 hm2 nG2 hI2 hfresh => ?_⟩
   have anr' : an ≠ r := fun z => by rw [z, hr'] at han; cases han
   have han2 := out an _ han nan' anr'
   have nan2 : ¬ G2 an := fun z => (gr an z).elim nan' fun y => by rw [han] at y; cases y
   have qan : q ≠ an := fun z => by
    subst z
    rcases hfresh _ han with z | z
    ·exact nan' z
    ·exact anr' z
   simp only [List.length_cons] at h200
   have b1 : done.length < sizeLine := by omega
   have b2 : done.length + 1 + (Vbtaai.step st d).2.length <= sizeLine := by omega
   simp? [han2, hq, List.length_map]
   refine ⟨b1, ?_⟩
   simp? [upd_same, upd_ne qan, hq, List.length_append, List.length_cons, List.length_nil, List.length_map]
   refine ⟨by omega, ?_⟩
   generalize hH3 : upd (upd H2 an _) an _ = H3
   have keep3 : ∀ x o, H2 x = some o -> x ≠ an -> H3 x = some o := fun x o h hx => by rw [<- hH3, upd_ne hx, upd_ne hx]; exact h
   have han3 : H3 an = some (.lst (vI (done ++ (((Vbtaai.step st d).2.length : Int) :: (Vbtaai.step st d).2)))) := by
    rw [<- hH3, upd_same, vI, vI, vI, List.map_append, List.map_cons]
    simp
   refine ⟨ns.length - m, by omega, hW1 _ _ _ ⟨G2, (Vbtaai.step st d).1, m, kd + 1, cs', _, _, f', rfl, hG2.keep (fun x o hx h => keep3 x o h fun z => nan2 (z ▸ hx)), keep3 r _ hr2 (fun z => anr' z.symm), nG2, hI.keep (fun x o h hG hl => keep3 x o (out x o h (fun z => hG (.inl z)) (zp15 hr' hl)) fun z => hG (.inr z)) (fun q hq => hq.elim (fun z => (gr q z).elim (fun y => .inl (.inl y)) .inr) fun z => .inl (.inr z)), han3, nan2, hm2, rfl, by rw [<- ht]; exact hcs', by omega, ?_, ?_⟩⟩
   ·simp only [List.length_append, List.length_cons]; omega
   ·rw [List.append_assoc]; exact e
end
set_option maxHeartbeats 4000000 in
noncomputable def zk31 {K : W.Frag} {h : Heap} {mg : Str -> Option Value} (X : K.In h) (G : h.Ns mainGlobals mg) (TF : TxtF K mg)
  {A_Story : Addr} (a_Story : W.nsIn K mainGlobals "Story" = some (some (.ref A_Story))) (pg_Story : W.plainGet K A_Story Str.empty = true) (hd_Story : W.hasDictIn K A_Story = true) (po_Story : W.plainOver K A_Story = true) (sa_Story : W.findIn K (.ref A_Story) "__setattr__" = some (some (.builtin "object.__setattr__"))) (mk_Story : W.makesIn K A_Story = true) (kc_Story : W.keepIn K (.ref A_Story) = true)
  {A_q0 : Addr} {oc_q0 kV_q0 dc_q0 pm_q0 cd_q0 ct_q0 : Value} {od_q0 an_q0 : Option Addr} {sl_q0 : Array (Option Value)} (a_q0 : W.findIn K (.ref A_Story) "__init__" = some (some (.ref A_q0))) (i_q0 : W.isFn K (.ref A_q0) = true) (l_q0 : K.lookup A_q0 = some ⟨oc_q0, od_q0, .func (W.fnOf "__init__" "Story.__init__" (defArgs (inClass (top 74) 0)) (defBody (inClass (top 74) 0)) (defScope (inClass (top 74) 0)) .none kV_q0 dc_q0 pm_q0 an_q0 cd_q0 ct_q0), sl_q0⟩) (c_q0 : W.codeIn K cd_q0 "Story.__init__" = true) (k_q0 : W.keepIn K (.ref A_q0) = true)
  {A_q1 : Addr} {oc_q1 kV_q1 dc_q1 pm_q1 cd_q1 ct_q1 : Value} {od_q1 an_q1 : Option Addr} {sl_q1 : Array (Option Value)} (a_q1 : W.findIn K (.ref A_Story) "forget" = some (some (.ref A_q1))) (i_q1 : W.isFn K (.ref A_q1) = true) (l_q1 : K.lookup A_q1 = some ⟨oc_q1, od_q1, .func (W.fnOf "forget" "Story.forget" (defArgs (inClass (top 74) 1)) (defBody (inClass (top 74) 1)) (defScope (inClass (top 74) 1)) .none kV_q1 dc_q1 pm_q1 an_q1 cd_q1 ct_q1), sl_q1⟩) (c_q1 : W.codeIn K cd_q1 "Story.forget" = true) (k_q1 : W.keepIn K (.ref A_q1) = true)
  {A_q2 : Addr} {oc_q2 kV_q2 dc_q2 pm_q2 cd_q2 ct_q2 : Value} {od_q2 an_q2 : Option Addr} {sl_q2 : Array (Option Value)} (a_q2 : W.findIn K (.ref A_Story) "state_after" = some (some (.ref A_q2))) (i_q2 : W.isFn K (.ref A_q2) = true) (l_q2 : K.lookup A_q2 = some ⟨oc_q2, od_q2, .func (W.fnOf "state_after" "Story.state_after" (defArgs (inClass (top 74) 2)) (defBody (inClass (top 74) 2)) (defScope (inClass (top 74) 2)) .none kV_q2 dc_q2 pm_q2 an_q2 cd_q2 ct_q2), sl_q2⟩) (c_q2 : W.codeIn K cd_q2 "Story.state_after" = true) (k_q2 : W.keepIn K (.ref A_q2) = true)
  {A_q3 : Addr} {oc_q3 kV_q3 dc_q3 pm_q3 cd_q3 ct_q3 : Value} {od_q3 an_q3 : Option Addr} {sl_q3 : Array (Option Value)} (a_q3 : W.findIn K (.ref A_Story) "add_action" = some (some (.ref A_q3))) (i_q3 : W.isFn K (.ref A_q3) = true) (l_q3 : K.lookup A_q3 = some ⟨oc_q3, od_q3, .func (W.fnOf "add_action" "Story.add_action" (defArgs (inClass (top 74) 3)) (defBody (inClass (top 74) 3)) (defScope (inClass (top 74) 3)) .none kV_q3 dc_q3 pm_q3 an_q3 cd_q3 ct_q3), sl_q3⟩) (c_q3 : W.codeIn K cd_q3 "Story.add_action" = true) (k_q3 : W.keepIn K (.ref A_q3) = true)
  {A_q4 : Addr} {oc_q4 kV_q4 dc_q4 pm_q4 cd_q4 ct_q4 : Value} {od_q4 an_q4 : Option Addr} {sl_q4 : Array (Option Value)} (a_q4 : W.findIn K (.ref A_Story) "add_turn" = some (some (.ref A_q4))) (i_q4 : W.isFn K (.ref A_q4) = true) (l_q4 : K.lookup A_q4 = some ⟨oc_q4, od_q4, .func (W.fnOf "add_turn" "Story.add_turn" (defArgs (inClass (top 74) 4)) (defBody (inClass (top 74) 4)) (defScope (inClass (top 74) 4)) .none kV_q4 dc_q4 pm_q4 an_q4 cd_q4 ct_q4), sl_q4⟩) (c_q4 : W.codeIn K cd_q4 "Story.add_turn" = true) (k_q4 : W.keepIn K (.ref A_q4) = true)
  {A_q5 : Addr} {oc_q5 kV_q5 dc_q5 pm_q5 cd_q5 ct_q5 : Value} {od_q5 an_q5 : Option Addr} {sl_q5 : Array (Option Value)} (a_q5 : W.findIn K (.ref A_Story) "kind_with_good" = some (some (.ref A_q5))) (i_q5 : W.isFn K (.ref A_q5) = true) (l_q5 : K.lookup A_q5 = some ⟨oc_q5, od_q5, .func (W.fnOf "kind_with_good" "Story.kind_with_good" (defArgs (inClass (top 74) 5)) (defBody (inClass (top 74) 5)) (defScope (inClass (top 74) 5)) .none kV_q5 dc_q5 pm_q5 an_q5 cd_q5 ct_q5), sl_q5⟩) (c_q5 : W.codeIn K cd_q5 "Story.kind_with_good" = true) (k_q5 : W.keepIn K (.ref A_q5) = true)
  {A_q6 : Addr} {oc_q6 kV_q6 dc_q6 pm_q6 cd_q6 ct_q6 : Value} {od_q6 an_q6 : Option Addr} {sl_q6 : Array (Option Value)} (a_q6 : W.findIn K (.ref A_Story) "add_good" = some (some (.ref A_q6))) (i_q6 : W.isFn K (.ref A_q6) = true) (l_q6 : K.lookup A_q6 = some ⟨oc_q6, od_q6, .func (W.fnOf "add_good" "Story.add_good" (defArgs (inClass (top 74) 6)) (defBody (inClass (top 74) 6)) (defScope (inClass (top 74) 6)) .none kV_q6 dc_q6 pm_q6 an_q6 cd_q6 ct_q6), sl_q6⟩) (c_q6 : W.codeIn K cd_q6 "Story.add_good" = true) (k_q6 : W.keepIn K (.ref A_q6) = true)
  {A_q7 : Addr} {oc_q7 kV_q7 dc_q7 pm_q7 cd_q7 ct_q7 : Value} {od_q7 an_q7 : Option Addr} {sl_q7 : Array (Option Value)} (a_q7 : W.findIn K (.ref A_Story) "kind_with_bad" = some (some (.ref A_q7))) (i_q7 : W.isFn K (.ref A_q7) = true) (l_q7 : K.lookup A_q7 = some ⟨oc_q7, od_q7, .func (W.fnOf "kind_with_bad" "Story.kind_with_bad" (defArgs (inClass (top 74) 7)) (defBody (inClass (top 74) 7)) (defScope (inClass (top 74) 7)) .none kV_q7 dc_q7 pm_q7 an_q7 cd_q7 ct_q7), sl_q7⟩) (c_q7 : W.codeIn K cd_q7 "Story.kind_with_bad" = true) (k_q7 : W.keepIn K (.ref A_q7) = true)
  {A_q8 : Addr} {oc_q8 kV_q8 dc_q8 pm_q8 cd_q8 ct_q8 : Value} {od_q8 an_q8 : Option Addr} {sl_q8 : Array (Option Value)} (a_q8 : W.findIn K (.ref A_Story) "add_bad" = some (some (.ref A_q8))) (i_q8 : W.isFn K (.ref A_q8) = true) (l_q8 : K.lookup A_q8 = some ⟨oc_q8, od_q8, .func (W.fnOf "add_bad" "Story.add_bad" (defArgs (inClass (top 74) 8)) (defBody (inClass (top 74) 8)) (defScope (inClass (top 74) 8)) .none kV_q8 dc_q8 pm_q8 an_q8 cd_q8 ct_q8), sl_q8⟩) (c_q8 : W.codeIn K cd_q8 "Story.add_bad" = true) (k_q8 : W.keepIn K (.ref A_q8) = true)
  {A_q9 : Addr} {oc_q9 kV_q9 dc_q9 pm_q9 cd_q9 ct_q9 : Value} {od_q9 an_q9 : Option Addr} {sl_q9 : Array (Option Value)} (a_q9 : W.findIn K (.ref A_Story) "can_be_done" = some (some (.ref A_q9))) (i_q9 : W.isFn K (.ref A_q9) = true) (l_q9 : K.lookup A_q9 = some ⟨oc_q9, od_q9, .func (W.fnOf "can_be_done" "Story.can_be_done" (defArgs (inClass (top 74) 9)) (defBody (inClass (top 74) 9)) (defScope (inClass (top 74) 9)) .none kV_q9 dc_q9 pm_q9 an_q9 cd_q9 ct_q9), sl_q9⟩) (c_q9 : W.codeIn K cd_q9 "Story.can_be_done" = true) (k_q9 : W.keepIn K (.ref A_q9) = true)
  {A_q10 : Addr} {oc_q10 kV_q10 dc_q10 pm_q10 cd_q10 ct_q10 : Value} {od_q10 an_q10 : Option Addr} {sl_q10 : Array (Option Value)} (a_q10 : W.findIn K (.ref A_Story) "actions_in" = some (some (.ref A_q10))) (i_q10 : W.isFn K (.ref A_q10) = true) (l_q10 : K.lookup A_q10 = some ⟨oc_q10, od_q10, .func (W.fnOf "actions_in" "Story.actions_in" (defArgs (inClass (top 74) 10)) (defBody (inClass (top 74) 10)) (defScope (inClass (top 74) 10)) .none kV_q10 dc_q10 pm_q10 an_q10 cd_q10 ct_q10), sl_q10⟩) (c_q10 : W.codeIn K cd_q10 "Story.actions_in" = true) (k_q10 : W.keepIn K (.ref A_q10) = true)
  {A_q11 : Addr} {oc_q11 kV_q11 dc_q11 pm_q11 cd_q11 ct_q11 : Value} {od_q11 an_q11 : Option Addr} {sl_q11 : Array (Option Value)} (a_q11 : W.findIn K (.ref A_Story) "leads_to" = some (some (.ref A_q11))) (i_q11 : W.isFn K (.ref A_q11) = true) (l_q11 : K.lookup A_q11 = some ⟨oc_q11, od_q11, .func (W.fnOf "leads_to" "Story.leads_to" (defArgs (inClass (top 74) 11)) (defBody (inClass (top 74) 11)) (defScope (inClass (top 74) 11)) .none kV_q11 dc_q11 pm_q11 an_q11 cd_q11 ct_q11), sl_q11⟩) (c_q11 : W.codeIn K cd_q11 "Story.leads_to" = true) (k_q11 : W.keepIn K (.ref A_q11) = true)
  {A_q12 : Addr} {oc_q12 kV_q12 dc_q12 pm_q12 cd_q12 ct_q12 : Value} {od_q12 an_q12 : Option Addr} {sl_q12 : Array (Option Value)} (a_q12 : W.findIn K (.ref A_Story) "ahead_of" = some (some (.ref A_q12))) (i_q12 : W.isFn K (.ref A_q12) = true) (l_q12 : K.lookup A_q12 = some ⟨oc_q12, od_q12, .func (W.fnOf "ahead_of" "Story.ahead_of" (defArgs (inClass (top 74) 12)) (defBody (inClass (top 74) 12)) (defScope (inClass (top 74) 12)) .none kV_q12 dc_q12 pm_q12 an_q12 cd_q12 ct_q12), sl_q12⟩) (c_q12 : W.codeIn K cd_q12 "Story.ahead_of" = true) (k_q12 : W.keepIn K (.ref A_q12) = true)
  {A_q13 : Addr} {oc_q13 kV_q13 dc_q13 pm_q13 cd_q13 ct_q13 : Value} {od_q13 an_q13 : Option Addr} {sl_q13 : Array (Option Value)} (a_q13 : W.findIn K (.ref A_Story) "states_ahead" = some (some (.ref A_q13))) (i_q13 : W.isFn K (.ref A_q13) = true) (l_q13 : K.lookup A_q13 = some ⟨oc_q13, od_q13, .func (W.fnOf "states_ahead" "Story.states_ahead" (defArgs (inClass (top 74) 13)) (defBody (inClass (top 74) 13)) (defScope (inClass (top 74) 13)) .none kV_q13 dc_q13 pm_q13 an_q13 cd_q13 ct_q13), sl_q13⟩) (c_q13 : W.codeIn K cd_q13 "Story.states_ahead" = true) (k_q13 : W.keepIn K (.ref A_q13) = true)
  {A_q14 : Addr} {oc_q14 kV_q14 dc_q14 pm_q14 cd_q14 ct_q14 : Value} {od_q14 an_q14 : Option Addr} {sl_q14 : Array (Option Value)} (a_q14 : W.findIn K (.ref A_Story) "ranks" = some (some (.ref A_q14))) (i_q14 : W.isFn K (.ref A_q14) = true) (l_q14 : K.lookup A_q14 = some ⟨oc_q14, od_q14, .func (W.fnOf "ranks" "Story.ranks" (defArgs (inClass (top 74) 14)) (defBody (inClass (top 74) 14)) (defScope (inClass (top 74) 14)) .none kV_q14 dc_q14 pm_q14 an_q14 cd_q14 ct_q14), sl_q14⟩) (c_q14 : W.codeIn K cd_q14 "Story.ranks" = true) (k_q14 : W.keepIn K (.ref A_q14) = true)
  {A_q15 : Addr} {oc_q15 kV_q15 dc_q15 pm_q15 cd_q15 ct_q15 : Value} {od_q15 an_q15 : Option Addr} {sl_q15 : Array (Option Value)} (a_q15 : W.findIn K (.ref A_Story) "hinted_action" = some (some (.ref A_q15))) (i_q15 : W.isFn K (.ref A_q15) = true) (l_q15 : K.lookup A_q15 = some ⟨oc_q15, od_q15, .func (W.fnOf "hinted_action" "Story.hinted_action" (defArgs (inClass (top 74) 15)) (defBody (inClass (top 74) 15)) (defScope (inClass (top 74) 15)) .none kV_q15 dc_q15 pm_q15 an_q15 cd_q15 ct_q15), sl_q15⟩) (c_q15 : W.codeIn K cd_q15 "Story.hinted_action" = true) (k_q15 : W.keepIn K (.ref A_q15) = true)
  (zk1 : W.findIn K (.ref A_Story) "sizes" = some none)
  (zw4 : W.findIn K (.ref A_Story) "first" = some none)
  (zs1 : W.findIn K (.ref A_Story) "state_values" = some none)
  (zk : W.findIn K (.ref A_Story) "kinds" = some none)
  (zz1 : W.findIn K (.ref A_Story) "effected" = some none)
  (zl4 : W.findIn K (.ref A_Story) "turned" = some none)
  (zt2 : W.findIn K (.ref A_Story) "turn_count" = some none)
  (zu2 : W.findIn K (.ref A_Story) "good_count" = some none)
  (zc3 : W.findIn K (.ref A_Story) "bad_count" = some none)
  (zp2 : W.findIn K (.ref A_Story) "known_ahead" = some none)
  (zq2 : W.findIn K (.ref A_Story) "known_ranks" = some none)
  {A_Game : Addr} (a_Game : W.nsIn K mainGlobals "Game" = some (some (.ref A_Game))) (pg_Game : W.plainGet K A_Game Str.empty = true) (hd_Game : W.hasDictIn K A_Game = true) (po_Game : W.plainOver K A_Game = true) (sa_Game : W.findIn K (.ref A_Game) "__setattr__" = some (some (.builtin "object.__setattr__"))) (mk_Game : W.makesIn K A_Game = true) (kc_Game : W.keepIn K (.ref A_Game) = true)
  {A_q16 : Addr} {oc_q16 kV_q16 dc_q16 pm_q16 cd_q16 ct_q16 : Value} {od_q16 an_q16 : Option Addr} {sl_q16 : Array (Option Value)} (a_q16 : W.findIn K (.ref A_Game) "__init__" = some (some (.ref A_q16))) (i_q16 : W.isFn K (.ref A_q16) = true) (l_q16 : K.lookup A_q16 = some ⟨oc_q16, od_q16, .func (W.fnOf "__init__" "Game.__init__" (defArgs (inClass (top 81) 0)) (defBody (inClass (top 81) 0)) (defScope (inClass (top 81) 0)) .none kV_q16 dc_q16 pm_q16 an_q16 cd_q16 ct_q16), sl_q16⟩) (c_q16 : W.codeIn K cd_q16 "Game.__init__" = true) (k_q16 : W.keepIn K (.ref A_q16) = true)
  {A_q17 : Addr} {oc_q17 kV_q17 dc_q17 pm_q17 cd_q17 ct_q17 : Value} {od_q17 an_q17 : Option Addr} {sl_q17 : Array (Option Value)} (a_q17 : W.findIn K (.ref A_Game) "begin" = some (some (.ref A_q17))) (i_q17 : W.isFn K (.ref A_q17) = true) (l_q17 : K.lookup A_q17 = some ⟨oc_q17, od_q17, .func (W.fnOf "begin" "Game.begin" (defArgs (inClass (top 81) 1)) (defBody (inClass (top 81) 1)) (defScope (inClass (top 81) 1)) .none kV_q17 dc_q17 pm_q17 an_q17 cd_q17 ct_q17), sl_q17⟩) (c_q17 : W.codeIn K cd_q17 "Game.begin" = true) (k_q17 : W.keepIn K (.ref A_q17) = true)
  {A_q18 : Addr} {oc_q18 kV_q18 dc_q18 pm_q18 cd_q18 ct_q18 : Value} {od_q18 an_q18 : Option Addr} {sl_q18 : Array (Option Value)} (a_q18 : W.findIn K (.ref A_Game) "tell_action" = some (some (.ref A_q18))) (i_q18 : W.isFn K (.ref A_q18) = true) (l_q18 : K.lookup A_q18 = some ⟨oc_q18, od_q18, .func (W.fnOf "tell_action" "Game.tell_action" (defArgs (inClass (top 81) 2)) (defBody (inClass (top 81) 2)) (defScope (inClass (top 81) 2)) .none kV_q18 dc_q18 pm_q18 an_q18 cd_q18 ct_q18), sl_q18⟩) (c_q18 : W.codeIn K cd_q18 "Game.tell_action" = true) (k_q18 : W.keepIn K (.ref A_q18) = true)
  {A_q19 : Addr} {oc_q19 kV_q19 dc_q19 pm_q19 cd_q19 ct_q19 : Value} {od_q19 an_q19 : Option Addr} {sl_q19 : Array (Option Value)} (a_q19 : W.findIn K (.ref A_Game) "tell_turn" = some (some (.ref A_q19))) (i_q19 : W.isFn K (.ref A_q19) = true) (l_q19 : K.lookup A_q19 = some ⟨oc_q19, od_q19, .func (W.fnOf "tell_turn" "Game.tell_turn" (defArgs (inClass (top 81) 3)) (defBody (inClass (top 81) 3)) (defScope (inClass (top 81) 3)) .none kV_q19 dc_q19 pm_q19 an_q19 cd_q19 ct_q19), sl_q19⟩) (c_q19 : W.codeIn K cd_q19 "Game.tell_turn" = true) (k_q19 : W.keepIn K (.ref A_q19) = true)
  {A_q20 : Addr} {oc_q20 kV_q20 dc_q20 pm_q20 cd_q20 ct_q20 : Value} {od_q20 an_q20 : Option Addr} {sl_q20 : Array (Option Value)} (a_q20 : W.findIn K (.ref A_Game) "tell_good" = some (some (.ref A_q20))) (i_q20 : W.isFn K (.ref A_q20) = true) (l_q20 : K.lookup A_q20 = some ⟨oc_q20, od_q20, .func (W.fnOf "tell_good" "Game.tell_good" (defArgs (inClass (top 81) 4)) (defBody (inClass (top 81) 4)) (defScope (inClass (top 81) 4)) .none kV_q20 dc_q20 pm_q20 an_q20 cd_q20 ct_q20), sl_q20⟩) (c_q20 : W.codeIn K cd_q20 "Game.tell_good" = true) (k_q20 : W.keepIn K (.ref A_q20) = true)
  {A_q21 : Addr} {oc_q21 kV_q21 dc_q21 pm_q21 cd_q21 ct_q21 : Value} {od_q21 an_q21 : Option Addr} {sl_q21 : Array (Option Value)} (a_q21 : W.findIn K (.ref A_Game) "tell_bad" = some (some (.ref A_q21))) (i_q21 : W.isFn K (.ref A_q21) = true) (l_q21 : K.lookup A_q21 = some ⟨oc_q21, od_q21, .func (W.fnOf "tell_bad" "Game.tell_bad" (defArgs (inClass (top 81) 5)) (defBody (inClass (top 81) 5)) (defScope (inClass (top 81) 5)) .none kV_q21 dc_q21 pm_q21 an_q21 cd_q21 ct_q21), sl_q21⟩) (c_q21 : W.codeIn K cd_q21 "Game.tell_bad" = true) (k_q21 : W.keepIn K (.ref A_q21) = true)
  {A_q22 : Addr} {oc_q22 kV_q22 dc_q22 pm_q22 cd_q22 ct_q22 : Value} {od_q22 an_q22 : Option Addr} {sl_q22 : Array (Option Value)} (a_q22 : W.findIn K (.ref A_Game) "act" = some (some (.ref A_q22))) (i_q22 : W.isFn K (.ref A_q22) = true) (l_q22 : K.lookup A_q22 = some ⟨oc_q22, od_q22, .func (W.fnOf "act" "Game.act" (defArgs (inClass (top 81) 6)) (defBody (inClass (top 81) 6)) (defScope (inClass (top 81) 6)) .none kV_q22 dc_q22 pm_q22 an_q22 cd_q22 ct_q22), sl_q22⟩) (c_q22 : W.codeIn K cd_q22 "Game.act" = true) (k_q22 : W.keepIn K (.ref A_q22) = true)
  {A_q23 : Addr} {oc_q23 kV_q23 dc_q23 pm_q23 cd_q23 ct_q23 : Value} {od_q23 an_q23 : Option Addr} {sl_q23 : Array (Option Value)} (a_q23 : W.findIn K (.ref A_Game) "restart" = some (some (.ref A_q23))) (i_q23 : W.isFn K (.ref A_q23) = true) (l_q23 : K.lookup A_q23 = some ⟨oc_q23, od_q23, .func (W.fnOf "restart" "Game.restart" (defArgs (inClass (top 81) 7)) (defBody (inClass (top 81) 7)) (defScope (inClass (top 81) 7)) .none kV_q23 dc_q23 pm_q23 an_q23 cd_q23 ct_q23), sl_q23⟩) (c_q23 : W.codeIn K cd_q23 "Game.restart" = true) (k_q23 : W.keepIn K (.ref A_q23) = true)
  {A_q24 : Addr} {oc_q24 kV_q24 dc_q24 pm_q24 cd_q24 ct_q24 : Value} {od_q24 an_q24 : Option Addr} {sl_q24 : Array (Option Value)} (a_q24 : W.findIn K (.ref A_Game) "undo" = some (some (.ref A_q24))) (i_q24 : W.isFn K (.ref A_q24) = true) (l_q24 : K.lookup A_q24 = some ⟨oc_q24, od_q24, .func (W.fnOf "undo" "Game.undo" (defArgs (inClass (top 81) 8)) (defBody (inClass (top 81) 8)) (defScope (inClass (top 81) 8)) .none kV_q24 dc_q24 pm_q24 an_q24 cd_q24 ct_q24), sl_q24⟩) (c_q24 : W.codeIn K cd_q24 "Game.undo" = true) (k_q24 : W.keepIn K (.ref A_q24) = true)
  {A_q25 : Addr} {oc_q25 kV_q25 dc_q25 pm_q25 cd_q25 ct_q25 : Value} {od_q25 an_q25 : Option Addr} {sl_q25 : Array (Option Value)} (a_q25 : W.findIn K (.ref A_Game) "tell_now" = some (some (.ref A_q25))) (i_q25 : W.isFn K (.ref A_q25) = true) (l_q25 : K.lookup A_q25 = some ⟨oc_q25, od_q25, .func (W.fnOf "tell_now" "Game.tell_now" (defArgs (inClass (top 81) 9)) (defBody (inClass (top 81) 9)) (defScope (inClass (top 81) 9)) .none kV_q25 dc_q25 pm_q25 an_q25 cd_q25 ct_q25), sl_q25⟩) (c_q25 : W.codeIn K cd_q25 "Game.tell_now" = true) (k_q25 : W.keepIn K (.ref A_q25) = true)
  {A_q26 : Addr} {oc_q26 kV_q26 dc_q26 pm_q26 cd_q26 ct_q26 : Value} {od_q26 an_q26 : Option Addr} {sl_q26 : Array (Option Value)} (a_q26 : W.findIn K (.ref A_Game) "can" = some (some (.ref A_q26))) (i_q26 : W.isFn K (.ref A_q26) = true) (l_q26 : K.lookup A_q26 = some ⟨oc_q26, od_q26, .func (W.fnOf "can" "Game.can" (defArgs (inClass (top 81) 10)) (defBody (inClass (top 81) 10)) (defScope (inClass (top 81) 10)) .none kV_q26 dc_q26 pm_q26 an_q26 cd_q26 ct_q26), sl_q26⟩) (c_q26 : W.codeIn K cd_q26 "Game.can" = true) (k_q26 : W.keepIn K (.ref A_q26) = true)
  {A_q27 : Addr} {oc_q27 kV_q27 dc_q27 pm_q27 cd_q27 ct_q27 : Value} {od_q27 an_q27 : Option Addr} {sl_q27 : Array (Option Value)} (a_q27 : W.findIn K (.ref A_Game) "hint" = some (some (.ref A_q27))) (i_q27 : W.isFn K (.ref A_q27) = true) (l_q27 : K.lookup A_q27 = some ⟨oc_q27, od_q27, .func (W.fnOf "hint" "Game.hint" (defArgs (inClass (top 81) 11)) (defBody (inClass (top 81) 11)) (defScope (inClass (top 81) 11)) .none kV_q27 dc_q27 pm_q27 an_q27 cd_q27 ct_q27), sl_q27⟩) (c_q27 : W.codeIn K cd_q27 "Game.hint" = true) (k_q27 : W.keepIn K (.ref A_q27) = true)
  {A_q28 : Addr} {oc_q28 kV_q28 dc_q28 pm_q28 cd_q28 ct_q28 : Value} {od_q28 an_q28 : Option Addr} {sl_q28 : Array (Option Value)} (a_q28 : W.findIn K (.ref A_Game) "way" = some (some (.ref A_q28))) (i_q28 : W.isFn K (.ref A_q28) = true) (l_q28 : K.lookup A_q28 = some ⟨oc_q28, od_q28, .func (W.fnOf "way" "Game.way" (defArgs (inClass (top 81) 12)) (defBody (inClass (top 81) 12)) (defScope (inClass (top 81) 12)) .none kV_q28 dc_q28 pm_q28 an_q28 cd_q28 ct_q28), sl_q28⟩) (c_q28 : W.codeIn K cd_q28 "Game.way" = true) (k_q28 : W.keepIn K (.ref A_q28) = true)
  {A_q29 : Addr} {oc_q29 kV_q29 dc_q29 pm_q29 cd_q29 ct_q29 : Value} {od_q29 an_q29 : Option Addr} {sl_q29 : Array (Option Value)} (a_q29 : W.findIn K (.ref A_Game) "rank" = some (some (.ref A_q29))) (i_q29 : W.isFn K (.ref A_q29) = true) (l_q29 : K.lookup A_q29 = some ⟨oc_q29, od_q29, .func (W.fnOf "rank" "Game.rank" (defArgs (inClass (top 81) 13)) (defBody (inClass (top 81) 13)) (defScope (inClass (top 81) 13)) .none kV_q29 dc_q29 pm_q29 an_q29 cd_q29 ct_q29), sl_q29⟩) (c_q29 : W.codeIn K cd_q29 "Game.rank" = true) (k_q29 : W.keepIn K (.ref A_q29) = true)
  {A_q30 : Addr} {oc_q30 kV_q30 dc_q30 pm_q30 cd_q30 ct_q30 : Value} {od_q30 an_q30 : Option Addr} {sl_q30 : Array (Option Value)} (a_q30 : W.findIn K (.ref A_Game) "choice" = some (some (.ref A_q30))) (i_q30 : W.isFn K (.ref A_q30) = true) (l_q30 : K.lookup A_q30 = some ⟨oc_q30, od_q30, .func (W.fnOf "choice" "Game.choice" (defArgs (inClass (top 81) 14)) (defBody (inClass (top 81) 14)) (defScope (inClass (top 81) 14)) .none kV_q30 dc_q30 pm_q30 an_q30 cd_q30 ct_q30), sl_q30⟩) (c_q30 : W.codeIn K cd_q30 "Game.choice" = true) (k_q30 : W.keepIn K (.ref A_q30) = true)
  {A_q31 : Addr} {oc_q31 kV_q31 dc_q31 pm_q31 cd_q31 ct_q31 : Value} {od_q31 an_q31 : Option Addr} {sl_q31 : Array (Option Value)} (a_q31 : W.findIn K (.ref A_Game) "survey" = some (some (.ref A_q31))) (i_q31 : W.isFn K (.ref A_q31) = true) (l_q31 : K.lookup A_q31 = some ⟨oc_q31, od_q31, .func (W.fnOf "survey" "Game.survey" (defArgs (inClass (top 81) 15)) (defBody (inClass (top 81) 15)) (defScope (inClass (top 81) 15)) .none kV_q31 dc_q31 pm_q31 an_q31 cd_q31 ct_q31), sl_q31⟩) (c_q31 : W.codeIn K cd_q31 "Game.survey" = true) (k_q31 : W.keepIn K (.ref A_q31) = true)
  {A_q32 : Addr} {oc_q32 kV_q32 dc_q32 pm_q32 cd_q32 ct_q32 : Value} {od_q32 an_q32 : Option Addr} {sl_q32 : Array (Option Value)} (a_q32 : W.findIn K (.ref A_Game) "tell_ranks" = some (some (.ref A_q32))) (i_q32 : W.isFn K (.ref A_q32) = true) (l_q32 : K.lookup A_q32 = some ⟨oc_q32, od_q32, .func (W.fnOf "tell_ranks" "Game.tell_ranks" (defArgs (inClass (top 81) 16)) (defBody (inClass (top 81) 16)) (defScope (inClass (top 81) 16)) .none kV_q32 dc_q32 pm_q32 an_q32 cd_q32 ct_q32), sl_q32⟩) (c_q32 : W.codeIn K cd_q32 "Game.tell_ranks" = true) (k_q32 : W.keepIn K (.ref A_q32) = true)
  {A_q33 : Addr} {oc_q33 kV_q33 dc_q33 pm_q33 cd_q33 ct_q33 : Value} {od_q33 an_q33 : Option Addr} {sl_q33 : Array (Option Value)} (a_q33 : W.findIn K (.ref A_Game) "check" = some (some (.ref A_q33))) (i_q33 : W.isFn K (.ref A_q33) = true) (l_q33 : K.lookup A_q33 = some ⟨oc_q33, od_q33, .func (W.fnOf "check" "Game.check" (defArgs (inClass (top 81) 17)) (defBody (inClass (top 81) 17)) (defScope (inClass (top 81) 17)) .none kV_q33 dc_q33 pm_q33 an_q33 cd_q33 ct_q33), sl_q33⟩) (c_q33 : W.codeIn K cd_q33 "Game.check" = true) (k_q33 : W.keepIn K (.ref A_q33) = true)
  {A_q34 : Addr} {oc_q34 kV_q34 dc_q34 pm_q34 cd_q34 ct_q34 : Value} {od_q34 an_q34 : Option Addr} {sl_q34 : Array (Option Value)} (a_q34 : W.findIn K (.ref A_Game) "distance" = some (some (.ref A_q34))) (i_q34 : W.isFn K (.ref A_q34) = true) (l_q34 : K.lookup A_q34 = some ⟨oc_q34, od_q34, .func (W.fnOf "distance" "Game.distance" (defArgs (inClass (top 81) 18)) (defBody (inClass (top 81) 18)) (defScope (inClass (top 81) 18)) .none kV_q34 dc_q34 pm_q34 an_q34 cd_q34 ct_q34), sl_q34⟩) (c_q34 : W.codeIn K cd_q34 "Game.distance" = true) (k_q34 : W.keepIn K (.ref A_q34) = true)
  {A_q35 : Addr} {oc_q35 kV_q35 dc_q35 pm_q35 cd_q35 ct_q35 : Value} {od_q35 an_q35 : Option Addr} {sl_q35 : Array (Option Value)} (a_q35 : W.findIn K (.ref A_Game) "must" = some (some (.ref A_q35))) (i_q35 : W.isFn K (.ref A_q35) = true) (l_q35 : K.lookup A_q35 = some ⟨oc_q35, od_q35, .func (W.fnOf "must" "Game.must" (defArgs (inClass (top 81) 19)) (defBody (inClass (top 81) 19)) (defScope (inClass (top 81) 19)) .none kV_q35 dc_q35 pm_q35 an_q35 cd_q35 ct_q35), sl_q35⟩) (c_q35 : W.codeIn K cd_q35 "Game.must" = true) (k_q35 : W.keepIn K (.ref A_q35) = true)
  {A_q36 : Addr} {oc_q36 kV_q36 dc_q36 pm_q36 cd_q36 ct_q36 : Value} {od_q36 an_q36 : Option Addr} {sl_q36 : Array (Option Value)} (a_q36 : W.findIn K (.ref A_Game) "ways" = some (some (.ref A_q36))) (i_q36 : W.isFn K (.ref A_q36) = true) (l_q36 : K.lookup A_q36 = some ⟨oc_q36, od_q36, .func (W.fnOf "ways" "Game.ways" (defArgs (inClass (top 81) 20)) (defBody (inClass (top 81) 20)) (defScope (inClass (top 81) 20)) .none kV_q36 dc_q36 pm_q36 an_q36 cd_q36 ct_q36), sl_q36⟩) (c_q36 : W.codeIn K cd_q36 "Game.ways" = true) (k_q36 : W.keepIn K (.ref A_q36) = true)
  {A_q37 : Addr} {oc_q37 kV_q37 dc_q37 pm_q37 cd_q37 ct_q37 : Value} {od_q37 an_q37 : Option Addr} {sl_q37 : Array (Option Value)} (a_q37 : W.findIn K (.ref A_Game) "tell_state" = some (some (.ref A_q37))) (i_q37 : W.isFn K (.ref A_q37) = true) (l_q37 : K.lookup A_q37 = some ⟨oc_q37, od_q37, .func (W.fnOf "tell_state" "Game.tell_state" (defArgs (inClass (top 81) 21)) (defBody (inClass (top 81) 21)) (defScope (inClass (top 81) 21)) .none kV_q37 dc_q37 pm_q37 an_q37 cd_q37 ct_q37), sl_q37⟩) (c_q37 : W.codeIn K cd_q37 "Game.tell_state" = true) (k_q37 : W.keepIn K (.ref A_q37) = true)
  {A_q38 : Addr} {oc_q38 kV_q38 dc_q38 pm_q38 cd_q38 ct_q38 : Value} {od_q38 an_q38 : Option Addr} {sl_q38 : Array (Option Value)} (a_q38 : W.findIn K (.ref A_Game) "state_answered" = some (some (.ref A_q38))) (i_q38 : W.isFn K (.ref A_q38) = true) (l_q38 : K.lookup A_q38 = some ⟨oc_q38, od_q38, .func (W.fnOf "state_answered" "Game.state_answered" (defArgs (inClass (top 81) 22)) (defBody (inClass (top 81) 22)) (defScope (inClass (top 81) 22)) .none kV_q38 dc_q38 pm_q38 an_q38 cd_q38 ct_q38), sl_q38⟩) (c_q38 : W.codeIn K cd_q38 "Game.state_answered" = true) (k_q38 : W.keepIn K (.ref A_q38) = true)
  (zf : W.findIn K (.ref A_Game) "story" = some none)
  (zt : W.findIn K (.ref A_Game) "now" = some none)
  (zu3 : W.findIn K (.ref A_Game) "past" = some none)
  {A_Reader : Addr} (a_Reader : W.nsIn K mainGlobals "Reader" = some (some (.ref A_Reader))) (pg_Reader : W.plainGet K A_Reader Str.empty = true) (hd_Reader : W.hasDictIn K A_Reader = true) (po_Reader : W.plainOver K A_Reader = true) (sa_Reader : W.findIn K (.ref A_Reader) "__setattr__" = some (some (.builtin "object.__setattr__"))) (mk_Reader : W.makesIn K A_Reader = true) (kc_Reader : W.keepIn K (.ref A_Reader) = true)
  {A_q39 : Addr} {oc_q39 kV_q39 dc_q39 pm_q39 cd_q39 ct_q39 : Value} {od_q39 an_q39 : Option Addr} {sl_q39 : Array (Option Value)} (a_q39 : W.findIn K (.ref A_Reader) "__init__" = some (some (.ref A_q39))) (i_q39 : W.isFn K (.ref A_q39) = true) (l_q39 : K.lookup A_q39 = some ⟨oc_q39, od_q39, .func (W.fnOf "__init__" "Reader.__init__" (defArgs (inClass (top 104) 0)) (defBody (inClass (top 104) 0)) (defScope (inClass (top 104) 0)) .none kV_q39 dc_q39 pm_q39 an_q39 cd_q39 ct_q39), sl_q39⟩) (c_q39 : W.codeIn K cd_q39 "Reader.__init__" = true) (k_q39 : W.keepIn K (.ref A_q39) = true)
  {A_q40 : Addr} {oc_q40 kV_q40 dc_q40 pm_q40 cd_q40 ct_q40 : Value} {od_q40 an_q40 : Option Addr} {sl_q40 : Array (Option Value)} (a_q40 : W.findIn K (.ref A_Reader) "at_end" = some (some (.ref A_q40))) (i_q40 : W.isFn K (.ref A_q40) = true) (l_q40 : K.lookup A_q40 = some ⟨oc_q40, od_q40, .func (W.fnOf "at_end" "Reader.at_end" (defArgs (inClass (top 104) 1)) (defBody (inClass (top 104) 1)) (defScope (inClass (top 104) 1)) .none kV_q40 dc_q40 pm_q40 an_q40 cd_q40 ct_q40), sl_q40⟩) (c_q40 : W.codeIn K cd_q40 "Reader.at_end" = true) (k_q40 : W.keepIn K (.ref A_q40) = true)
  {A_q41 : Addr} {oc_q41 kV_q41 dc_q41 pm_q41 cd_q41 ct_q41 : Value} {od_q41 an_q41 : Option Addr} {sl_q41 : Array (Option Value)} (a_q41 : W.findIn K (.ref A_Reader) "read_number" = some (some (.ref A_q41))) (i_q41 : W.isFn K (.ref A_q41) = true) (l_q41 : K.lookup A_q41 = some ⟨oc_q41, od_q41, .func (W.fnOf "read_number" "Reader.read_number" (defArgs (inClass (top 104) 2)) (defBody (inClass (top 104) 2)) (defScope (inClass (top 104) 2)) .none kV_q41 dc_q41 pm_q41 an_q41 cd_q41 ct_q41), sl_q41⟩) (c_q41 : W.codeIn K cd_q41 "Reader.read_number" = true) (k_q41 : W.keepIn K (.ref A_q41) = true)
  {A_q42 : Addr} {oc_q42 kV_q42 dc_q42 pm_q42 cd_q42 ct_q42 : Value} {od_q42 an_q42 : Option Addr} {sl_q42 : Array (Option Value)} (a_q42 : W.findIn K (.ref A_Reader) "read_row" = some (some (.ref A_q42))) (i_q42 : W.isFn K (.ref A_q42) = true) (l_q42 : K.lookup A_q42 = some ⟨oc_q42, od_q42, .func (W.fnOf "read_row" "Reader.read_row" (defArgs (inClass (top 104) 3)) (defBody (inClass (top 104) 3)) (defScope (inClass (top 104) 3)) .none kV_q42 dc_q42 pm_q42 an_q42 cd_q42 ct_q42), sl_q42⟩) (c_q42 : W.codeIn K cd_q42 "Reader.read_row" = true) (k_q42 : W.keepIn K (.ref A_q42) = true)
  (zm4 : W.findIn K (.ref A_Reader) "calls" = some none)
  (zf2 : W.findIn K (.ref A_Reader) "place" = some none) : Txt K mg where
 toTxtF := TF
 za := zb24 X G a_Story pg_Story hd_Story po_Story sa_Story mk_Story kc_Story
 zk4 := zm1 a_q0 i_q0 l_q0 c_q0 k_q0 (fun _ _ _ _ _ _ us hl => match us, hl with | [_, _, _], _ => rfl)
 zz3 := zm1 a_q1 i_q1 l_q1 c_q1 k_q1 (fun _ _ _ _ _ _ us hl => match us, hl with | [_], _ => rfl)
 zo3 := zm1 a_q2 i_q2 l_q2 c_q2 k_q2 (fun _ _ _ _ _ _ us hl => match us, hl with | [_, _, _, _, _], _ => rfl)
 zr4 := zm1 a_q3 i_q3 l_q3 c_q3 k_q3 (fun _ _ _ _ _ _ us hl => match us, hl with | [_, _, _], _ => rfl)
 zm5 := zm1 a_q4 i_q4 l_q4 c_q4 k_q4 (fun _ _ _ _ _ _ us hl => match us, hl with | [_, _, _], _ => rfl)
 zt3 := zm1 a_q5 i_q5 l_q5 c_q5 k_q5 (fun _ _ _ _ _ _ us hl => match us, hl with | [_, _, _], _ => rfl)
 zn5 := zm1 a_q6 i_q6 l_q6 c_q6 k_q6 (fun _ _ _ _ _ _ us hl => match us, hl with | [_, _], _ => rfl)
 za4 := zm1 a_q7 i_q7 l_q7 c_q7 k_q7 (fun _ _ _ _ _ _ us hl => match us, hl with | [_, _, _], _ => rfl)
 zz5 := zm1 a_q8 i_q8 l_q8 c_q8 k_q8 (fun _ _ _ _ _ _ us hl => match us, hl with | [_, _], _ => rfl)
 zp3 := zm1 a_q9 i_q9 l_q9 c_q9 k_q9 (fun _ _ _ _ _ _ us hl => match us, hl with | [_, _, _], _ => rfl)
 zf3 := zm1 a_q10 i_q10 l_q10 c_q10 k_q10 (fun _ _ _ _ _ _ us hl => match us, hl with | [_, _], _ => rfl)
 zw2 := zm1 a_q11 i_q11 l_q11 c_q11 k_q11 (fun _ _ _ _ _ _ us hl => match us, hl with | [_, _, _], _ => rfl)
 zo5 := zm1 a_q12 i_q12 l_q12 c_q12 k_q12 (fun _ _ _ _ _ _ us hl => match us, hl with | [_, _], _ => rfl)
 zi1 := zm1 a_q13 i_q13 l_q13 c_q13 k_q13 (fun _ _ _ _ _ _ us hl => match us, hl with | [_], _ => rfl)
 ze2 := zm1 a_q14 i_q14 l_q14 c_q14 k_q14 (fun _ _ _ _ _ _ us hl => match us, hl with | [_], _ => rfl)
 ze3 := zm1 a_q15 i_q15 l_q15 c_q15 k_q15 (fun _ _ _ _ _ _ us hl => match us, hl with | [_, _], _ => rfl)
 zk1 := zk1
 zw4 := zw4
 zs1 := zs1
 zk := zk
 zz1 := zz1
 zl4 := zl4
 zt2 := zt2
 zu2 := zu2
 zc3 := zc3
 zp2 := zp2
 zq2 := zq2
 zb := zb24 X G a_Game pg_Game hd_Game po_Game sa_Game mk_Game kc_Game
 za6 := zm1 a_q16 i_q16 l_q16 c_q16 k_q16 (fun _ _ _ _ _ _ us hl => match us, hl with | [_], _ => rfl)
 zd8 := zm1 a_q17 i_q17 l_q17 c_q17 k_q17 (fun _ _ _ _ _ _ us hl => match us, hl with | [_, _, _], _ => rfl)
 zs4 := zm1 a_q18 i_q18 l_q18 c_q18 k_q18 (fun _ _ _ _ _ _ us hl => match us, hl with | [_, _, _], _ => rfl)
 zp5 := zm1 a_q19 i_q19 l_q19 c_q19 k_q19 (fun _ _ _ _ _ _ us hl => match us, hl with | [_, _, _], _ => rfl)
 zq5 := zm1 a_q20 i_q20 l_q20 c_q20 k_q20 (fun _ _ _ _ _ _ us hl => match us, hl with | [_, _], _ => rfl)
 zb6 := zm1 a_q21 i_q21 l_q21 c_q21 k_q21 (fun _ _ _ _ _ _ us hl => match us, hl with | [_, _], _ => rfl)
 zl10 := zm1 a_q22 i_q22 l_q22 c_q22 k_q22 (fun _ _ _ _ _ _ us hl => match us, hl with | [_, _], _ => rfl)
 zr6 := zm1 a_q23 i_q23 l_q23 c_q23 k_q23 (fun _ _ _ _ _ _ us hl => match us, hl with | [_], _ => rfl)
 za9 := zm1 a_q24 i_q24 l_q24 c_q24 k_q24 (fun _ _ _ _ _ _ us hl => match us, hl with | [_], _ => rfl)
 zc6 := zm1 a_q25 i_q25 l_q25 c_q25 k_q25 (fun _ _ _ _ _ _ us hl => match us, hl with | [_], _ => rfl)
 zm10 := zm1 a_q26 i_q26 l_q26 c_q26 k_q26 (fun _ _ _ _ _ _ us hl => match us, hl with | [_], _ => rfl)
 zb9 := zm1 a_q27 i_q27 l_q27 c_q27 k_q27 (fun _ _ _ _ _ _ us hl => match us, hl with | [_], _ => rfl)
 zn10 := zm1 a_q28 i_q28 l_q28 c_q28 k_q28 (fun _ _ _ _ _ _ us hl => match us, hl with | [_], _ => rfl)
 zc9 := zm1 a_q29 i_q29 l_q29 c_q29 k_q29 (fun _ _ _ _ _ _ us hl => match us, hl with | [_, _], _ => rfl)
 zd7 := zm1 a_q30 i_q30 l_q30 c_q30 k_q30 (fun _ _ _ _ _ _ us hl => match us, hl with | [_, _], _ => rfl)
 ze7 := zm1 a_q31 i_q31 l_q31 c_q31 k_q31 (fun _ _ _ _ _ _ us hl => match us, hl with | [_], _ => rfl)
 zz4 := zm1 a_q32 i_q32 l_q32 c_q32 k_q32 (fun _ _ _ _ _ _ us hl => match us, hl with | [_], _ => rfl)
 ze8 := zm1 a_q33 i_q33 l_q33 c_q33 k_q33 (fun _ _ _ _ _ _ us hl => match us, hl with | [_, _], _ => rfl)
 zd6 := zm1 a_q34 i_q34 l_q34 c_q34 k_q34 (fun _ _ _ _ _ _ us hl => match us, hl with | [_, _, _], _ => rfl)
 zd9 := zm1 a_q35 i_q35 l_q35 c_q35 k_q35 (fun _ _ _ _ _ _ us hl => match us, hl with | [_, _, _], _ => rfl)
 ze9 := zm1 a_q36 i_q36 l_q36 c_q36 k_q36 (fun _ _ _ _ _ _ us hl => match us, hl with | [_], _ => rfl)
 za5 := zm1 a_q37 i_q37 l_q37 c_q37 k_q37 (fun _ _ _ _ _ _ us hl => match us, hl with | [_, _], _ => rfl)
 zq1 := zm1 a_q38 i_q38 l_q38 c_q38 k_q38 (fun _ _ _ _ _ _ us hl => match us, hl with | [_, _], _ => rfl)
 zf := zf
 zt := zt
 zu3 := zu3
 ze := zb24 X G a_Reader pg_Reader hd_Reader po_Reader sa_Reader mk_Reader kc_Reader
 zb5 := zm1 a_q39 i_q39 l_q39 c_q39 k_q39 (fun _ _ _ _ _ _ us hl => match us, hl with | [_, _], _ => rfl)
 ze6 := zm1 a_q40 i_q40 l_q40 c_q40 k_q40 (fun _ _ _ _ _ _ us hl => match us, hl with | [_], _ => rfl)
 zt1 := zm1 a_q41 i_q41 l_q41 c_q41 k_q41 (fun _ _ _ _ _ _ us hl => match us, hl with | [_], _ => rfl)
 zk3 := zm1 a_q42 i_q42 l_q42 c_q42 k_q42 (fun _ _ _ _ _ _ us hl => match us, hl with | [_], _ => rfl)
 zm4 := zm4
 zf2 := zf2
end Ph
namespace Ph
open PySem PySem.W PyProof.Rows
theorem ze30 {p q : Program} {loose : List Str} {Xt : Shared -> Bool} {α : Type} {Yf : Shared -> α} {Ya : World -> α} {N : Nat} {ann : Option Value} {L : List Str} (lw : looseW q loose = L) (hdR : World -> OsState -> Option SharedT)
  (hr : ∀ (w : World) (os : OsState), hdR w os = runT (stepT (denote treeTable) p w) (stepOk 11 ann) N ⟨bt0 w.params, 11, {}, #[], boot_drawn, boot_toks, os⟩ (topStub p))
  (hdR1 : ∀ (w : World) (os : OsState), (hdR w os).map (fun s => (openSeen q loose (importedModules p.main.body) Xt true s.abs).2.2.2.2.2.1) = some (plainGoodE q L))
  (hdR2 : ∀ (w : World) (os : OsState), (hdR w os).map (fun s => (openSeen q loose (importedModules p.main.body) Xt true s.abs).2.2.1) = some true)
  (hdR3 : ∀ (w : World) (os : OsState), (hdR w os).map (fun s => (staticsOk (importedModules p.main.body) (boot_heap w.params) s.abs.heap && namesBound p s.abs.heap && gensDone s.abs && laidKept (boot_heap w.params) s.abs.heap, (openSeen q loose (importedModules p.main.body) Xt true s.abs).1, (openSeen q loose (importedModules p.main.body) Xt true s.abs).2.1, (openSeen q loose (importedModules p.main.body) Xt true s.abs).2.2.2.2.1)) = some (true, expectedOf q, bltViewBooted, pinGoodD (drecsOf q)))
  (hdR4 : ∀ (w : World) (os : OsState), (hdR w os).map (fun s => ((openSeen q loose (importedModules p.main.body) Xt true s.abs).2.2.2.1, (openSeen q loose (importedModules p.main.body) Xt true s.abs).2.2.2.2.2.2.1, (openSeen q loose (importedModules p.main.body) Xt true s.abs).2.2.2.2.2.2.2.1, (openSeen q loose (importedModules p.main.body) Xt true s.abs).2.2.2.2.2.2.2.2)) = some (true, plainGoodD q loose, wideGood q, clsGoodW q loose))
  (o : ∀ w : World, (fencedOpening treeTable p w N).map (fun s => (s.heap, s.gens, s.drawn, s.toks)) = some (boot_heap w.params, #[], boot_drawn, boot_toks))
  (z : ∀ w : World, ((boot_heap w.params).isNs mainGlobals && (#[] : Array GenState).size == 0, (boot_heap w.params).objs.size, (boot_heap w.params).nsMap mainGlobals "__annotations__") = (true, 11, ann))
  (y : ∀ (w : World) (os : OsState), (hdR w os).map (fun s => Yf s.abs) = some (Ya w)) : LeftO p q loose Xt Yf Ya N true := fun w => by
 subst lw
 obtain ⟨⟨h, gs, d, k, os⟩, e, e'⟩ := Option.map_eq_some_iff.mp (o w)
 obtain ⟨rfl, rfl, rfl, rfl⟩ : h = boot_heap w.params /\ gs = #[] /\ d = boot_drawn /\ k = boot_toks := by simpa using e'
 obtain ⟨z1, z2, z3⟩ : _ /\ _ /\ _ := by simpa only [Prod.mk.injEq] using z w
 obtain ⟨s, r1, l3⟩ := Option.map_eq_some_iff.mp (y w os)
 have a1 := hdR1 w os
 have a2 := hdR2 w os
 have a3 := hdR3 w os
 have a4 := hdR4 w os
 rw [r1] at a1 a2 a3 a4
 have b1 := Option.some.inj a1
 have b2 := Option.some.inj a2
 obtain ⟨l1, d1, d2, d5⟩ : _ /\ _ /\ _ /\ _ := by have q := Option.some.inj a3; simpa only [Prod.mk.injEq] using q
 obtain ⟨d4, d7, d8, d9⟩ : _ /\ _ /\ _ /\ _ := by have q := Option.some.inj a4; simpa only [Prod.mk.injEq] using q
 have l2 : (openSeen q loose (importedModules p.main.body) Xt true s.abs) = openGood q loose := Prod.ext d1 (Prod.ext d2 (Prod.ext b2 (Prod.ext d4 (Prod.ext d5 (Prod.ext b1 (Prod.ext d7 (Prod.ext d8 d9)))))))
 rw [hr] at r1
 have r3 := runT_spec _ _ _ _ r1
 have r4 : topRun treeTable p w 11 ann N ⟨boot_heap w.params, #[], boot_drawn, boot_toks, os⟩ (topStub p) = some s.abs := by
  rw [<- bt0_eq]; exact r3
 have t : topFrom treeTable p w N ⟨boot_heap w.params, #[], boot_drawn, boot_toks, os⟩ = some s.abs := by
  unfold topFrom
  dsimp only
  rw [z1, z2, z3, r4]
  show (match staticsOk (importedModules p.main.body) (boot_heap w.params) s.abs.heap && namesBound p s.abs.heap && gensDone s.abs && laidKept (boot_heap w.params) s.abs.heap with | true => _ | false => _) = _
  rw [l1]
 unfold openEnds
 rw [e]
 show (topFrom treeTable p w N _).map _ = _
 rw [t]
 exact congrArg some (Prod.ext l2 l3)
end Ph
open PySem PySem.W PyProof.Rows
set_option maxHeartbeats 0 in
theorem PySem.Challenge.cw_provedhints_s01_answers_holds : PySem.Challenge.rw_provedhints_s01_answers.Holds := by
 w_on
 refine holds_os (q := Ph.hdV) (loose := []) (Xt := fun s => xlAt Ph.hdV [] s && recOk [] s) (XP := XL Ph.hdV []) (Yf := Hook.obs (kHook Ph.hdk.heap_1 Ph.hdA Ph.hdE)) (Ya := Hook.val (kHook Ph.hdk.heap_1 Ph.hdA Ph.hdE)) (YP := Hook.says (kHook Ph.hdk.heap_1 Ph.hdA Ph.hdE)) (N := 7916) (Ph.ze30 Ph.hdL Ph.hdR (fun _ _ => rfl) Ph.hdR1 Ph.hdR2 Ph.hdR3 Ph.hdR4 (boot_open (by kernel_rfl) rfl (fun _ => rfl)) (fun w => by kernel_rfl) Ph.hdR5) (Hook.of (kHook Ph.hdk.heap_1 Ph.hdA Ph.hdE)) (Hook.keeps (kHook Ph.hdk.heap_1 Ph.hdA Ph.hdE)) (fun s e => xl_of s (Bool.and_eq_true_iff.mp e).1) XL.keeps (by rfl) (by rfl) (by rfl) (fun s e => recFacts_of (Bool.and_eq_true_iff.mp e).2) os_shapes (by first | assumption | decide +kernel) (by decide +kernel) ⟨rfl, rfl, rfl, rfl, rfl, by decide +kernel⟩ ⟨[.list [.int 8]], by decide +kernel, by decide +kernel⟩ ?hc
 case hc =>
  k_fillS
  refine L2.walk_specK (r := PySem.Challenge.rw_provedhints_s01_answers) (k := 20) (CX := L2.CX0) (ps := ["calls"]) (sp := Ph.zg20) (by decide +kernel) rfl rfl ⟨rfl, by decide, by decide⟩ (fun w h Y => W.kIn_of Y) ?F ?S (fun _ _ _ _ z => z)
  case F =>
   intro w mg fa h Y KX GG hmg
   have TF : Nonempty (Ph.TxtF (L2.KOf KX) mg) := by
    dsimp only [L2.KOf]
    refine ⟨?_⟩
    constructor
    ·refine' W.mg_none_of KX GG ?a0; (case a0 => k_is)
    ·refine' W.mg_none_of KX GG ?a1; (case a1 => k_is)
    ·refine' W.mg_none_of KX GG ?a2; (case a2 => k_is)
    ·refine' W.mg_none_of KX GG ?a3; (case a3 => k_is)
    ·refine' Ph.zq KX GG ?a4; (case a4 => k_is)
    ·refine' Ph.zq KX GG ?a5; (case a5 => k_is)
    ·refine' Ph.zq KX GG ?a6; (case a6 => k_is)
    ·refine' Ph.zq KX GG ?a7; (case a7 => k_is)
    ·refine' Ph.zq KX GG ?a8; (case a8 => k_is)
    ·refine' Ph.zq KX GG ?a9; (case a9 => k_is)
    ·refine' Ph.zq KX GG ?a10; (case a10 => k_is)
    ·refine' Ph.zq KX GG ?a11; (case a11 => k_is)
    ·refine' Ph.zq KX GG ?a12; (case a12 => k_is)
    ·refine' Ph.zq KX GG ?a13; (case a13 => k_is)
    ·refine' Ph.zq KX GG ?a14; (case a14 => k_is)
    ·refine' Ph.zq KX GG ?a15; (case a15 => k_is)
    ·refine' Ph.zq KX GG ?a16; (case a16 => k_is)
    ·refine' Ph.zq KX GG ?a17; (case a17 => k_is)
    ·refine' Ph.zq KX GG ?a18; (case a18 => k_is)
    ·refine' Ph.zq KX GG ?a19; (case a19 => k_is)
    ·refine' Ph.zq KX GG ?a20; (case a20 => k_is)
    ·refine' Ph.zq KX GG ?a21; (case a21 => k_is)
    ·refine' Ph.zq KX GG ?a22; (case a22 => k_is)
    ·refine' Ph.zq KX GG ?a23; (case a23 => k_is)
    ·refine' Ph.zq KX GG ?a24; (case a24 => k_is)
    ·refine' Ph.zq KX GG ?a25; (case a25 => k_is)
    ·refine' Ph.zq KX GG ?a26; (case a26 => k_is)
    ·refine' Ph.zq KX GG ?a27; (case a27 => k_is)
    ·refine' Ph.zq KX GG ?a28; (case a28 => k_is)
    ·refine' Ph.zq KX GG ?a29; (case a29 => k_is)
    ·refine' Ph.zq KX GG ?a30; (case a30 => k_is)
    ·refine' Ph.zq KX GG ?a31; (case a31 => k_is)
    ·refine' Ph.zq KX GG ?a32; (case a32 => k_is)
    ·refine' Ph.zq KX GG ?a33; (case a33 => k_is)
    ·refine' Ph.zq KX GG ?a34; (case a34 => k_is)
    ·refine' Ph.zq KX GG ?a35; (case a35 => k_is)
    ·refine' Ph.zq KX GG ?a36; (case a36 => k_is)
    ·refine' Ph.zq KX GG ?a37; (case a37 => k_is)
    ·refine' Ph.zq KX GG ?a38; (case a38 => k_is)
    ·refine' Ph.zq KX GG ?a39; (case a39 => k_is)
    ·refine' Ph.zq KX GG ?a40; (case a40 => k_is)
    ·refine' Ph.zq KX GG ?a41; (case a41 => k_is)
    ·refine' Ph.zq KX GG ?a42; (case a42 => k_is)
    ·refine' Ph.zq KX GG ?a43; (case a43 => k_is)
    ·refine' Ph.zq KX GG ?a44; (case a44 => k_is)
    ·refine' Ph.zq KX GG ?a45; (case a45 => k_is)
    ·refine' Ph.zq KX GG ?a46; (case a46 => k_is)
    ·refine' Ph.zq KX GG ?a47; (case a47 => k_is)
    ·refine' Ph.zq KX GG ?a48; (case a48 => k_is)
    ·refine' Ph.zq KX GG ?a49; (case a49 => k_is)
    ·refine' Ph.zq KX GG ?a50; (case a50 => k_is)
    ·refine' Ph.zq KX GG ?a51; (case a51 => k_is)
    ·refine' Ph.zq KX GG ?a52; (case a52 => k_is)
    ·refine' Ph.zq KX GG ?a53; (case a53 => k_is)
    ·refine' Ph.zq KX GG ?a54; (case a54 => k_is)
    ·refine' Ph.zq KX GG ?a55; (case a55 => k_is)
    ·refine' Ph.zq KX GG ?a56; (case a56 => k_is)
    ·refine' Ph.zq KX GG ?a57; (case a57 => k_is)
    ·refine' Ph.zq KX GG ?a58; (case a58 => k_is)
    ·refine' Ph.zq KX GG ?a59; (case a59 => k_is)
    ·refine' Ph.zq KX GG ?a60; (case a60 => k_is)
    ·refine' Ph.zq KX GG ?a61; (case a61 => k_is)
    ·refine' Ph.zq KX GG ?a62; (case a62 => k_is)
    ·refine' Ph.zp1 KX GG ?a63 ?l63 ?c63 ?k63 ?b63; (case a63 => k_is); (case l63 => k_is); (case c63 => k_is); (case k63 => k_is); exact fun _ _ _ _ _ _ us hl => match us, hl with | [_, _], _ => rfl
    ·refine' Ph.zp1 KX GG ?a64 ?l64 ?c64 ?k64 ?b64; (case a64 => k_is); (case l64 => k_is); (case c64 => k_is); (case k64 => k_is); exact fun _ _ _ _ _ _ us hl => match us, hl with | [_, _, _], _ => rfl
    ·refine' Ph.zp1 KX GG ?a65 ?l65 ?c65 ?k65 ?b65; (case a65 => k_is); (case l65 => k_is); (case c65 => k_is); (case k65 => k_is); exact fun _ _ _ _ _ _ us hl => match us, hl with | [_, _], _ => rfl
    ·refine' Ph.zp1 KX GG ?a66 ?l66 ?c66 ?k66 ?b66; (case a66 => k_is); (case l66 => k_is); (case c66 => k_is); (case k66 => k_is); exact fun _ _ _ _ _ _ us hl => match us, hl with | [_, _, _, _], _ => rfl
    ·refine' Ph.zp1 KX GG ?a67 ?l67 ?c67 ?k67 ?b67; (case a67 => k_is); (case l67 => k_is); (case c67 => k_is); (case k67 => k_is); exact fun _ _ _ _ _ _ us hl => match us, hl with | [_, _], _ => rfl
    ·refine' Ph.zp1 KX GG ?a68 ?l68 ?c68 ?k68 ?b68; (case a68 => k_is); (case l68 => k_is); (case c68 => k_is); (case k68 => k_is); exact fun _ _ _ _ _ _ us hl => match us, hl with | [_, _, _, _], _ => rfl
    ·refine' Ph.zp1 KX GG ?a69 ?l69 ?c69 ?k69 ?b69; (case a69 => k_is); (case l69 => k_is); (case c69 => k_is); (case k69 => k_is); exact fun _ _ _ _ _ _ us hl => match us, hl with | [_, _], _ => rfl
    ·refine' Ph.zp1 KX GG ?a70 ?l70 ?c70 ?k70 ?b70; (case a70 => k_is); (case l70 => k_is); (case c70 => k_is); (case k70 => k_is); exact fun _ _ _ _ _ _ us hl => match us, hl with | [_, _, _, _], _ => rfl
    ·refine' Ph.zp1 KX GG ?a71 ?l71 ?c71 ?k71 ?b71; (case a71 => k_is); (case l71 => k_is); (case c71 => k_is); (case k71 => k_is); exact fun _ _ _ _ _ _ us hl => match us, hl with | [_, _], _ => rfl
    ·refine' Ph.zp1 KX GG ?a72 ?l72 ?c72 ?k72 ?b72; (case a72 => k_is); (case l72 => k_is); (case c72 => k_is); (case k72 => k_is); exact fun _ _ _ _ _ _ us hl => match us, hl with | [_, _, _, _, _], _ => rfl
    ·refine' Ph.zp1 KX GG ?a73 ?l73 ?c73 ?k73 ?b73; (case a73 => k_is); (case l73 => k_is); (case c73 => k_is); (case k73 => k_is); exact fun _ _ _ _ _ _ us hl => match us, hl with | [_, _, _], _ => rfl
    ·refine' Ph.zp1 KX GG ?a74 ?l74 ?c74 ?k74 ?b74; (case a74 => k_is); (case l74 => k_is); (case c74 => k_is); (case k74 => k_is); exact fun _ _ _ _ _ _ us hl => match us, hl with | [_], _ => rfl
    ·refine' Ph.zp1 KX GG ?a75 ?l75 ?c75 ?k75 ?b75; (case a75 => k_is); (case l75 => k_is); (case c75 => k_is); (case k75 => k_is); exact fun _ _ _ _ _ _ us hl => match us, hl with | [_, _], _ => rfl
    ·refine' Ph.zp1 KX GG ?a76 ?l76 ?c76 ?k76 ?b76; (case a76 => k_is); (case l76 => k_is); (case c76 => k_is); (case k76 => k_is); exact fun _ _ _ _ _ _ us hl => match us, hl with | [_, _], _ => rfl
    ·refine' Ph.zp1 KX GG ?a77 ?l77 ?c77 ?k77 ?b77; (case a77 => k_is); (case l77 => k_is); (case c77 => k_is); (case k77 => k_is); exact fun _ _ _ _ _ _ us hl => match us, hl with | [_], _ => rfl
    ·refine' Ph.zp1 KX GG ?a78 ?l78 ?c78 ?k78 ?b78; (case a78 => k_is); (case l78 => k_is); (case c78 => k_is); (case k78 => k_is); exact fun _ _ _ _ _ _ us hl => match us, hl with | [_, _], _ => rfl
    ·refine' Ph.zp1 KX GG ?a79 ?l79 ?c79 ?k79 ?b79; (case a79 => k_is); (case l79 => k_is); (case c79 => k_is); (case k79 => k_is); exact fun _ _ _ _ _ _ us hl => match us, hl with | [_], _ => rfl
    ·refine' Ph.zp1 KX GG ?a80 ?l80 ?c80 ?k80 ?b80; (case a80 => k_is); (case l80 => k_is); (case c80 => k_is); (case k80 => k_is); exact fun _ _ _ _ _ _ us hl => match us, hl with | [_, _, _, _, _], _ => rfl
    ·refine' Ph.zp1 KX GG ?a81 ?l81 ?c81 ?k81 ?b81; (case a81 => k_is); (case l81 => k_is); (case c81 => k_is); (case k81 => k_is); exact fun _ _ _ _ _ _ us hl => match us, hl with | [_, _, _], _ => rfl
    ·refine' Ph.zp1 KX GG ?a82 ?l82 ?c82 ?k82 ?b82; (case a82 => k_is); (case l82 => k_is); (case c82 => k_is); (case k82 => k_is); exact fun _ _ _ _ _ _ us hl => match us, hl with | [_, _], _ => rfl
    ·refine' Ph.zp1 KX GG ?a83 ?l83 ?c83 ?k83 ?b83; (case a83 => k_is); (case l83 => k_is); (case c83 => k_is); (case k83 => k_is); exact fun _ _ _ _ _ _ us hl => match us, hl with | [_, _], _ => rfl
    ·refine' Ph.zp1 KX GG ?a84 ?l84 ?c84 ?k84 ?b84; (case a84 => k_is); (case l84 => k_is); (case c84 => k_is); (case k84 => k_is); exact fun _ _ _ _ _ _ us hl => match us, hl with | [_, _], _ => rfl
    ·refine' Ph.zp1 KX GG ?a85 ?l85 ?c85 ?k85 ?b85; (case a85 => k_is); (case l85 => k_is); (case c85 => k_is); (case k85 => k_is); exact fun _ _ _ _ _ _ us hl => match us, hl with | [_, _], _ => rfl
    ·refine' Ph.zp1 KX GG ?a86 ?l86 ?c86 ?k86 ?b86; (case a86 => k_is); (case l86 => k_is); (case c86 => k_is); (case k86 => k_is); exact fun _ _ _ _ _ _ us hl => match us, hl with | [_, _, _, _], _ => rfl
    ·refine' Ph.zp1 KX GG ?a87 ?l87 ?c87 ?k87 ?b87; (case a87 => k_is); (case l87 => k_is); (case c87 => k_is); (case k87 => k_is); exact fun _ _ _ _ _ _ us hl => match us, hl with | [_], _ => rfl
    ·refine' Ph.zp1 KX GG ?a88 ?l88 ?c88 ?k88 ?b88; (case a88 => k_is); (case l88 => k_is); (case c88 => k_is); (case k88 => k_is); exact fun _ _ _ _ _ _ us hl => match us, hl with | [_, _, _, _], _ => rfl
    ·refine' Ph.zp1 KX GG ?a89 ?l89 ?c89 ?k89 ?b89; (case a89 => k_is); (case l89 => k_is); (case c89 => k_is); (case k89 => k_is); exact fun _ _ _ _ _ _ us hl => match us, hl with | [_, _], _ => rfl
    ·refine' Ph.zp1 KX GG ?a90 ?l90 ?c90 ?k90 ?b90; (case a90 => k_is); (case l90 => k_is); (case c90 => k_is); (case k90 => k_is); exact fun _ _ _ _ _ _ us hl => match us, hl with | [_, _], _ => rfl
    ·refine' Ph.zp1 KX GG ?a91 ?l91 ?c91 ?k91 ?b91; (case a91 => k_is); (case l91 => k_is); (case c91 => k_is); (case k91 => k_is); exact fun _ _ _ _ _ _ us hl => match us, hl with | [_, _], _ => rfl
    ·refine' Ph.zp1 KX GG ?a92 ?l92 ?c92 ?k92 ?b92; (case a92 => k_is); (case l92 => k_is); (case c92 => k_is); (case k92 => k_is); exact fun _ _ _ _ _ _ us hl => match us, hl with | [_, _], _ => rfl
    ·refine' Ph.zp1 KX GG ?a93 ?l93 ?c93 ?k93 ?b93; (case a93 => k_is); (case l93 => k_is); (case c93 => k_is); (case k93 => k_is); exact fun _ _ _ _ _ _ us hl => match us, hl with | [_, _, _, _], _ => rfl
    ·refine' Ph.zp1 KX GG ?a94 ?l94 ?c94 ?k94 ?b94; (case a94 => k_is); (case l94 => k_is); (case c94 => k_is); (case k94 => k_is); exact fun _ _ _ _ _ _ us hl => match us, hl with | [_, _], _ => rfl
    ·refine' Ph.zp1 KX GG ?a95 ?l95 ?c95 ?k95 ?b95; (case a95 => k_is); (case l95 => k_is); (case c95 => k_is); (case k95 => k_is); exact fun _ _ _ _ _ _ us hl => match us, hl with | [_, _, _, _], _ => rfl
    ·refine' Ph.zp1 KX GG ?a96 ?l96 ?c96 ?k96 ?b96; (case a96 => k_is); (case l96 => k_is); (case c96 => k_is); (case k96 => k_is); exact fun _ _ _ _ _ _ us hl => match us, hl with | [_], _ => rfl
    ·refine' Ph.zp1 KX GG ?a97 ?l97 ?c97 ?k97 ?b97; (case a97 => k_is); (case l97 => k_is); (case c97 => k_is); (case k97 => k_is); exact fun _ _ _ _ _ _ us hl => match us, hl with | [_, _, _, _], _ => rfl
    ·refine' Ph.zp1 KX GG ?a98 ?l98 ?c98 ?k98 ?b98; (case a98 => k_is); (case l98 => k_is); (case c98 => k_is); (case k98 => k_is); exact fun _ _ _ _ _ _ us hl => match us, hl with | [_, _, _], _ => rfl
    ·refine' Ph.zp1 KX GG ?a99 ?l99 ?c99 ?k99 ?b99; (case a99 => k_is); (case l99 => k_is); (case c99 => k_is); (case k99 => k_is); exact fun _ _ _ _ _ _ us hl => match us, hl with | [_, _, _], _ => rfl
    ·refine' Ph.zp1 KX GG ?a100 ?l100 ?c100 ?k100 ?b100; (case a100 => k_is); (case l100 => k_is); (case c100 => k_is); (case k100 => k_is); exact fun _ _ _ _ _ _ us hl => match us, hl with | [_, _, _, _], _ => rfl
    ·refine' Ph.zp1 KX GG ?a101 ?l101 ?c101 ?k101 ?b101; (case a101 => k_is); (case l101 => k_is); (case c101 => k_is); (case k101 => k_is); exact fun _ _ _ _ _ _ us hl => match us, hl with | [_, _], _ => rfl
    ·refine' Ph.zp1 KX GG ?a102 ?l102 ?c102 ?k102 ?b102; (case a102 => k_is); (case l102 => k_is); (case c102 => k_is); (case k102 => k_is); exact fun _ _ _ _ _ _ us hl => match us, hl with | [_, _], _ => rfl
    ·refine' Ph.zp1 KX GG ?a103 ?l103 ?c103 ?k103 ?b103; (case a103 => k_is); (case l103 => k_is); (case c103 => k_is); (case k103 => k_is); exact fun _ _ _ _ _ _ us hl => match us, hl with | [_], _ => rfl
   obtain ⟨TF⟩ := TF
   have T : Nonempty (Ph.Txt (L2.KOf KX) mg) := by
    dsimp only [L2.KOf] at *
    refine' ⟨Ph.zk31 KX GG TF ?e0 ?e1 ?e2 ?e3 ?e4 ?e5 ?e6 ?e7 ?e8 ?e9 ?e10 ?e11 ?e12 ?e13 ?e14 ?e15 ?e16 ?e17 ?e18 ?e19 ?e20 ?e21 ?e22 ?e23 ?e24 ?e25 ?e26 ?e27 ?e28 ?e29 ?e30 ?e31 ?e32 ?e33 ?e34 ?e35 ?e36 ?e37 ?e38 ?e39 ?e40 ?e41 ?e42 ?e43 ?e44 ?e45 ?e46 ?e47 ?e48 ?e49 ?e50 ?e51 ?e52 ?e53 ?e54 ?e55 ?e56 ?e57 ?e58 ?e59 ?e60 ?e61 ?e62 ?e63 ?e64 ?e65 ?e66 ?e67 ?e68 ?e69 ?e70 ?e71 ?e72 ?e73 ?e74 ?e75 ?e76 ?e77 ?e78 ?e79 ?e80 ?e81 ?e82 ?e83 ?e84 ?e85 ?e86 ?e87 ?e88 ?e89 ?e90 ?e91 ?e92 ?e93 ?e94 ?e95 ?e96 ?e97 ?e98 ?e99 ?e100 ?e101 ?e102 ?e103 ?e104 ?e105 ?e106 ?e107 ?e108 ?e109 ?e110 ?e111 ?e112 ?e113 ?e114 ?e115 ?e116 ?e117 ?e118 ?e119 ?e120 ?e121 ?e122 ?e123 ?e124 ?e125 ?e126 ?e127 ?e128 ?e129 ?e130 ?e131 ?e132 ?e133 ?e134 ?e135 ?e136 ?e137 ?e138 ?e139 ?e140 ?e141 ?e142 ?e143 ?e144 ?e145 ?e146 ?e147 ?e148 ?e149 ?e150 ?e151 ?e152 ?e153 ?e154 ?e155 ?e156 ?e157 ?e158 ?e159 ?e160 ?e161 ?e162 ?e163 ?e164 ?e165 ?e166 ?e167 ?e168 ?e169 ?e170 ?e171 ?e172 ?e173 ?e174 ?e175 ?e176 ?e177 ?e178 ?e179 ?e180 ?e181 ?e182 ?e183 ?e184 ?e185 ?e186 ?e187 ?e188 ?e189 ?e190 ?e191 ?e192 ?e193 ?e194 ?e195 ?e196 ?e197 ?e198 ?e199 ?e200 ?e201 ?e202 ?e203 ?e204 ?e205 ?e206 ?e207 ?e208 ?e209 ?e210 ?e211 ?e212 ?e213 ?e214 ?e215 ?e216 ?e217 ?e218 ?e219 ?e220 ?e221 ?e222 ?e223 ?e224 ?e225 ?e226 ?e227 ?e228 ?e229 ?e230 ?e231 ?e232 ?e233 ?e234 ?e235 ?e236 ?e237 ?e238 ?e239 ?e240 ?e241 ?e242 ?e243 ?e244 ?e245 ?e246 ?e247 ?e248 ?e249 ?e250 ?e251⟩
    (case e0 => k_is)
    (case e1 => k_is)
    (case e2 => k_is)
    (case e3 => k_is)
    (case e4 => k_is)
    (case e5 => k_is)
    (case e6 => k_is)
    (case e7 => k_is)
    (case e8 => k_is)
    (case e9 => k_is)
    (case e10 => k_is)
    (case e11 => k_is)
    (case e12 => k_is)
    (case e13 => k_is)
    (case e14 => k_is)
    (case e15 => k_is)
    (case e16 => k_is)
    (case e17 => k_is)
    (case e18 => k_is)
    (case e19 => k_is)
    (case e20 => k_is)
    (case e21 => k_is)
    (case e22 => k_is)
    (case e23 => k_is)
    (case e24 => k_is)
    (case e25 => k_is)
    (case e26 => k_is)
    (case e27 => k_is)
    (case e28 => k_is)
    (case e29 => k_is)
    (case e30 => k_is)
    (case e31 => k_is)
    (case e32 => k_is)
    (case e33 => k_is)
    (case e34 => k_is)
    (case e35 => k_is)
    (case e36 => k_is)
    (case e37 => k_is)
    (case e38 => k_is)
    (case e39 => k_is)
    (case e40 => k_is)
    (case e41 => k_is)
    (case e42 => k_is)
    (case e43 => k_is)
    (case e44 => k_is)
    (case e45 => k_is)
    (case e46 => k_is)
    (case e47 => k_is)
    (case e48 => k_is)
    (case e49 => k_is)
    (case e50 => k_is)
    (case e51 => k_is)
    (case e52 => k_is)
    (case e53 => k_is)
    (case e54 => k_is)
    (case e55 => k_is)
    (case e56 => k_is)
    (case e57 => k_is)
    (case e58 => k_is)
    (case e59 => k_is)
    (case e60 => k_is)
    (case e61 => k_is)
    (case e62 => k_is)
    (case e63 => k_is)
    (case e64 => k_is)
    (case e65 => k_is)
    (case e66 => k_is)
    (case e67 => k_is)
    (case e68 => k_is)
    (case e69 => k_is)
    (case e70 => k_is)
    (case e71 => k_is)
    (case e72 => k_is)
    (case e73 => k_is)
    (case e74 => k_is)
    (case e75 => k_is)
    (case e76 => k_is)
    (case e77 => k_is)
    (case e78 => k_is)
    (case e79 => k_is)
    (case e80 => k_is)
    (case e81 => k_is)
    (case e82 => k_is)
    (case e83 => k_is)
    (case e84 => k_is)
    (case e85 => k_is)
    (case e86 => k_is)
    (case e87 => k_is)
    (case e88 => k_is)
    (case e89 => k_is)
    (case e90 => k_is)
    (case e91 => k_is)
    (case e92 => k_is)
    (case e93 => k_is)
    (case e94 => k_is)
    (case e95 => k_is)
    (case e96 => k_is)
    (case e97 => k_is)
    (case e98 => k_is)
    (case e99 => k_is)
    (case e100 => k_is)
    (case e101 => k_is)
    (case e102 => k_is)
    (case e103 => k_is)
    (case e104 => k_is)
    (case e105 => k_is)
    (case e106 => k_is)
    (case e107 => k_is)
    (case e108 => k_is)
    (case e109 => k_is)
    (case e110 => k_is)
    (case e111 => k_is)
    (case e112 => k_is)
    (case e113 => k_is)
    (case e114 => k_is)
    (case e115 => k_is)
    (case e116 => k_is)
    (case e117 => k_is)
    (case e118 => k_is)
    (case e119 => k_is)
    (case e120 => k_is)
    (case e121 => k_is)
    (case e122 => k_is)
    (case e123 => k_is)
    (case e124 => k_is)
    (case e125 => k_is)
    (case e126 => k_is)
    (case e127 => k_is)
    (case e128 => k_is)
    (case e129 => k_is)
    (case e130 => k_is)
    (case e131 => k_is)
    (case e132 => k_is)
    (case e133 => k_is)
    (case e134 => k_is)
    (case e135 => k_is)
    (case e136 => k_is)
    (case e137 => k_is)
    (case e138 => k_is)
    (case e139 => k_is)
    (case e140 => k_is)
    (case e141 => k_is)
    (case e142 => k_is)
    (case e143 => k_is)
    (case e144 => k_is)
    (case e145 => k_is)
    (case e146 => k_is)
    (case e147 => k_is)
    (case e148 => k_is)
    (case e149 => k_is)
    (case e150 => k_is)
    (case e151 => k_is)
    (case e152 => k_is)
    (case e153 => k_is)
    (case e154 => k_is)
    (case e155 => k_is)
    (case e156 => k_is)
    (case e157 => k_is)
    (case e158 => k_is)
    (case e159 => k_is)
    (case e160 => k_is)
    (case e161 => k_is)
    (case e162 => k_is)
    (case e163 => k_is)
    (case e164 => k_is)
    (case e165 => k_is)
    (case e166 => k_is)
    (case e167 => k_is)
    (case e168 => k_is)
    (case e169 => k_is)
    (case e170 => k_is)
    (case e171 => k_is)
    (case e172 => k_is)
    (case e173 => k_is)
    (case e174 => k_is)
    (case e175 => k_is)
    (case e176 => k_is)
    (case e177 => k_is)
    (case e178 => k_is)
    (case e179 => k_is)
    (case e180 => k_is)
    (case e181 => k_is)
    (case e182 => k_is)
    (case e183 => k_is)
    (case e184 => k_is)
    (case e185 => k_is)
    (case e186 => k_is)
    (case e187 => k_is)
    (case e188 => k_is)
    (case e189 => k_is)
    (case e190 => k_is)
    (case e191 => k_is)
    (case e192 => k_is)
    (case e193 => k_is)
    (case e194 => k_is)
    (case e195 => k_is)
    (case e196 => k_is)
    (case e197 => k_is)
    (case e198 => k_is)
    (case e199 => k_is)
    (case e200 => k_is)
    (case e201 => k_is)
    (case e202 => k_is)
    (case e203 => k_is)
    (case e204 => k_is)
    (case e205 => k_is)
    (case e206 => k_is)
    (case e207 => k_is)
    (case e208 => k_is)
    (case e209 => k_is)
    (case e210 => k_is)
    (case e211 => k_is)
    (case e212 => k_is)
    (case e213 => k_is)
    (case e214 => k_is)
    (case e215 => k_is)
    (case e216 => k_is)
    (case e217 => k_is)
    (case e218 => k_is)
    (case e219 => k_is)
    (case e220 => k_is)
    (case e221 => k_is)
    (case e222 => k_is)
    (case e223 => k_is)
    (case e224 => k_is)
    (case e225 => k_is)
    (case e226 => k_is)
    (case e227 => k_is)
    (case e228 => k_is)
    (case e229 => k_is)
    (case e230 => k_is)
    (case e231 => k_is)
    (case e232 => k_is)
    (case e233 => k_is)
    (case e234 => k_is)
    (case e235 => k_is)
    (case e236 => k_is)
    (case e237 => k_is)
    (case e238 => k_is)
    (case e239 => k_is)
    (case e240 => k_is)
    (case e241 => k_is)
    (case e242 => k_is)
    (case e243 => k_is)
    (case e244 => k_is)
    (case e245 => k_is)
    (case e246 => k_is)
    (case e247 => k_is)
    (case e248 => k_is)
    (case e249 => k_is)
    (case e250 => k_is)
    (case e251 => k_is)
   obtain ⟨T⟩ := T
   have e := hmg.symm.trans T.zw9.g
   cases e
   exact ⟨T.zw9.fd, fun s us hu => .of_eq (T.zw9.e us hu), fun base _ _ => Ph.zl27 T⟩
  case S =>
   intro K H xs a hO hwi hask hx
   cases hx with
   | cons h1 h2 =>
    cases h2
    cases h1 with
    | lst hs ha =>
     have e := L2.ints_dw a.1 _ ha
     subst e
     have q : ((Codec.inLen 0 17000 a.1 && a.1.all (Codec.inInt (-1000000000000000000) 1000000000000000000)) && true) = true := hwi
     rw [Bool.and_eq_true, Bool.and_eq_true] at q
     exact ⟨_, a.1, rfl, hs, (Codec.inNat_iff.mp q.1.1).2, hask, fun H' p hp => .lst (L2.SqL.of hp) (L2.dw_ints _)⟩
